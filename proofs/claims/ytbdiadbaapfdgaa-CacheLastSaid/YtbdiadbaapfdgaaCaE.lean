/- Layer 11 (cache): Get. -/
import Derived.Test.YtbdiadbaapfdgaaCaC
import Derived.Test.YtbdiadbaapfdgaaRegionG
import Derived.Laws.StructEq
namespace Go.Proofs.Ytbdiadbaapfdgaa.Ca
open Go Go.RowKit Go.Proofs.Ytbdiadbaapfdgaa Go.Maps
set_option linter.unusedVariables false

theorem neq_known (w : World) (a g s a' g' s' : Int) : (binOp .neq 35 (.agg #[.int .i64 a, .int .u64 g, .int .u32 s]) (.agg #[.int .i64 a', .int .u64 g', .int .u32 s'])).run Try.prog w = .ok (.bool (!(a == a' && (g == g' && s == s')))) w := by
  go_simp
  by_cases h1 : a = a' <;> by_cases h2 : g = g' <;> by_cases h3 : s = s' <;> simp [h1, h2, h3]
section
variable {w : World} {p : Nat} {C : Hd} {v : Value} {H : List Sl}
theorem hp_found (h : Hp w p C v H) (x : Nat) : Hp (w.setCell ⟨p, 4, none⟩ (.int .i64 (x : Int))) p { C with found := x } v H :=
  ⟨h.main.set 4 _, row_other h.row h.main (by decide) _ _, fun i hi => (h.slot i hi).setOther (a := ⟨p, 4, none⟩) (fun e => h.pne hi e.symm) _, h.few⟩
theorem hp_missed (h : Hp w p C v H) (x : Nat) : Hp (w.setCell ⟨p, 5, none⟩ (.int .i64 (x : Int))) p { C with missed := x } v H :=
  ⟨h.main.set 5 _, row_other h.row h.main (by decide) _ _, fun i hi => (h.slot i hi).setOther (a := ⟨p, 5, none⟩) (fun e => h.pne hi e.symm) _, h.few⟩
theorem sg_set {H : List Sl} {i : Nat} (hi : i < H.length) (s : Sl) (x : Nat) : sg (H.set i s) x = if x = i then s else sg H x := by
  unfold sg
  rw [List.getD_eq_getElem?_getD, List.getD_eq_getElem?_getD]
  by_cases e : x = i
  · subst e; rw [List.getElem?_set_self hi, if_pos rfl]; rfl
  · rw [List.getElem?_set_ne (fun c => e c.symm), if_neg e]
def Sl.at (s : Sl) (u : Nat) : Sl := { s with use := u }
theorem hp_slot (h : Hp w p C v H) {i : Nat} (hi : i < H.length) (u : Nat) : Hp (w.setCell ⟨(sg H i).blk, 5, none⟩ (.int .u64 (u : Int))) p C v (H.set i ((sg H i).at u)) := by
  refine ⟨h.main.setOther (a := ⟨(sg H i).blk, 5, none⟩) (h.pne hi) _, ?_, fun x hx => ?_, by simpa using h.few⟩
  · have e : (H.set i ((sg H i).at u)).map ptr = H.map ptr := by
      rw [List.map_set]
      apply List.ext_getElem?
      intro x
      by_cases e : x = i
      · subst e
        rw [List.getElem?_set_self (by simpa using hi), List.getElem?_map, List.getElem?_eq_getElem hi, sg_eq hi]; rfl
      · rw [List.getElem?_set_ne (fun c => e c.symm)]
    rw [e, List.length_set]
    exact row_other h.row (h.slot i hi) (by decide) _ _
  · rw [List.length_set] at hx
    rw [sg_set hi]
    by_cases e : x = i
    · subst e
      rw [if_pos rfl]
      exact (h.slot x hx).set 5 _
    · rw [if_neg e]
      exact (h.slot x hx).setOther (a := ⟨(sg H i).blk, 5, none⟩) (fun c => e (h.inj hx hi c.symm)) _
theorem ins_perm : ∀ (l : List Sl) (i : Nat) (h : i < l.length), (l[i] :: l.eraseIdx i).Perm l
  | x :: l, 0, h => List.Perm.refl _
  | x :: l, i + 1, h => (List.Perm.swap x _ _).trans ((ins_perm l i (by simpa using h)).cons x)
theorem set_perm {i : Nat} (hi : i < H.length) (s : Sl) : (H.set i s).Perm (s :: H.eraseIdx i) := by
  have h1 : i < (H.set i s).length := by simpa using hi
  have := ins_perm _ i h1
  rw [List.getElem_set_self, List.eraseIdx_set_eq] at this
  exact this.symm
theorem erase_perm {i : Nat} (hi : i < H.length) : (sg H i :: H.eraseIdx i).Perm H := by
  have := ins_perm _ i hi
  rwa [← sg_eq hi] at this
theorem ft_set {i : Nat} (hi : i < H.length) (u : Nat) {k : Nat} (h : ft v (H.set i ((sg H i).at u)) k) : ft v H k := by
  rcases h with h | ⟨x, hx, rfl⟩
  · exact .inl h
  · rw [List.length_set] at hx
    rw [sg_set hi]
    by_cases e : x = i
    · rw [if_pos e]; exact .inr ⟨i, hi, rfl⟩
    · rw [if_neg e]; exact .inr ⟨x, hx, rfl⟩
end
section
variable {w w' w'' : World} {p mb : Nat} {v v' : Value} {H H' : List Sl} {n : Nat} {l l' : List Sl} {u f m u' f' m' : Nat}
/-- one draw behind -/
def Dr (w wq : World) : Prop := wq = w.drew
/-- another count of what wasn't found -/
theorem miss_of (h : CaI w p mb v H n l u f m) (x : Nat) (w1 : World) (h1 : CaI w1 p mb v H n l u f m) (hc : Chg (reg p mb v H) w w1) : KI w p mb v H n l u f x (w1.setCell ⟨p, 5, none⟩ (.int .i64 (x : Int))) :=
  ⟨v, H, ⟨hp_missed h1.hp x, h1.perm, h1.heap, h1.map.same (Below.heap_setCell _ _ _ _ (fun e => h1.pmb e.symm)), h1.dec, h1.top, h1.len, h1.n1, h1.n2, h1.wf⟩, fun k hk => .inl hk, hc.setCell (p := ⟨p, 5, none⟩) (fun _ => .inl rfl) _⟩
/-- a slot that was used again -/
theorem hit_of {i : Nat} {s : Sl} {w2 w3 : World} (h : CaI w p mb v H n l u f m) (hi : i < H.length) (hs : sg H i = s) (h2 : FxP w2 p ⟨n, mb, u + 1, f + 1, m⟩ v (H.set i (s.at (u + 1))) w3) (hc : Chg (reg p mb v H) w w2) (hm : w2.heap[mb]? = w.heap[mb]?) : KI w p mb v H n (s.at (u + 1) :: rmv l s.addr) (u + 1) (f + 1) m w3 := by
  obtain ⟨H2, hmv, hih⟩ := h2
  rw [List.length_set] at hmv hih
  have hsl : s ∈ l := h.perm.mem_iff.1 (hs ▸ sg_mem hi)
  have hl : l.Perm (s :: rmv l s.addr) := (rmv_perm h.map.nodup hsl).symm
  have hsub : ∀ k, ft v H2 k → ft v H k := fun k hk => ft_set hi (u + 1) (by rw [hs]; exact ft_perm hmv.perm hk)
  have hmb : ∀ k, ft v H k → k ≠ mb := fun k hk => (ft_row h.map h.hp hk).1
  have hc2 : Chg (reg p mb v H) w w3 := hc.trans hmv.chg fun k _ hk => .inr (.inr (ft_set hi (u + 1) (by rw [hs]; exact hk)))
  have hm3 : w3.heap[mb]? = w.heap[mb]? := by
    refine (hmv.chg.block mb (Nat.lt_of_lt_of_le h.map.lt hc.size) fun hk => ?_).trans hm
    exact hmb mb (ft_set hi (u + 1) (by rw [hs]; exact hk)) rfl
  refine ⟨v, H2, ⟨hmv.hp, ?_, ?_, ?_, ?_, ?_, ?_, h.n1, h.n2, ?_⟩, fun k hk => .inl (hsub k hk), hc2⟩
  · refine hmv.perm.trans ((set_perm hi _).trans (List.Perm.cons _ ?_))
    have := (erase_perm hi).trans (h.perm.trans hl)
    rw [hs] at this
    exact List.Perm.cons_inv this
  · rw [hmv.len, List.length_set]; exact hih
  · exact ((h.map.same hm3).perm hl).turn rfl rfl
  · refine List.pairwise_cons.2 ⟨fun t ht => ?_, h.dec.sublist List.filter_sublist⟩
    have := h.top t (rmv_sub t ht)
    show t.use < u + 1
    omega
  · intro t ht
    rcases List.mem_cons.1 ht with rfl | ht
    · exact Nat.le_refl _
    · have := h.top t (rmv_sub t ht); omega
  · rw [List.length_cons, rmv_len h.map.nodup hsl]; exact h.len
  · intro t ht
    rcases List.mem_cons.1 ht with rfl | ht
    · exact h.wf s hsl
    · exact h.wf t (rmv_sub t ht)
/-- what a Get tells -/
def GtP (w : World) (p mb : Nat) (v : Value) (H : List Sl) (n : Nat) (l : List Sl) (u f m : Nat) (a g c : Int) (e : Ending) (w' : World) : Prop :=
  match fnd l a with
  | some s => if s.gen = g ∧ s.sum = c then e = .returned (.tuple #[.int .u8 s.kind, .string s.pay, .bool true]) ∧ KI w p mb v H n (s.at (u + 1) :: rmv l a) (u + 1) (f + 1) m w'
      else e = .returned (.tuple #[.int .u8 0, .string ⟨#[]⟩, .bool false]) ∧ KI w p mb v H n l u f (m + 1) w'
  | none => e = .returned (.tuple #[.int .u8 0, .string ⟨#[]⟩, .bool false]) ∧ KI w p mb v H n l u f (m + 1) w'
theorem gtp_none {a g c : Int} {e : Ending} (h : fnd l a = none) (he : e = .returned (.tuple #[.int .u8 0, .string ⟨#[]⟩, .bool false])) (hk : KI w p mb v H n l u f (m + 1) w') : GtP w p mb v H n l u f m a g c e w' := by
  unfold GtP; rw [h]; exact ⟨he, hk⟩
theorem gtp_other {a g c : Int} {e : Ending} {s : Sl} (h : fnd l a = some s) (hn : ¬ (s.gen = g ∧ s.sum = c)) (he : e = .returned (.tuple #[.int .u8 0, .string ⟨#[]⟩, .bool false])) (hk : KI w p mb v H n l u f (m + 1) w') : GtP w p mb v H n l u f m a g c e w' := by
  unfold GtP; rw [h]; dsimp only; rw [if_neg hn]; exact ⟨he, hk⟩
theorem gtp_hit {a g c : Int} {e : Ending} {s : Sl} (h : fnd l a = some s) (hn : s.gen = g ∧ s.sum = c) (he : e = .returned (.tuple #[.int .u8 s.kind, .string s.pay, .bool true])) (hk : KI w p mb v H n (s.at (u + 1) :: rmv l a) (u + 1) (f + 1) m w') : GtP w p mb v H n l u f m a g c e w' := by
  unfold GtP; rw [h]; dsimp only; rw [if_pos hn]; exact ⟨he, hk⟩
theorem fxp_drew {w w2 : World} {p : Nat} {C : Hd} {v : Value} {H : List Sl} (h : FxP w.drew p C v H w2) : FxP w p C v H w2 := by
  obtain ⟨H1, h1, h2⟩ := h
  exact ⟨H1, ⟨h1.hp, h1.perm, h1.off, ⟨h1.chg.os, h1.chg.tape, h1.chg.output, h1.chg.size, h1.chg.block⟩⟩, h2⟩
theorem KI.drewN (h : KI w p mb v H n l u f m w') (q : Nat) : KI w p mb v H n l u f m (w'.drewN q) := by
  obtain ⟨v', H', h1, h2, h3⟩ := h
  exact ⟨v', H', h1.same fun _ _ => rfl, h2, h3.drewN q⟩
theorem CaI.slot (h : CaI w p mb v H n l u f m) {s : Sl} (hs : s ∈ l) : ∃ i, Has w s.blk 64 (sc s i) := by
  obtain ⟨i, hi, e⟩ := mem_sg (h.perm.mem_iff.2 hs)
  have := h.hp.slot i hi
  rw [e] at this
  exact ⟨i, this⟩
set_option maxRecDepth 100000 in
set_option maxHeartbeats 2000000 in
theorem get_i (h : CaI w p mb v H n l u f m) (a g c : Int) (ha : in64 a) (hu : u < 4611686018427387904) (hf : f < 4611686018427387904) (hm : m < 4611686018427387904) : Calls Try.prog 12 #[.pointer (some ⟨p, 0, none⟩), .agg #[.int .i64 a, .int .u64 g, .int .u32 c]] w (GtP w p mb v H n l u f m a g c) := by
  obtain ⟨w1, hw1⟩ : ∃ w1, w1 = w.alloc (.cells #[.int .i64 a, .int .u64 g, .int .u32 c] 35) := ⟨_, rfl⟩
  have h1 : CaI w1 p mb v H n l u f m := by rw [hw1]; exact h.same fun k hk => Below.heap_alloc _ _ _ (h.lt hk)
  have hx : Has w1 w.heap.size 35 [.int .i64 a, .int .u64 g, .int .u32 c] := by rw [hw1]; exact Has.new w _ _
  have hc1 : Chg (reg p mb v H) w w1 := by rw [hw1]; exact (Chg.refl _ w).alloc _
  have HC0 := Lib.hid (fun (wq : World) (e : Dr w1 wq) => (by rw [show wq = w1.drew from e]; exact ⟨hx.cell 0, hx.cell 1, hx.cell 2⟩ : wq.cell? ⟨w.heap.size, 0, none⟩ = some (.int .i64 a) ∧ wq.cell? ⟨w.heap.size, 1, none⟩ = some (.int .u64 g) ∧ wq.cell? ⟨w.heap.size, 2, none⟩ = some (.int .u32 c)))
  have HC1 := Lib.hid (fun (wq : World) (e : Dr w1 wq) => (by rw [show wq = w1.drew from e]; exact h1.hp.main.cell 1 : wq.cell? ⟨p, 1, none⟩ = some (.map (some mb))))
  have HLK := Lib.hid (fun (wq : World) (e : Dr w1 wq) => (by rw [show wq = w1.drew from e]; exact (h1.map.same (w' := w1.drew) rfl).look ha.1 ha.2 : (Instr.lookup 58 (.map (some mb)) (.int .i64 a) false).run Try.prog wq = .ok (lkV (fnd l a)) wq))
  have HH := Lib.hid h
  have HH1 := Lib.hid h1
  have HX := Lib.hid hx
  have HCH := Lib.hid hc1
  obtain ⟨V, hV⟩ : ∃ V, V = lkV (fnd l a) := ⟨_, rfl⟩
  rw [← hV] at HLK
  have HV := Lib.hid hV
  clear h h1 hx hc1 hV
  go_enter Try.func12, Try.ntmps12
  go_upto_region 3 with fail
  rw [← hw1]
  have HW1 := Lib.hid hw1
  clear hw1
  refine Reg.region_vals (by kernel_rfl) [(10, .pointer (some ⟨p, 0, none⟩)), (11, .pointer (some ⟨p, 0, none⟩)), (12, .pointer (some ⟨p, 1, none⟩)), (13, .map (some mb)), (14, .pointer (some ⟨w.heap.size, 0, none⟩)), (15, .int .i64 a), (16, V), (7, V)] (fun l wy => Dr w1 wy) (by kernel_rfl) (by kernel_rfl) (by kernel_rfl) (rfl) ⟨?_, ?_, ?_, ?_, ?_, ?_, ?_, ?_, trivial⟩ ?hend
  · -- 0: 10 := Op.move t0
    intro aq wq lq hI hl hdone hlater hold hd ho
    have h0 : aq.tmps.getD 0 undef = .pointer (some ⟨p, 0, none⟩) := ho 0 (by kernel_rfl)
    clear hd ho hdone hlater hold
    exact Reg.step2_move (.tmp 0) rfl h0 hI trivial
  · -- 1: 11 := Op.nilCheck t10
    intro aq wq lq hI hl hdone hlater hold hd ho
    have h10 : aq.tmps.getD 10 undef = .pointer (some ⟨p, 0, none⟩) := hd 10 (by kernel_rfl)
    clear hd ho hdone hlater hold
    rw [Array.getD_eq_getD_getElem?] at h10
    refine Reg.step2_val (.pointer (some ⟨p, 0, none⟩)) ?_ rfl hI trivial
    go_simp
  · -- 2: 12 := Op.fieldAddr 62 t11 1
    intro aq wq lq hI hl hdone hlater hold hd ho
    have h11 : aq.tmps.getD 11 undef = .pointer (some ⟨p, 0, none⟩) := hd 11 (by kernel_rfl)
    clear hd ho hdone hlater hold
    rw [Array.getD_eq_getD_getElem?] at h11
    refine Reg.step2_val (.pointer (some ⟨p, 1, none⟩)) ?_ rfl hI trivial
    go_simp
  · -- 3: 13 := Op.load 58 t12
    intro aq wq lq hI hl hdone hlater hold hd ho
    have h12 : aq.tmps.getD 12 undef = .pointer (some ⟨p, 1, none⟩) := hd 12 (by kernel_rfl)
    clear hd ho hdone hlater hold
    rw [Array.getD_eq_getD_getElem?] at h12
    have e0 := HC1.out wq hI
    refine Reg.step2_val (.map (some mb)) ?_ rfl hI trivial
    go_simp
  · -- 4: 14 := Op.fieldAddr 35 t3 0
    intro aq wq lq hI hl hdone hlater hold hd ho
    have h3 : aq.tmps.getD 3 undef = .pointer (some ⟨w.heap.size, 0, none⟩) := ho 3 (by kernel_rfl)
    clear hd ho hdone hlater hold
    rw [Array.getD_eq_getD_getElem?] at h3
    refine Reg.step2_val (.pointer (some ⟨w.heap.size, 0, none⟩)) ?_ rfl hI trivial
    go_simp
  · -- 5: 15 := Op.load 3 t14
    intro aq wq lq hI hl hdone hlater hold hd ho
    have h14 : aq.tmps.getD 14 undef = .pointer (some ⟨w.heap.size, 0, none⟩) := hd 14 (by kernel_rfl)
    clear hd ho hdone hlater hold
    rw [Array.getD_eq_getD_getElem?] at h14
    have e0 := (HC0.out wq hI).1
    refine Reg.step2_val (.int .i64 a) ?_ rfl hI trivial
    go_simp
  · -- 6: 16 := Op.lookup 58 t13 t15 false
    intro aq wq lq hI hl hdone hlater hold hd ho
    have h13 : aq.tmps.getD 13 undef = .map (some mb) := hd 13 (by kernel_rfl)
    have h15 : aq.tmps.getD 15 undef = .int .i64 a := hd 15 (by kernel_rfl)
    clear hd ho hdone hlater hold
    rw [Array.getD_eq_getD_getElem?] at h13 h15
    have e0 := HLK.out wq hI
    refine Reg.step2_val V ?_ rfl hI trivial
    clear hI
    simp [execOp]
    go_simp
  · -- 7: 7 := Op.assign t16
    intro aq wq lq hI hl hdone hlater hold hd ho
    have h16 : aq.tmps.getD 16 undef = V := hd 16 (by kernel_rfl)
    clear hd ho hdone hlater hold
    exact Reg.step2_assign (.tmp 16) rfl h16 hI trivial
  case hend =>
  intro w2 hd2
  simp only [Reg.fill, List.foldl_cons, List.foldl_nil, List.setIfInBounds_toArray, List.set_cons_zero, List.set_cons_succ]
  have hh2 : CaI w2 p mb v H n l u f m := by rw [show w2 = w1.drew from hd2]; exact HH1.out.same fun k _ => rfl
  have hx2 : Has w2 w.heap.size 35 [.int .i64 a, .int .u64 g, .int .u32 c] := by rw [show w2 = w1.drew from hd2]; exact HX.out.drew
  have hc2 : Chg (reg p mb v H) w w2 := by rw [show w2 = w1.drew from hd2]; exact HCH.out.drew
  have HH2 := Lib.hid hh2
  have HX2 := Lib.hid hx2
  have HC2 := Lib.hid hc2
  have HM2 := Lib.hid (show w2.heap[mb]? = w.heap[mb]? by rw [show w2 = w1.drew from hd2, HW1.out]; exact Below.heap_alloc _ _ _ HH.out.map.lt)
  clear hh2 hx2 hc2 hd2 HC0 HC1 HLK HH1 HX HCH HW1
  cases e : fnd l a with
  | none =>
    have hV : V = .pointer none := by rw [HV.out, e]; rfl
    clear HV
    subst hV
    have HE := Lib.hid e
    clear e
    go_upto_region 4 with fail
    refine Reg.region_valsG (by kernel_rfl) [(17, .pointer none), (18, .bool true), (19, .bool true), (20, undef), (21, undef), (22, undef), (23, undef), (24, undef), (25, undef), (26, .bool true)] (fun l wy => Dr w2 wy) (by kernel_rfl) (by kernel_rfl) [3, 4, 5, 6, 7, 8] (by kernel_rfl) (rfl) ⟨?_, ?_, ?_, ?_, ?_, ?_, ?_, ?_, ?_, ?_, trivial⟩ ?hend
    · -- 0: 17 := Op.move t7
      intro aq wq lq hI hl hdone hlater hold hd ho
      have h7 : aq.tmps.getD 7 undef = .pointer none := ho 7 (by kernel_rfl)
      clear hd ho hdone hlater hold
      exact Reg.step2_move (.tmp 7) rfl h7 hI trivial
    · -- 1: 18 := Op.binOp BinOp.eql 65 t17 (const (Value.pointer none)) 65
      intro aq wq lq hI hl hdone hlater hold hd ho
      have h17 : aq.tmps.getD 17 undef = .pointer none := hd 17 (by kernel_rfl)
      clear hd ho hdone hlater hold
      rw [Array.getD_eq_getD_getElem?] at h17
      refine Reg.step2_val (.bool true) ?_ rfl hI trivial
      simp [execOp, Act.eval, h17]
      try go_simp
    · -- 2: 19 := Op.move t18
      intro aq wq lq hI hl hdone hlater hold hd ho
      have h18 : aq.tmps.getD 18 undef = .bool true := hd 18 (by kernel_rfl)
      clear hd ho hdone hlater hold
      exact Reg.step2_move (.tmp 18) rfl h18 hI trivial
    · -- 3: 20 := Op.move t7
      intro aq wq lq hI hl hdone hlater hold hd ho
      exact Reg.stepG_skip rfl hI trivial
    · -- 4: 21 := Op.nilCheck t20
      intro aq wq lq hI hl hdone hlater hold hd ho
      exact Reg.stepG_skip rfl hI trivial
    · -- 5: 22 := Op.fieldAddr 64 t21 0
      intro aq wq lq hI hl hdone hlater hold hd ho
      exact Reg.stepG_skip rfl hI trivial
    · -- 6: 23 := Op.load 35 t22
      intro aq wq lq hI hl hdone hlater hold hd ho
      exact Reg.stepG_skip rfl hI trivial
    · -- 7: 24 := Op.load 35 t3
      intro aq wq lq hI hl hdone hlater hold hd ho
      exact Reg.stepG_skip rfl hI trivial
    · -- 8: 25 := Op.binOp BinOp.neq 35 t23 t24 35
      intro aq wq lq hI hl hdone hlater hold hd ho
      exact Reg.stepG_skip rfl hI trivial
    · -- 9: 26 := Op.pick t19 (const (Value.bool true)) t25
      intro aq wq lq hI hl hdone hlater hold hd ho
      have h19 : aq.tmps.getD 19 undef = .bool true := hd 19 (by kernel_rfl)
      have h25 : aq.tmps.getD 25 undef = undef := hd 25 (by kernel_rfl)
      clear hd ho hdone hlater hold
      rw [Array.getD_eq_getD_getElem?] at h19 h25
      refine Reg.step2_val (.bool true) ?_ rfl hI trivial
      simp [execOp, Act.eval, h19, h25]
      try go_simp
    case hend =>
    intro w3 hd3
    simp only [Reg.fill, List.foldl_cons, List.foldl_nil, List.setIfInBounds_toArray, List.set_cons_zero, List.set_cons_succ]
    have HH3 := Lib.hid (show CaI w3 p mb v H n l u f m by rw [show w3 = w2.drew from hd3]; exact HH2.out.same fun k _ => rfl)
    have HC3 := Lib.hid (show Chg (reg p mb v H) w w3 by rw [show w3 = w2.drew from hd3]; exact HC2.out.drew)
    clear hd3
    have c5 := HH3.out.hp.main.cell 5
    have z5 := HH3.out.hp.main.frozen 5
    simp only [cc, List.getElem?_cons_zero, List.getElem?_cons_succ] at c5
    have HR := Lib.hid (miss_of HH.out (m + 1) w3 HH3.out HC3.out)
    obtain ⟨y, hy⟩ : ∃ y : Int, y = ((m + 1 : Nat) : Int) := ⟨_, rfl⟩
    have hq : (m : Int) + 1 = y := by omega
    rw [← hy] at HR
    clear hy
    go_wp2
    go_ret3
    exact gtp_none HE.out rfl HR.out
  | some s =>
    have hV : V = ptr s := by rw [HV.out, e]; rfl
    clear HV
    subst hV
    obtain ⟨hsl, had⟩ := fnd_some e
    obtain ⟨i, hi, hsi⟩ := mem_sg (HH2.out.perm.mem_iff.2 hsl)
    have HS := Lib.hid (fun (wq : World) (e : Dr w2 wq) => (by rw [show wq = w2.drew from e]; have := (HH2.out.hp.slot i hi).drew; rw [hsi] at this; exact this : Has wq s.blk 64 (sc s i)))
    have HX3 := Lib.hid (fun (wq : World) (e : Dr w2 wq) => (by rw [show wq = w2.drew from e]; exact HX2.out.drew : Has wq w.heap.size 35 [.int .i64 a, .int .u64 g, .int .u32 c]))
    have HAD := Lib.hid had
    have HI := Lib.hid hi
    have HSI := Lib.hid hsi
    have HE := Lib.hid e
    obtain ⟨B, hB⟩ : ∃ B, B = !(s.addr == a && (s.gen == g && s.sum == c)) := ⟨_, rfl⟩
    have HB := Lib.hid hB
    clear e had hi hsi hsl hB
    go_upto_region 4 with fail
    refine Reg.region_vals (by kernel_rfl) [(17, ptr s), (18, .bool false), (19, .bool false), (20, ptr s), (21, ptr s), (22, ptr s), (23, .agg #[.int .i64 s.addr, .int .u64 s.gen, .int .u32 s.sum]), (24, .agg #[.int .i64 a, .int .u64 g, .int .u32 c]), (25, .bool B), (26, .bool B)] (fun l wy => Dr w2 wy) (by kernel_rfl) (by kernel_rfl) (by kernel_rfl) (rfl) ⟨?_, ?_, ?_, ?_, ?_, ?_, ?_, ?_, ?_, ?_, trivial⟩ ?hend
    · -- 0: 17 := Op.move t7
      intro aq wq lq hI hl hdone hlater hold hd ho
      have h7 : aq.tmps.getD 7 undef = ptr s := ho 7 (by kernel_rfl)
      clear hd ho hdone hlater hold
      exact Reg.step2_move (.tmp 7) rfl h7 hI trivial
    · -- 1: 18 := Op.binOp BinOp.eql 65 t17 (const (Value.pointer none)) 65
      intro aq wq lq hI hl hdone hlater hold hd ho
      have h17 : aq.tmps.getD 17 undef = ptr s := hd 17 (by kernel_rfl)
      clear hd ho hdone hlater hold
      rw [Array.getD_eq_getD_getElem?] at h17
      refine Reg.step2_val (.bool false) ?_ rfl hI trivial
      simp [execOp, Act.eval, h17]
      try go_simp
    · -- 2: 19 := Op.move t18
      intro aq wq lq hI hl hdone hlater hold hd ho
      have h18 : aq.tmps.getD 18 undef = .bool false := hd 18 (by kernel_rfl)
      clear hd ho hdone hlater hold
      exact Reg.step2_move (.tmp 18) rfl h18 hI trivial
    · -- 3: 20 := Op.move t7
      intro aq wq lq hI hl hdone hlater hold hd ho
      have h7 : aq.tmps.getD 7 undef = ptr s := ho 7 (by kernel_rfl)
      clear hd ho hdone hlater hold
      exact Reg.step2_move (.tmp 7) rfl h7 hI trivial
    · -- 4: 21 := Op.nilCheck t20
      intro aq wq lq hI hl hdone hlater hold hd ho
      have h20 : aq.tmps.getD 20 undef = ptr s := hd 20 (by kernel_rfl)
      clear hd ho hdone hlater hold
      rw [Array.getD_eq_getD_getElem?] at h20
      refine Reg.step2_val (ptr s) ?_ rfl hI trivial
      go_simp
    · -- 5: 22 := Op.fieldAddr 64 t21 0
      intro aq wq lq hI hl hdone hlater hold hd ho
      have h21 : aq.tmps.getD 21 undef = ptr s := hd 21 (by kernel_rfl)
      clear hd ho hdone hlater hold
      rw [Array.getD_eq_getD_getElem?] at h21
      refine Reg.step2_val (ptr s) ?_ rfl hI trivial
      go_simp
    · -- 6: 23 := Op.load 35 t22
      intro aq wq lq hI hl hdone hlater hold hd ho
      have h22 : aq.tmps.getD 22 undef = ptr s := hd 22 (by kernel_rfl)
      clear hd ho hdone hlater hold
      rw [Array.getD_eq_getD_getElem?] at h22
      have e0 := (HS.out wq hI).cell 0
      have e1 := (HS.out wq hI).cell 1
      have e2 := (HS.out wq hI).cell 2
      simp only [sc, List.getElem?_cons_zero, List.getElem?_cons_succ] at e0 e1 e2
      refine Reg.step2_val (.agg #[.int .i64 s.addr, .int .u64 s.gen, .int .u32 s.sum]) ?_ rfl hI trivial
      go_simp
    · -- 7: 24 := Op.load 35 t3
      intro aq wq lq hI hl hdone hlater hold hd ho
      have h3 : aq.tmps.getD 3 undef = .pointer (some ⟨w.heap.size, 0, none⟩) := ho 3 (by kernel_rfl)
      clear hd ho hdone hlater hold
      rw [Array.getD_eq_getD_getElem?] at h3
      have e0 := (HX3.out wq hI).cell 0
      have e1 := (HX3.out wq hI).cell 1
      have e2 := (HX3.out wq hI).cell 2
      simp only [List.getElem?_cons_zero, List.getElem?_cons_succ] at e0 e1 e2
      refine Reg.step2_val (.agg #[.int .i64 a, .int .u64 g, .int .u32 c]) ?_ rfl hI trivial
      go_simp
    · -- 8: 25 := Op.binOp BinOp.neq 35 t23 t24 35
      intro aq wq lq hI hl hdone hlater hold hd ho
      have h23 : aq.tmps.getD 23 undef = .agg #[.int .i64 s.addr, .int .u64 s.gen, .int .u32 s.sum] := hd 23 (by kernel_rfl)
      have h24 : aq.tmps.getD 24 undef = .agg #[.int .i64 a, .int .u64 g, .int .u32 c] := hd 24 (by kernel_rfl)
      clear hd ho hdone hlater hold
      rw [Array.getD_eq_getD_getElem?] at h23 h24
      refine Reg.step2_val (.bool B) ?_ rfl hI trivial
      clear hI
      simp [execOp]
      go_simp
      rw [HB.out]
      by_cases h1 : s.addr = a <;> by_cases h2 : s.gen = g <;> by_cases h3 : s.sum = c <;> simp [h1, h2, h3]
    · -- 9: 26 := Op.pick t19 (const (Value.bool true)) t25
      intro aq wq lq hI hl hdone hlater hold hd ho
      have h19 : aq.tmps.getD 19 undef = .bool false := hd 19 (by kernel_rfl)
      have h25 : aq.tmps.getD 25 undef = .bool B := hd 25 (by kernel_rfl)
      clear hd ho hdone hlater hold
      rw [Array.getD_eq_getD_getElem?] at h19 h25
      refine Reg.step2_val (.bool B) ?_ rfl hI trivial
      simp [execOp, Act.eval, h19, h25]
      try go_simp
    case hend =>
    intro w3 hd3
    simp only [Reg.fill, List.foldl_cons, List.foldl_nil, List.setIfInBounds_toArray, List.set_cons_zero, List.set_cons_succ]
    have HH3 := Lib.hid (show CaI w3 p mb v H n l u f m by rw [show w3 = w2.drew from hd3]; exact HH2.out.same fun k _ => rfl)
    have HC3 := Lib.hid (show Chg (reg p mb v H) w w3 by rw [show w3 = w2.drew from hd3]; exact HC2.out.drew)
    have HM3 := Lib.hid (show w3.heap[mb]? = w.heap[mb]? by rw [show w3 = w2.drew from hd3]; exact HM2.out)
    clear hd3 HS HX3
    cases B with
    | true =>
      have HN := Lib.hid (show ¬ (s.gen = g ∧ s.sum = c) from fun hc => by have := HB.out; rw [HAD.out, hc.1, hc.2] at this; simp at this)
      have c5 := HH3.out.hp.main.cell 5
      have z5 := HH3.out.hp.main.frozen 5
      simp only [cc, List.getElem?_cons_zero, List.getElem?_cons_succ] at c5
      have HR := Lib.hid (miss_of HH.out (m + 1) w3 HH3.out HC3.out)
      obtain ⟨y, hy⟩ : ∃ y : Int, y = ((m + 1 : Nat) : Int) := ⟨_, rfl⟩
      have hq : (m : Int) + 1 = y := by omega
      rw [← hy] at HR
      clear hy
      go_wp2
      go_ret3
      exact gtp_other HE.out HN.out rfl HR.out
    | false =>
      have HN := Lib.hid (show s.gen = g ∧ s.sum = c by have := HB.out; simpa [HAD.out] using this)
      have c4 := HH3.out.hp.main.cell 4
      have z4 := HH3.out.hp.main.frozen 4
      simp only [cc, List.getElem?_cons_zero, List.getElem?_cons_succ] at c4
      have HP4 := Lib.hid (show Hp (w3.setCell ⟨p, 4, none⟩ (.int .i64 ((f + 1 : Nat) : Int))) p ⟨n, mb, u, f + 1, m⟩ v H from hp_found HH3.out.hp (f + 1))
      have HC4 := Lib.hid (HC3.out.setCell (p := ⟨p, 4, none⟩) (fun _ => .inl rfl) (.int .i64 ((f + 1 : Nat) : Int)))
      have HM4 := Lib.hid ((Below.heap_setCell w3 ⟨p, 4, none⟩ (.int .i64 ((f + 1 : Nat) : Int)) mb (fun e => HH.out.pmb e.symm)).trans HM3.out)
      obtain ⟨y, hy⟩ : ∃ y : Int, y = ((f + 1 : Nat) : Int) := ⟨_, rfl⟩
      have hq : (f : Int) + 1 = y := by omega
      rw [← hy] at HP4 HC4 HM4
      clear hy
      go_wp2_with fail
      obtain ⟨z, hz⟩ : ∃ z : Int, z = ((u + 1 : Nat) : Int) := ⟨_, rfl⟩
      refine (next_any HP4.out (by show u < _; omega) z hz).mono ?_
      rintro e w5 ⟨rfl, hw5⟩
      have HP5 := Lib.hid (show Hp w5 p ⟨n, mb, u + 1, f + 1, m⟩ v H by rw [hw5, hz]; exact hp_use HP4.out (u + 1))
      have HC5 := Lib.hid (show Chg (reg p mb v H) w w5 by rw [hw5]; exact HC4.out.setCell (p := ⟨p, 3, none⟩) (fun _ => .inl rfl) _)
      have HM5 := Lib.hid (show w5.heap[mb]? = w.heap[mb]? by rw [hw5]; exact (Below.heap_setCell _ _ _ _ (fun e => HH.out.pmb e.symm)).trans HM4.out)
      clear hw5 c4 z4 hq HP4 HC4 HM4 HX2 HC2 HM2 HH2
      have hs5 := HP5.out.slot i HI.out
      rw [HSI.out] at hs5
      have c5 := hs5.cell 5
      have z5 := hs5.frozen 5
      simp only [sc, List.getElem?_cons_zero, List.getElem?_cons_succ] at c5
      obtain ⟨w6, hw6⟩ : ∃ w6, w6 = w5.setCell ⟨s.blk, 5, none⟩ (.int .u64 z) := ⟨_, rfl⟩
      have HP6 := Lib.hid (show Hp w6 p ⟨n, mb, u + 1, f + 1, m⟩ v (H.set i (s.at (u + 1))) by rw [hw6, hz, ← HSI.out]; exact hp_slot HP5.out HI.out (u + 1))
      have HC6 := Lib.hid (show Chg (reg p mb v H) w w6 by rw [hw6]; exact HC5.out.setCell (p := ⟨s.blk, 5, none⟩) (fun _ => .inr (.inr (.inr ⟨i, HI.out, by rw [HSI.out]⟩))) _)
      have HM6 := Lib.hid (show w6.heap[mb]? = w.heap[mb]? by rw [hw6]; exact (Below.heap_setCell _ _ _ _ (fun e => (ft_row HH.out.map HH.out.hp (.inr ⟨i, HI.out, by rw [HSI.out]⟩)).1 e.symm)).trans HM5.out)
      clear hs5 hz
      have HI6 := Lib.hid (show i < (H.set i (s.at (u + 1))).length by rw [List.length_set]; exact HI.out)
      have HIH := Lib.hid (show DnAt (H.set i (s.at (u + 1))).length (useK (H.set i (s.at (u + 1)))) i by
        rw [List.length_set]
        exact HH.out.heap.dn (fun x _ hx => by show (sg (H.set i (s.at (u + 1))) x).use = _; rw [sg_set HI.out, if_neg hx]) HI.out)
      have HFX := Lib.hid (fun (wq : World) (e : Dr w6 wq) => (by rw [show wq = w6.drew from e]; exact (fix_any (HP6.out.drewN 1) i HI6.out HIH.out).mono (fun e w' ⟨h1, h2⟩ => ⟨h1, fxp_drew h2⟩) : Calls Try.prog 20 #[hp p, .int .i64 i] wq fun e w' => e = .returned (.tuple #[]) ∧ FxP w6 p ⟨n, mb, u + 1, f + 1, m⟩ v (H.set i (s.at (u + 1))) w'))
      have HCL := Lib.hid (fun (wq : World) (e : Dr w6 wq) => (by rw [show wq = w6.drew from e]; have := (HP6.out.slot i HI6.out).drew.cell 6; rw [sg_set HI.out, if_pos rfl] at this; exact this : wq.cell? ⟨s.blk, 6, none⟩ = some (.int .i64 (i : Nat))))
      go_upto_region 9 with fail
      rw [← hw6]
      clear hw6 c5 z5
      refine Reg.region_vals (by kernel_rfl) [(46, .pointer (some ⟨p, 0, none⟩)), (47, .pointer (some ⟨p, 0, none⟩)), (48, .pointer (some ⟨p, 2, none⟩)), (49, hp p), (50, ptr s), (51, ptr s), (52, .pointer (some ⟨s.blk, 6, none⟩)), (53, .int .i64 (i : Nat)), (54, .tuple #[])] (fun l wy => bif l 8 then FxP w6 p ⟨n, mb, u + 1, f + 1, m⟩ v (H.set i (s.at (u + 1))) wy else Dr w6 wy) (by kernel_rfl) (by kernel_rfl) (by kernel_rfl) (rfl) ⟨?_, ?_, ?_, ?_, ?_, ?_, ?_, ?_, ?_, trivial⟩ ?hend
      · -- 0: 46 := Op.move t0
        intro aq wq lq hI hl hdone hlater hold hd ho
        have h0 : aq.tmps.getD 0 undef = .pointer (some ⟨p, 0, none⟩) := ho 0 (by kernel_rfl)
        clear hd ho hdone hlater hold
        exact Reg.step2_move (.tmp 0) rfl h0 hI trivial
      · -- 1: 47 := Op.nilCheck t46
        intro aq wq lq hI hl hdone hlater hold hd ho
        have h46 : aq.tmps.getD 46 undef = .pointer (some ⟨p, 0, none⟩) := hd 46 (by kernel_rfl)
        clear hd ho hdone hlater hold
        rw [Array.getD_eq_getD_getElem?] at h46
        refine Reg.step2_val (.pointer (some ⟨p, 0, none⟩)) ?_ rfl hI trivial
        go_simp
      · -- 2: 48 := Op.fieldAddr 62 t47 2
        intro aq wq lq hI hl hdone hlater hold hd ho
        have h47 : aq.tmps.getD 47 undef = .pointer (some ⟨p, 0, none⟩) := hd 47 (by kernel_rfl)
        clear hd ho hdone hlater hold
        rw [Array.getD_eq_getD_getElem?] at h47
        refine Reg.step2_val (.pointer (some ⟨p, 2, none⟩)) ?_ rfl hI trivial
        go_simp
      · -- 3: 49 := Op.makeInterface 68 t48
        intro aq wq lq hI hl hdone hlater hold hd ho
        have h48 : aq.tmps.getD 48 undef = .pointer (some ⟨p, 2, none⟩) := hd 48 (by kernel_rfl)
        clear hd ho hdone hlater hold
        rw [Array.getD_eq_getD_getElem?] at h48
        refine Reg.step2_val (hp p) ?_ rfl hI trivial
        simp [execOp, Act.eval, h48]
        try go_simp
      · -- 4: 50 := Op.move t7
        intro aq wq lq hI hl hdone hlater hold hd ho
        have h7 : aq.tmps.getD 7 undef = ptr s := ho 7 (by kernel_rfl)
        clear hd ho hdone hlater hold
        exact Reg.step2_move (.tmp 7) rfl h7 hI trivial
      · -- 5: 51 := Op.nilCheck t50
        intro aq wq lq hI hl hdone hlater hold hd ho
        have h50 : aq.tmps.getD 50 undef = ptr s := hd 50 (by kernel_rfl)
        clear hd ho hdone hlater hold
        rw [Array.getD_eq_getD_getElem?] at h50
        refine Reg.step2_val (ptr s) ?_ rfl hI trivial
        go_simp
      · -- 6: 52 := Op.fieldAddr 64 t51 4
        intro aq wq lq hI hl hdone hlater hold hd ho
        have h51 : aq.tmps.getD 51 undef = ptr s := hd 51 (by kernel_rfl)
        clear hd ho hdone hlater hold
        rw [Array.getD_eq_getD_getElem?] at h51
        refine Reg.step2_val (.pointer (some ⟨s.blk, 6, none⟩)) ?_ rfl hI trivial
        go_simp
      · -- 7: 53 := Op.load 3 t52
        intro aq wq lq hI hl hdone hlater hold hd ho
        have h52 : aq.tmps.getD 52 undef = .pointer (some ⟨s.blk, 6, none⟩) := hd 52 (by kernel_rfl)
        have gl8 : lq 8 = false := hlater 8 (by kernel_rfl)
        clear hd ho hdone hlater hold
        rw [Array.getD_eq_getD_getElem?] at h52
        have hJ := hI
        rw [gl8] at hJ
        have e0 := HCL.out wq hJ
        refine Reg.step2_val (.int .i64 (i : Nat)) ?_ rfl hI trivial
        clear hI hJ
        go_simp
      · -- 8: 54 := Op.call ( value (Operand.func 20), args := #(t49, t53), argT
        intro aq wq lq hI hl hdone hlater hold hd ho
        have h49 : aq.tmps.getD 49 undef = hp p := hd 49 (by kernel_rfl)
        have h53 : aq.tmps.getD 53 undef = .int .i64 (i : Nat) := hd 53 (by kernel_rfl)
        clear hd ho hdone hlater hold
        rw [Array.getD_eq_getD_getElem?] at h49 h53
        have hJ := hI
        rw [show lq 8 = false from hl] at hJ
        clear hI
        refine Reg.step2_call 20 #[hp p, .int .i64 (i : Nat)] ?_ ((HFX.out wq hJ).mono ?_)
        · clear hJ
          simp [execOp]
          go_simp
        · rintro e w' ⟨rfl, hr⟩
          exact ⟨_, rfl, rfl, hr, trivial⟩
      case hend =>
      intro w7 hI
      simp only [Reg.fill, List.foldl_cons, List.foldl_nil, List.setIfInBounds_toArray, List.set_cons_zero, List.set_cons_succ]
      have HK := Lib.hid (show KI w p mb v H n (s.at (u + 1) :: rmv l s.addr) (u + 1) (f + 1) m w7 from hit_of HH.out HI.out HSI.out hI HC6.out HM6.out)
      have hsl : ∃ i, Has w7 s.blk 64 (sc (s.at (u + 1)) i) := by
        obtain ⟨v', H', h1, _, _⟩ := HK.out
        exact h1.slot (s := s.at (u + 1)) (List.mem_cons_self ..)
      obtain ⟨j, hj⟩ := hsl
      have c3 := hj.cell 3
      have c4 := hj.cell 4
      simp only [sc, Sl.at, List.getElem?_cons_zero, List.getElem?_cons_succ] at c3 c4
      clear hI hj HFX HCL HIH HP6 HP5 HC5 HM5
      dsimp only [ptr]
      go_upto_region 10 with fail
      go_quiet (fail)
      go_wp2
      go_ret3
      rw [HAD.out] at HK
      exact gtp_hit HE.out HN.out rfl (HK.out.drewN _)
end
end Go.Proofs.Ytbdiadbaapfdgaa.Ca
