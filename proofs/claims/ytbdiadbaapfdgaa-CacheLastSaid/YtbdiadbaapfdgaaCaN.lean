/- Layer 11 (cache): Put. -/
import Derived.Test.YtbdiadbaapfdgaaCaE
namespace Go.Proofs.Ytbdiadbaapfdgaa.Ca
open Go Go.RowKit Go.Proofs.Ytbdiadbaapfdgaa Go.Maps
set_option linter.unusedVariables false

section
variable {w w' w'' : World} {p mb : Nat} {v v' : Value} {H H' : List Sl} {n : Nat} {l l' : List Sl} {u f m u' f' m' : Nat}
theorem rmv_last (hd : l.Pairwise fun a b => b.use < a.use) (hn : (l.map Sl.addr).Nodup) (hp : H.Perm l) (hh : IsH H.length (useK H)) (h0 : 0 < l.length) : rmv l (sg H 0).addr = l.take (l.length - 1) := by
  have hl := hp.length_eq
  have ht : sg H 0 ∈ l := hp.mem_iff.1 (sg_mem (by omega))
  have hle : ∀ t ∈ l, (sg H 0).use ≤ t.use := fun t h => by
    obtain ⟨j, hj, e⟩ := mem_sg (hp.mem_iff.2 h)
    have := hh.least j hj
    rw [← e]; exact this
  generalize sg H 0 = t at *
  obtain ⟨l0, z, rfl⟩ : ∃ l0 z, l = l0 ++ [z] := ⟨l.dropLast, l.getLast (by intro e; subst e; simp at h0), (List.dropLast_concat_getLast _).symm⟩
  have hz : t = z := by
    rcases List.mem_append.1 ht with h | h
    · have := (List.pairwise_append.1 hd).2.2 t h z (List.mem_singleton_self z)
      have := hle z (List.mem_append_right _ (List.mem_singleton_self z))
      omega
    · exact List.mem_singleton.1 h
  subst hz
  rw [List.map_append, List.nodup_append] at hn
  have hne : ∀ s ∈ l0, s.addr ≠ t.addr := fun s hs => hn.2.2 s.addr (List.mem_map_of_mem hs) t.addr (by simp)
  have e1 : rmv (l0 ++ [t]) t.addr = l0 := by
    have h1 : rmv l0 t.addr = l0 := rmv_none hne
    unfold rmv at h1 ⊢
    rw [List.filter_append, h1]
    simp
  rw [e1]
  simp
/-- behind the new slot, ahead of Push -/
structure Mid (w : World) (p mb : Nat) (v : Value) (H : List Sl) (n : Nat) (l : List Sl) (u f m : Nat) (s : Sl) (v2 : Value) (H2 : List Sl) (w6 : World) : Prop where
  hp : Hp w6 p ⟨n, mb, u, f, m⟩ v2 H2
  perm : H2.Perm l
  heap : IsH H2.length (useK H2)
  map : MS w6 mb (s :: l)
  slot : Has w6 s.blk 64 (sc s 0)
  far : ∀ i, i < H2.length → (sg H2 i).blk ≠ s.blk
  new : w.heap.size ≤ s.blk
  sub : ∀ k, ft v2 H2 k → ft v H k ∨ w.heap.size ≤ k
  chg : Chg (reg p mb v H) w w6
theorem put_of {s : Sl} {v2 : Value} {H2 : List Sl} {w6 w7 : World} (h : Mid w p mb v H n l (u + 1) f m s v2 H2 w6) (h2 : PhP w6 p ⟨n, mb, u + 1, f, m⟩ v2 H2 s w7) (hd : l.Pairwise fun a b => b.use < a.use) (ht : ∀ t ∈ l, t.use ≤ u) (hs : s.use = u + 1) (hl : l.length < n) (n1 : 1 ≤ n) (n2 : n ≤ 4096) (hw : ∀ t ∈ l, in64 t.addr) (hw2 : in64 s.addr) : KI w p mb v H n (s :: l) (u + 1) f m w7 := by
  obtain ⟨v3, H3, a1, a2, a3, a4, a5⟩ := h2
  have hps : H3.Perm (s :: l) := a2.trans ((List.perm_append_singleton _ _).trans (h.perm.cons s))
  refine ⟨v3, H3, ⟨a1, hps, a3, ?_, ?_, ?_, ?_, n1, n2, ?_⟩, ?_, ?_⟩
  · refine h.map.same (a5.block mb h.map.lt fun hk => ?_)
    rcases hk with e | e | e
    · exact (h.map.ne h.hp.main) e.symm
    · exact (ft_row h.map h.hp e).1 rfl
    · exact (h.map.ne h.slot) e.symm
  · exact List.pairwise_cons.2 ⟨fun t h => by have := ht t h; omega, hd⟩
  · intro t h
    rcases List.mem_cons.1 h with rfl | h
    · omega
    · have := ht t h; omega
  · rw [List.length_cons]; omega
  · intro t h
    rcases List.mem_cons.1 h with rfl | h
    · exact hw2
    · exact hw t h
  · intro k hk
    rcases hk with hk | ⟨i, hi, rfl⟩
    · rcases a4 with e | e
      · exact h.sub k (.inl (e ▸ hk))
      · exact .inr (Nat.le_trans h.chg.size (e k hk))
    · rcases List.mem_append.1 (a2.mem_iff.1 (sg_mem hi)) with e | e
      · obtain ⟨x, hx, ex⟩ := mem_sg e
        exact h.sub _ (.inr ⟨x, hx, by rw [ex]⟩)
      · rw [List.mem_singleton.1 e]; exact .inr h.new
  · refine h.chg.trans a5 fun k hk hr => ?_
    rcases hr with e | e | e
    · exact .inl e
    · rcases h.sub k e with e | e
      · exact .inr (.inr e)
      · omega
    · have := h.new; omega
/-- the steps of 's := &slot{.., use: c.nextUse()}' -/
def Nx (w : World) (p : Nat) (z : Int) (cs : Array Value) (a b : Bool) (wy : World) : Prop := wy = bif b then (w.drew.setCell ⟨p, 3, none⟩ (.int .u64 z)).alloc (.cells cs 64) else bif a then w.drew.setCell ⟨p, 3, none⟩ (.int .u64 z) else w.drew
/-- Put, behind the places where one is free -/
def PuQ (w : World) (p mb : Nat) (v : Value) (H : List Sl) (n : Nat) (l : List Sl) (u f m : Nat) (a g c k : Int) (y : ByteArray) (w' : World) : Prop :=
  ∃ s : Sl, s.addr = a ∧ s.gen = g ∧ s.sum = c ∧ s.kind = k ∧ s.pay = y ∧ KI w p mb v H n (s :: (rmv l a).take (n - 1)) (u + 1) f m w'
set_option maxRecDepth 100000 in
set_option maxHeartbeats 2000000 in
theorem put_i (h : CaI w p mb v H n l u f m) (a g c k : Int) (y : ByteArray) (ha : in64 a) (hu : u < 4611686018427387904) : Calls Try.prog 10 #[.pointer (some ⟨p, 0, none⟩), .agg #[.int .i64 a, .int .u64 g, .int .u32 c], .int .u8 k, .string y] w fun e w' => e = .returned (.tuple #[]) ∧ PuQ w p mb v H n l u f m a g c k y w' := by
  obtain ⟨w1, hw1⟩ : ∃ w1, w1 = w.alloc (.cells #[.int .i64 a, .int .u64 g, .int .u32 c] 35) := ⟨_, rfl⟩
  have h1 : CaI w1 p mb v H n l u f m := by rw [hw1]; exact h.same fun k hk => Below.heap_alloc _ _ _ (h.lt hk)
  have hx : Has w1 w.heap.size 35 [.int .i64 a, .int .u64 g, .int .u32 c] := by rw [hw1]; exact Has.new w _ _
  have hc1 : Chg (reg p mb v H) w w1 := by rw [hw1]; exact (Chg.refl _ w).alloc _
  have hr0 : ¬ reg p mb v H w.heap.size := fun hk => by have := h.lt hk; omega
  have HR0 := Lib.hid hr0
  have HH := Lib.hid h
  have HH1 := Lib.hid h1
  have HX := Lib.hid hx
  have HCH := Lib.hid hc1
  have c0 := h1.hp.main.cell 0
  have c1 := hx.cell 0
  simp only [cc, List.getElem?_cons_zero] at c0 c1
  have hn1 := h.n1
  have hn2 := h.n2
  have hn0 : ((n : Int) == 0) = false := by simp; omega
  clear h h1 hx hc1 hr0
  have c0' := c0
  have c1' := c1
  rw [hw1] at c0' c1'
  go_enter Try.func10, Try.ntmps10
  go_wp2_with fail
  rw [← hw1]
  have HW1 := Lib.hid hw1
  clear hw1 c0 c1 c0' c1'
  refine (drop_i HH1.out a ha).mono ?_
  rintro e w2 ⟨rfl, v1, H1, d1, d2, d3⟩
  have HS1 := Lib.hid (show ∀ k, ft v1 H1 k → ft v H k ∨ w.heap.size ≤ k from fun k hk => by
    rcases d2 k hk with e | e
    · exact .inl e
    · exact .inr (Nat.le_trans HCH.out.size e))
  have HC2 := Lib.hid (HCH.out.trans d3 fun k _ hk => hk)
  have HX2 := Lib.hid (d3.has HX.out HR0.out)
  have HD1 := Lib.hid d1
  have hfree1 : ¬ reg p mb v1 H1 w.heap.size := fun hk => by
    rcases hk with e | e | e
    · exact HR0.out (.inl e)
    · exact HR0.out (.inr (.inl e))
    · have h3 : w1.heap.size = w.heap.size + 1 := by rw [HW1.out]; simp
      rcases d2 _ e with e | e
      · exact HR0.out (.inr (.inr e))
      · omega
  have HF1 := Lib.hid hfree1
  clear d1 d2 d3 hfree1
  obtain ⟨l1, hl1⟩ : ∃ l1, l1 = rmv l a := ⟨_, rfl⟩
  rw [← hl1] at HD1
  have HL1 := Lib.hid hl1
  have HL1n := Lib.hid (show ∀ t ∈ l1, t.addr ≠ a from fun t ht => by rw [HL1.out] at ht; exact (rmv_mem.1 ht).2)
  clear hl1
  have HCA := Lib.hid (fun (wq : World) (e : Dr w2 wq) => (by rw [show wq = w2.drew from e]; exact ⟨HD1.out.hp.main.cell 0, HD1.out.hp.main.cell 1, (HD1.out.map.same (w' := w2.drew) rfl).len⟩ : wq.cell? ⟨p, 0, none⟩ = some (.int .i64 (n : Int)) ∧ wq.cell? ⟨p, 1, none⟩ = some (.map (some mb)) ∧ ∀ ty, (Builtin.len_ #[58] ty #[.map (some mb)]).run Try.prog wq = .ok (.int .i64 l1.length) wq))
  obtain ⟨B, hB⟩ : ∃ B, B = decide (l1.length = n) := ⟨_, rfl⟩
  have HB := Lib.hid hB
  clear hB
  go_upto_region 3 with fail
  refine Reg.region_vals (by kernel_rfl) [(22, .pointer (some ⟨p, 0, none⟩)), (23, .pointer (some ⟨p, 0, none⟩)), (24, .pointer (some ⟨p, 1, none⟩)), (25, .map (some mb)), (26, .int .i64 (l1.length : Nat)), (27, .pointer (some ⟨p, 0, none⟩)), (28, .pointer (some ⟨p, 0, none⟩)), (29, .pointer (some ⟨p, 0, none⟩)), (30, .int .i64 (n : Nat)), (31, .bool B)] (fun l wy => Dr w2 wy) (by kernel_rfl) (by kernel_rfl) (by kernel_rfl) (rfl) ⟨?_, ?_, ?_, ?_, ?_, ?_, ?_, ?_, ?_, ?_, trivial⟩ ?hend
  · -- 0: 22 := Op.move t0
    intro aq wq lq hI hl hdone hlater hold hd ho
    have h0 : aq.tmps.getD 0 undef = .pointer (some ⟨p, 0, none⟩) := ho 0 (by kernel_rfl)
    clear hd ho hdone hlater hold
    exact Reg.step2_move (.tmp 0) rfl h0 hI trivial
  · -- 1: 23 := Op.nilCheck t22
    intro aq wq lq hI hl hdone hlater hold hd ho
    have h22 : aq.tmps.getD 22 undef = .pointer (some ⟨p, 0, none⟩) := hd 22 (by kernel_rfl)
    clear hd ho hdone hlater hold
    rw [Array.getD_eq_getD_getElem?] at h22
    refine Reg.step2_val (.pointer (some ⟨p, 0, none⟩)) ?_ rfl hI trivial
    go_simp
  · -- 2: 24 := Op.fieldAddr 62 t23 1
    intro aq wq lq hI hl hdone hlater hold hd ho
    have h23 : aq.tmps.getD 23 undef = .pointer (some ⟨p, 0, none⟩) := hd 23 (by kernel_rfl)
    clear hd ho hdone hlater hold
    rw [Array.getD_eq_getD_getElem?] at h23
    refine Reg.step2_val (.pointer (some ⟨p, 1, none⟩)) ?_ rfl hI trivial
    go_simp
  · -- 3: 25 := Op.load 58 t24
    intro aq wq lq hI hl hdone hlater hold hd ho
    have h24 : aq.tmps.getD 24 undef = .pointer (some ⟨p, 1, none⟩) := hd 24 (by kernel_rfl)
    clear hd ho hdone hlater hold
    rw [Array.getD_eq_getD_getElem?] at h24
    have e0 := (HCA.out wq hI).2.1
    refine Reg.step2_val (.map (some mb)) ?_ rfl hI trivial
    go_simp
  · -- 4: 26 := Op.call ( builtin len, args := #(t25), argTypes := #(58) )
    intro aq wq lq hI hl hdone hlater hold hd ho
    have h25 : aq.tmps.getD 25 undef = .map (some mb) := hd 25 (by kernel_rfl)
    clear hd ho hdone hlater hold
    rw [Array.getD_eq_getD_getElem?] at h25
    have e0 := (HCA.out wq hI).2.2
    refine Reg.step2_val (.int .i64 (l1.length : Nat)) ?_ rfl hI trivial
    clear hI
    simp [execOp]
    go_simp
  · -- 5: 27 := Op.move t0
    intro aq wq lq hI hl hdone hlater hold hd ho
    have h0 : aq.tmps.getD 0 undef = .pointer (some ⟨p, 0, none⟩) := ho 0 (by kernel_rfl)
    clear hd ho hdone hlater hold
    exact Reg.step2_move (.tmp 0) rfl h0 hI trivial
  · -- 6: 28 := Op.nilCheck t27
    intro aq wq lq hI hl hdone hlater hold hd ho
    have h27 : aq.tmps.getD 27 undef = .pointer (some ⟨p, 0, none⟩) := hd 27 (by kernel_rfl)
    clear hd ho hdone hlater hold
    rw [Array.getD_eq_getD_getElem?] at h27
    refine Reg.step2_val (.pointer (some ⟨p, 0, none⟩)) ?_ rfl hI trivial
    go_simp
  · -- 7: 29 := Op.fieldAddr 62 t28 0
    intro aq wq lq hI hl hdone hlater hold hd ho
    have h28 : aq.tmps.getD 28 undef = .pointer (some ⟨p, 0, none⟩) := hd 28 (by kernel_rfl)
    clear hd ho hdone hlater hold
    rw [Array.getD_eq_getD_getElem?] at h28
    refine Reg.step2_val (.pointer (some ⟨p, 0, none⟩)) ?_ rfl hI trivial
    go_simp
  · -- 8: 30 := Op.load 3 t29
    intro aq wq lq hI hl hdone hlater hold hd ho
    have h29 : aq.tmps.getD 29 undef = .pointer (some ⟨p, 0, none⟩) := hd 29 (by kernel_rfl)
    clear hd ho hdone hlater hold
    rw [Array.getD_eq_getD_getElem?] at h29
    have e0 := (HCA.out wq hI).1
    refine Reg.step2_val (.int .i64 (n : Nat)) ?_ rfl hI trivial
    go_simp
  · -- 9: 31 := Op.binOp BinOp.eql 3 t26 t30 3
    intro aq wq lq hI hl hdone hlater hold hd ho
    have h26 : aq.tmps.getD 26 undef = .int .i64 (l1.length : Nat) := hd 26 (by kernel_rfl)
    have h30 : aq.tmps.getD 30 undef = .int .i64 (n : Nat) := hd 30 (by kernel_rfl)
    clear hd ho hdone hlater hold
    rw [Array.getD_eq_getD_getElem?] at h26 h30
    refine Reg.step2_val (.bool B) ?_ rfl hI trivial
    clear hI
    simp [execOp]
    go_simp
    rw [HB.out]
    by_cases h1 : l1.length = n
    · simp [h1]
    · have h2 : ¬ (l1.length : Int) = (n : Int) := by omega
      simp [h1, h2]
  case hend =>
  intro w3 hd3
  simp only [Reg.fill, List.foldl_cons, List.foldl_nil, List.setIfInBounds_toArray, List.set_cons_zero, List.set_cons_succ]
  have HD3 := Lib.hid (show CaI w3 p mb v1 H1 n l1 u f m by rw [show w3 = w2.drew from hd3]; exact HD1.out.same fun k _ => rfl)
  have HC3 := Lib.hid (show Chg (reg p mb v H) w w3 by rw [show w3 = w2.drew from hd3]; exact HC2.out.drew)
  have HX3 := Lib.hid (show Has w3 w.heap.size 35 [.int .i64 a, .int .u64 g, .int .u32 c] by rw [show w3 = w2.drew from hd3]; exact HX2.out.drew)
  clear hd3 HCA HD1 HC2 HX2
  cases B with
  | false =>
    have hne : l1.length ≠ n := fun e => by have := HB.out; simp [e] at this
    obtain ⟨w4, hw4⟩ : ∃ w4, w4 = w3 := ⟨_, rfl⟩
    obtain ⟨v2, hv2⟩ : ∃ v2, v2 = v1 := ⟨_, rfl⟩
    obtain ⟨H2, hH2⟩ : ∃ H2, H2 = H1 := ⟨_, rfl⟩
    subst hv2 hH2
    obtain ⟨l2, hl2⟩ : ∃ l2, l2 = l1 := ⟨_, rfl⟩
    subst hl2
    have HLL := Lib.hid (show l2.length < n by have := HD3.out.len; omega)
    have HL2 := Lib.hid (show l2 = l2.take (n - 1) from (List.take_of_length_le (by have := HLL.out; omega)).symm)
    subst hw4
    have HD4 := HD3
    have HC4 := HC3
    have HX4 := HX3
    have HS2 := HS1
    clear hne
    have hf4 : ∀ i, i < H2.length → (sg H2 i).blk ≠ w4.heap.size := fun i hi e => by have := HD4.out.hp.lt (.inr ⟨i, hi, rfl⟩); omega
    obtain ⟨z, hz⟩ : ∃ z : Int, z = ((u + 1 : Nat) : Int) := ⟨_, rfl⟩
    have HZ := Lib.hid hz
    obtain ⟨s, hs⟩ : ∃ s : Sl, s = ⟨a, g, c, k, y, u + 1, w4.heap.size⟩ := ⟨_, rfl⟩
    have HSS := Lib.hid hs
    have HF4 := Lib.hid hf4
    have HNB := Lib.hid (fun (wq : World) (x y' : Bool) (e : Nx w4 p z #[.int .i64 a, .int .u64 g, .int .u32 c, .int .u8 k, .string y, .int .u64 z, .int .i64 0] x y' wq) => (by
      have hpb : p ≠ w.heap.size := has_ne HD4.out.hp.main HX4.out (by decide)
      have h1 := (HX4.out.drew.setOther (a := ⟨p, 3, none⟩) hpb (.int .u64 z))
      unfold Nx at e
      cases y' with
      | true => rw [e]; exact h1.alloc _
      | false => cases x with
        | true => rw [e]; exact h1
        | false => rw [e]; exact HX4.out.drew : Has wq w.heap.size 35 [.int .i64 a, .int .u64 g, .int .u32 c]))
    have HNU := Lib.hid (fun (wq : World) (e : wq = w4.drew) => (by rw [e]; exact next_any (HD4.out.hp.drewN 1) (by show u < _; omega) z hz : Calls Try.prog 18 #[.pointer (some ⟨p, 0, none⟩)] wq fun e w' => e = .returned (.int .u64 z) ∧ w' = w4.drew.setCell ⟨p, 3, none⟩ (.int .u64 z)))
    clear hf4 hz hs
    go_upto_region 5 with fail
    refine Reg.region_vals (by kernel_rfl) [(44, .agg #[.int .i64 a, .int .u64 g, .int .u32 c]), (45, .int .u8 k), (46, .string y), (47, .pointer (some ⟨p, 0, none⟩)), (48, .int .u64 z), (49, .agg #[.int .i64 a, .int .u64 g, .int .u32 c, .int .u8 k, .string y, .int .u64 z, .int .i64 0]), (50, .pointer (some ⟨w4.heap.size, 0, none⟩)), (8, .pointer (some ⟨w4.heap.size, 0, none⟩))] (fun l wy => Nx w4 p z #[.int .i64 a, .int .u64 g, .int .u32 c, .int .u8 k, .string y, .int .u64 z, .int .i64 0] (l 4) (l 6) wy ∧ (l 5 = true → l 4 = true) ∧ (l 6 = true → l 5 = true)) (by kernel_rfl) (by kernel_rfl) (by kernel_rfl) (⟨rfl, fun h => h, fun h => h⟩) ⟨?_, ?_, ?_, ?_, ?_, ?_, ?_, ?_, trivial⟩ ?hend
    · -- 0: 44 := Op.load 35 t5
      intro aq wq lq hI hl hdone hlater hold hd ho
      have h5 : aq.tmps.getD 5 undef = .pointer (some ⟨w.heap.size, 0, none⟩) := ho 5 (by kernel_rfl)
      clear hd ho hdone hlater hold
      rw [Array.getD_eq_getD_getElem?] at h5
      have hb := HNB.out wq _ _ hI.1
      have e0 := hb.cell 0
      have e1 := hb.cell 1
      have e2 := hb.cell 2
      simp only [List.getElem?_cons_zero, List.getElem?_cons_succ] at e0 e1 e2
      refine Reg.step2_val (.agg #[.int .i64 a, .int .u64 g, .int .u32 c]) ?_ rfl hI trivial
      clear hI hb
      go_simp
    · -- 1: 45 := Op.move t2
      intro aq wq lq hI hl hdone hlater hold hd ho
      have h2 : aq.tmps.getD 2 undef = .int .u8 k := ho 2 (by kernel_rfl)
      clear hd ho hdone hlater hold
      exact Reg.step2_move (.tmp 2) rfl h2 hI trivial
    · -- 2: 46 := Op.move t3
      intro aq wq lq hI hl hdone hlater hold hd ho
      have h3 : aq.tmps.getD 3 undef = .string y := ho 3 (by kernel_rfl)
      clear hd ho hdone hlater hold
      exact Reg.step2_move (.tmp 3) rfl h3 hI trivial
    · -- 3: 47 := Op.move t0
      intro aq wq lq hI hl hdone hlater hold hd ho
      have h0 : aq.tmps.getD 0 undef = .pointer (some ⟨p, 0, none⟩) := ho 0 (by kernel_rfl)
      clear hd ho hdone hlater hold
      exact Reg.step2_move (.tmp 0) rfl h0 hI trivial
    · -- 4: 48 := Op.call ( value (Operand.func 18), args := #(t47), argTypes 
      intro aq wq lq hI hl hdone hlater hold hd ho
      have h47 : aq.tmps.getD 47 undef = .pointer (some ⟨p, 0, none⟩) := hd 47 (by kernel_rfl)
      clear hd ho hdone hlater hold
      rw [Array.getD_eq_getD_getElem?] at h47
      have l4 : lq 4 = false := hl
      have l6 : lq 6 = false := by cases h : lq 6 with | false => rfl | true => have := hI.2.1 (hI.2.2 h); rw [l4] at this; cases this
      have hw : wq = w4.drew := by have := hI.1; rw [l4, l6] at this; exact this
      have h65 := hI.2.2
      clear hI
      refine Reg.step2_call 18 #[.pointer (some ⟨p, 0, none⟩)] ?_ ((HNU.out wq hw).mono ?_)
      · clear hw h65
        simp [execOp]
        go_simp
      · rintro e w' ⟨rfl, hr⟩
        exact ⟨_, rfl, rfl, ⟨by show Nx _ _ _ _ true (lq 6) _; rw [l6]; exact hr, fun _ => rfl, h65⟩, trivial⟩
    · -- 5: 49 := Op.build 64 #((0, t44), (1, t45), (2, t46), (3, t48))
      intro aq wq lq hI hl hdone hlater hold hd ho
      have h44 : aq.tmps.getD 44 undef = .agg #[.int .i64 a, .int .u64 g, .int .u32 c] := hd 44 (by kernel_rfl)
      have h45 : aq.tmps.getD 45 undef = .int .u8 k := hd 45 (by kernel_rfl)
      have h46 : aq.tmps.getD 46 undef = .string y := hd 46 (by kernel_rfl)
      have h48 : aq.tmps.getD 48 undef = .int .u64 z := hd 48 (by kernel_rfl)
      have gd4 : lq 4 = true := hdone 4 (by kernel_rfl)
      clear hd ho hdone hlater hold
      rw [Array.getD_eq_getD_getElem?] at h44 h45 h46 h48
      refine Reg.step2_val (.agg #[.int .i64 a, .int .u64 g, .int .u32 c, .int .u8 k, .string y, .int .u64 z, .int .i64 0]) ?_ rfl ⟨hI.1, fun _ => gd4, fun _ => rfl⟩ trivial
      clear hI
      simp [execOp]
      go_simp
    · -- 6: 50 := Op.box 64 t49
      intro aq wq lq hI hl hdone hlater hold hd ho
      have h49 : aq.tmps.getD 49 undef = .agg #[.int .i64 a, .int .u64 g, .int .u32 c, .int .u8 k, .string y, .int .u64 z, .int .i64 0] := hd 49 (by kernel_rfl)
      have gd5 : lq 5 = true := hdone 5 (by kernel_rfl)
      clear hd ho hdone hlater hold
      rw [Array.getD_eq_getD_getElem?] at h49
      have l4 : lq 4 = true := hI.2.1 gd5
      have hw : wq = w4.drew.setCell ⟨p, 3, none⟩ (.int .u64 z) := by have := hI.1; rw [l4, show lq 6 = false from hl] at this; exact this
      have hs4 : wq.heap.size = w4.heap.size := by rw [hw]; simp
      have h54 := hI.2.1
      clear hI
      refine Reg.step2_do (.pointer (some ⟨wq.heap.size, 0, none⟩)) (wq.alloc (.cells #[.int .i64 a, .int .u64 g, .int .u32 c, .int .u8 k, .string y, .int .u64 z, .int .i64 0] 64)) ?_ (by rw [hs4]; rfl) ⟨by rw [hw]; rfl, h54, fun _ => gd5⟩ trivial
      clear hs4 hw h54
      simp [execOp]
      go_simp
    · -- 7: 8 := Op.assign t50
      intro aq wq lq hI hl hdone hlater hold hd ho
      have h50 : aq.tmps.getD 50 undef = .pointer (some ⟨w4.heap.size, 0, none⟩) := hd 50 (by kernel_rfl)
      clear hd ho hdone hlater hold
      exact Reg.step2_assign (.tmp 50) rfl h50 hI trivial
    case hend =>
    intro w5 hn5
    simp only [Reg.fill, List.foldl_cons, List.foldl_nil, List.setIfInBounds_toArray, List.set_cons_zero, List.set_cons_succ]
    have h5 : w5 = (w4.drew.setCell ⟨p, 3, none⟩ (.int .u64 z)).alloc (.cells #[.int .i64 a, .int .u64 g, .int .u32 c, .int .u8 k, .string y, .int .u64 z, .int .i64 0] 64) := hn5.1
    have HX5 := Lib.hid (HNB.out w5 _ _ hn5.1)
    have HMID := Lib.hid (show ∃ w6, (Instr.mapUpdate 58 (.map (some mb)) (.int .i64 a) (.pointer (some ⟨w4.heap.size, 0, none⟩))).run Try.prog w5.drew = .ok () w6 ∧ Mid w p mb v H n l2 (u + 1) f m s v2 H2 w6 from by
      have hp5 : Hp w5 p ⟨n, mb, u + 1, f, m⟩ v2 H2 := by
        rw [h5, HZ.out]
        exact (hp_use (HD4.out.hp.drewN 1) (u + 1)).same fun k hk => Below.heap_alloc _ _ _ (by
          rcases hk with rfl | hk
          · simpa using HD4.out.hp.main.lt
          · simpa using HD4.out.hp.lt hk)
      have hm5 : MS w5 mb l2 := by
        rw [h5]
        exact HD4.out.map.same ((Below.heap_alloc _ _ _ (by simpa using HD4.out.map.lt)).trans (Below.heap_setCell _ _ _ _ (fun e => HD4.out.pmb e.symm)))
      have hs5 : Has w5 s.blk 64 (sc s 0) := by
        have := Has.new (w4.drew.setCell ⟨p, 3, none⟩ (.int .u64 z)) (sc s 0) 64
        rw [h5, HSS.out]
        rw [HSS.out] at this
        rw [show (w4.drew.setCell ⟨p, 3, none⟩ (.int .u64 z)).heap.size = w4.heap.size by simp] at this
        rw [HZ.out] at this ⊢
        exact this
      have hc5 : Chg (reg p mb v H) w w5 := by rw [h5]; exact (HC4.out.drew.setCell (p := ⟨p, 3, none⟩) (fun _ => .inl rfl) _).alloc _
      have hsa : s.addr = a := by rw [HSS.out]
      have hsb : s.blk = w4.heap.size := by rw [HSS.out]
      have hno : ∀ t ∈ l2, t.addr ≠ s.addr := fun t ht => by rw [hsa]; rw [HL2.out] at ht; exact HL1n.out t (List.mem_of_mem_take ht)
      have hm5' : MS w5.drew mb l2 := hm5.same rfl
      obtain ⟨w6, hrun, hm6, hg6⟩ := hm5'.update (s := s) hno (by have := HD4.out.len; omega) (by rw [hsa]; exact ha.1) (by rw [hsa]; exact ha.2)
      have hp6 : Hp w6 p ⟨n, mb, u + 1, f, m⟩ v2 H2 := (hp5.drewN 1).same fun k hk => hg6.block k (by
          rcases hk with rfl | hk
          · exact hp5.main.lt
          · exact hp5.lt hk) (fun e => by
          have e := Option.some.inj e
          rcases hk with rfl | hk
          · exact HD4.out.pmb e
          · exact (ft_row HD4.out.map HD4.out.hp hk).1 e)
      refine ⟨w6, by rw [hsa, show ptr s = .pointer (some ⟨w4.heap.size, 0, none⟩) by rw [HSS.out]] at hrun; exact hrun, hp6, HD4.out.perm, HD4.out.heap, hm6, ?_, fun i hi => by rw [hsb]; exact HF4.out i hi, by rw [hsb]; exact HC4.out.size, HS2.out, ?_⟩
      · exact (hs5.drewN 1).same (hg6.block _ hs5.lt fun e => (hm5.ne hs5) (Option.some.inj e))
      · exact hc5.drew.grown hg6 fun k _ e => .inr (.inl (Option.some.inj e).symm))
    have HCB := Lib.hid (fun (wq : World) (e : Dr w5 wq) => (by rw [show wq = w5.drew from e]; exact ⟨by rw [h5]; have := (HX5.out).drew.cell 0; rw [h5] at this; exact this, by
        have h1 : w5.cell? ⟨p, 1, none⟩ = some (.map (some mb)) := by
          rw [h5]
          exact (((HD4.out.hp.drewN 1).main.set 3 (.int .u64 z)).alloc _).cell 1
        exact h1⟩ : wq.cell? ⟨w.heap.size, 0, none⟩ = some (.int .i64 a) ∧ wq.cell? ⟨p, 1, none⟩ = some (.map (some mb))))
    clear hn5 h5
    go_upto_region 6 with fail
    refine Reg.region_vals (by kernel_rfl) [(51, .pointer (some ⟨p, 0, none⟩)), (52, .pointer (some ⟨p, 0, none⟩)), (53, .pointer (some ⟨p, 1, none⟩)), (54, .map (some mb)), (55, .pointer (some ⟨w.heap.size, 0, none⟩)), (56, .int .i64 a), (57, .pointer (some ⟨w4.heap.size, 0, none⟩))] (fun l wy => bif l 7 then Mid w p mb v H n l2 (u + 1) f m s v2 H2 wy else Dr w5 wy) (by kernel_rfl) (by kernel_rfl) (by kernel_rfl) (rfl) ⟨?_, ?_, ?_, ?_, ?_, ?_, ?_, ?_, trivial⟩ ?hend
    · -- 0: 51 := Op.move t0
      intro aq wq lq hI hl hdone hlater hold hd ho
      have h0 : aq.tmps.getD 0 undef = .pointer (some ⟨p, 0, none⟩) := ho 0 (by kernel_rfl)
      clear hd ho hdone hlater hold
      exact Reg.step2_move (.tmp 0) rfl h0 hI trivial
    · -- 1: 52 := Op.nilCheck t51
      intro aq wq lq hI hl hdone hlater hold hd ho
      have h51 : aq.tmps.getD 51 undef = .pointer (some ⟨p, 0, none⟩) := hd 51 (by kernel_rfl)
      clear hd ho hdone hlater hold
      rw [Array.getD_eq_getD_getElem?] at h51
      refine Reg.step2_val (.pointer (some ⟨p, 0, none⟩)) ?_ rfl hI trivial
      go_simp
    · -- 2: 53 := Op.fieldAddr 62 t52 1
      intro aq wq lq hI hl hdone hlater hold hd ho
      have h52 : aq.tmps.getD 52 undef = .pointer (some ⟨p, 0, none⟩) := hd 52 (by kernel_rfl)
      clear hd ho hdone hlater hold
      rw [Array.getD_eq_getD_getElem?] at h52
      refine Reg.step2_val (.pointer (some ⟨p, 1, none⟩)) ?_ rfl hI trivial
      go_simp
    · -- 3: 54 := Op.load 58 t53
      intro aq wq lq hI hl hdone hlater hold hd ho
      have h53 : aq.tmps.getD 53 undef = .pointer (some ⟨p, 1, none⟩) := hd 53 (by kernel_rfl)
      have gl7 : lq 7 = false := hlater 7 (by kernel_rfl)
      clear hd ho hdone hlater hold
      rw [Array.getD_eq_getD_getElem?] at h53
      have hJ := hI
      rw [gl7] at hJ
      have e0 := (HCB.out wq hJ).2
      refine Reg.step2_val (.map (some mb)) ?_ rfl hI trivial
      clear hI hJ
      go_simp
    · -- 4: 55 := Op.fieldAddr 35 t5 0
      intro aq wq lq hI hl hdone hlater hold hd ho
      have h5 : aq.tmps.getD 5 undef = .pointer (some ⟨w.heap.size, 0, none⟩) := ho 5 (by kernel_rfl)
      clear hd ho hdone hlater hold
      rw [Array.getD_eq_getD_getElem?] at h5
      refine Reg.step2_val (.pointer (some ⟨w.heap.size, 0, none⟩)) ?_ rfl hI trivial
      go_simp
    · -- 5: 56 := Op.load 3 t55
      intro aq wq lq hI hl hdone hlater hold hd ho
      have h55 : aq.tmps.getD 55 undef = .pointer (some ⟨w.heap.size, 0, none⟩) := hd 55 (by kernel_rfl)
      have gl7 : lq 7 = false := hlater 7 (by kernel_rfl)
      clear hd ho hdone hlater hold
      rw [Array.getD_eq_getD_getElem?] at h55
      have hJ := hI
      rw [gl7] at hJ
      have e0 := (HCB.out wq hJ).1
      refine Reg.step2_val (.int .i64 a) ?_ rfl hI trivial
      clear hI hJ
      go_simp
    · -- 6: 57 := Op.move t8
      intro aq wq lq hI hl hdone hlater hold hd ho
      have h8 : aq.tmps.getD 8 undef = .pointer (some ⟨w4.heap.size, 0, none⟩) := ho 8 (by kernel_rfl)
      clear hd ho hdone hlater hold
      exact Reg.step2_move (.tmp 8) rfl h8 hI trivial
    · -- 7: None := Op.mapUpdate 58 t54 t56 t57
      intro aq wq lq hI hl hdone hlater hold hd ho
      have h54 : aq.tmps.getD 54 undef = .map (some mb) := hd 54 (by kernel_rfl)
      have h56 : aq.tmps.getD 56 undef = .int .i64 a := hd 56 (by kernel_rfl)
      have h57 : aq.tmps.getD 57 undef = .pointer (some ⟨w4.heap.size, 0, none⟩) := hd 57 (by kernel_rfl)
      clear hd ho hdone hlater hold
      rw [Array.getD_eq_getD_getElem?] at h54 h56 h57
      have hJ := hI
      rw [show lq 7 = false from hl] at hJ
      have hw : wq = w5.drew := hJ
      clear hI hJ
      obtain ⟨w6, hrun, hmid⟩ := HMID.out
      rw [← hw] at hrun
      clear hw
      refine Reg.step2_skip w6 rfl ?_ hmid trivial
      clear hmid
      simp [execOp]
      go_simp
    case hend =>
    intro w6 hI
    simp only [Reg.fill, List.foldl_cons, List.foldl_nil, List.setIfInBounds_toArray, List.set_cons_zero, List.set_cons_succ]
    have HM := Lib.hid (show Mid w p mb v H n l2 (u + 1) f m s v2 H2 w6 from hI)
    clear hI HMID HCB HNB HNU HX5
    have hsp : ptr s = .pointer (some ⟨w4.heap.size, 0, none⟩) := by rw [HSS.out]
    have HPU := Lib.hid (push_any HM.out.hp s 0 HM.out.slot HM.out.far (by have := HD4.out.perm.length_eq; have := HLL.out; omega) HM.out.heap)
    rw [hsp] at HPU
    clear hsp
    go_wp2_with fail
    refine HPU.out.mono ?_
    rintro e w7 ⟨rfl, hph⟩
    have HQ := Lib.hid (show PuQ w p mb v H n l u f m a g c k y w7 from ⟨s, by rw [HSS.out], by rw [HSS.out], by rw [HSS.out], by rw [HSS.out], by rw [HSS.out], by
      rw [← HL1.out, ← HL2.out]
      exact put_of HM.out hph HD4.out.dec HD4.out.top (by rw [HSS.out]) HLL.out hn1 hn2 HD4.out.wf (by rw [HSS.out]; exact ha)⟩)
    clear hph
    go_wp2
    go_end0
    exact ⟨rfl, HQ.out⟩
  | true =>
    have heq : l1.length = n := by have := HB.out; simpa using this
    have hh0 : 0 < H1.length := by have := HD3.out.perm.length_eq; omega
    obtain ⟨g0, cap, hv1⟩ := HD3.out.hp.form hh0
    subst hv1
    have c2 := HD3.out.hp.main.cell 2
    have cg := HD3.out.hp.c hh0
    have cb := (HD3.out.hp.slot 0 hh0).cell 0
    have hwf := HD3.out.wf (sg H1 0) (HD3.out.perm.mem_iff.1 (sg_mem hh0))
    have hrl := rmv_last HD3.out.dec HD3.out.map.nodup HD3.out.perm HD3.out.heap (by omega)
    simp only [cc, sc, List.getElem?_cons_zero, List.getElem?_cons_succ] at c2 cb
    dsimp only [ptr] at cg
    have hhi : (0 : Int) < (H1.length : Int) := by omega
    have HWF := Lib.hid hwf
    have HRL := Lib.hid hrl
    have HEQ := Lib.hid heq
    clear hwf hrl heq
    obtain ⟨ad, had⟩ : ∃ ad, ad = (sg H1 0).addr := ⟨_, rfl⟩
    obtain ⟨bb, hbb⟩ : ∃ bb, bb = (sg H1 0).blk := ⟨_, rfl⟩
    rw [← had] at cb HWF HRL
    rw [← hbb] at cb cg
    clear had hbb
    go_wp2_with fail
    refine (drop_i HD3.out ad HWF.out).mono ?_
    rintro e w4 ⟨rfl, v2, H2, d1, d2, d3⟩
    clear c2 cg cb hh0 hhi
    obtain ⟨l2, hl2⟩ : ∃ l2, l2 = rmv l1 ad := ⟨_, rfl⟩
    rw [← hl2] at d1 HRL
    have HL2 := Lib.hid (show l2 = l1.take (n - 1) by rw [HRL.out, HEQ.out])
    have HLL := Lib.hid (show l2.length < n by rw [HL2.out, List.length_take]; omega)
    have HD4 := Lib.hid d1
    have HS2 := Lib.hid (show ∀ k, ft v2 H2 k → ft v H k ∨ w.heap.size ≤ k from fun k hk => by
      rcases d2 k hk with e | e
      · exact HS1.out k e
      · exact .inr (Nat.le_trans HC3.out.size e))
    have HC4 := Lib.hid (HC3.out.trans d3 fun k hk hr => by
      rcases hr with e | e | e
      · exact .inl e
      · exact .inr (.inl e)
      · rcases HS1.out k e with e | e
        · exact .inr (.inr e)
        · omega)
    have HX4 := Lib.hid (d3.has HX3.out HF1.out)
    clear d1 d2 d3 hl2
    have hf4 : ∀ i, i < H2.length → (sg H2 i).blk ≠ w4.heap.size := fun i hi e => by have := HD4.out.hp.lt (.inr ⟨i, hi, rfl⟩); omega
    obtain ⟨z, hz⟩ : ∃ z : Int, z = ((u + 1 : Nat) : Int) := ⟨_, rfl⟩
    have HZ := Lib.hid hz
    obtain ⟨s, hs⟩ : ∃ s : Sl, s = ⟨a, g, c, k, y, u + 1, w4.heap.size⟩ := ⟨_, rfl⟩
    have HSS := Lib.hid hs
    have HF4 := Lib.hid hf4
    have HNB := Lib.hid (fun (wq : World) (x y' : Bool) (e : Nx w4 p z #[.int .i64 a, .int .u64 g, .int .u32 c, .int .u8 k, .string y, .int .u64 z, .int .i64 0] x y' wq) => (by
      have hpb : p ≠ w.heap.size := has_ne HD4.out.hp.main HX4.out (by decide)
      have h1 := (HX4.out.drew.setOther (a := ⟨p, 3, none⟩) hpb (.int .u64 z))
      unfold Nx at e
      cases y' with
      | true => rw [e]; exact h1.alloc _
      | false => cases x with
        | true => rw [e]; exact h1
        | false => rw [e]; exact HX4.out.drew : Has wq w.heap.size 35 [.int .i64 a, .int .u64 g, .int .u32 c]))
    have HNU := Lib.hid (fun (wq : World) (e : wq = w4.drew) => (by rw [e]; exact next_any (HD4.out.hp.drewN 1) (by show u < _; omega) z hz : Calls Try.prog 18 #[.pointer (some ⟨p, 0, none⟩)] wq fun e w' => e = .returned (.int .u64 z) ∧ w' = w4.drew.setCell ⟨p, 3, none⟩ (.int .u64 z)))
    clear hf4 hz hs
    go_upto_region 5 with fail
    refine Reg.region_vals (by kernel_rfl) [(44, .agg #[.int .i64 a, .int .u64 g, .int .u32 c]), (45, .int .u8 k), (46, .string y), (47, .pointer (some ⟨p, 0, none⟩)), (48, .int .u64 z), (49, .agg #[.int .i64 a, .int .u64 g, .int .u32 c, .int .u8 k, .string y, .int .u64 z, .int .i64 0]), (50, .pointer (some ⟨w4.heap.size, 0, none⟩)), (8, .pointer (some ⟨w4.heap.size, 0, none⟩))] (fun l wy => Nx w4 p z #[.int .i64 a, .int .u64 g, .int .u32 c, .int .u8 k, .string y, .int .u64 z, .int .i64 0] (l 4) (l 6) wy ∧ (l 5 = true → l 4 = true) ∧ (l 6 = true → l 5 = true)) (by kernel_rfl) (by kernel_rfl) (by kernel_rfl) (⟨rfl, fun h => h, fun h => h⟩) ⟨?_, ?_, ?_, ?_, ?_, ?_, ?_, ?_, trivial⟩ ?hend
    · -- 0: 44 := Op.load 35 t5
      intro aq wq lq hI hl hdone hlater hold hd ho
      have h5 : aq.tmps.getD 5 undef = .pointer (some ⟨w.heap.size, 0, none⟩) := ho 5 (by kernel_rfl)
      clear hd ho hdone hlater hold
      rw [Array.getD_eq_getD_getElem?] at h5
      have hb := HNB.out wq _ _ hI.1
      have e0 := hb.cell 0
      have e1 := hb.cell 1
      have e2 := hb.cell 2
      simp only [List.getElem?_cons_zero, List.getElem?_cons_succ] at e0 e1 e2
      refine Reg.step2_val (.agg #[.int .i64 a, .int .u64 g, .int .u32 c]) ?_ rfl hI trivial
      clear hI hb
      go_simp
    · -- 1: 45 := Op.move t2
      intro aq wq lq hI hl hdone hlater hold hd ho
      have h2 : aq.tmps.getD 2 undef = .int .u8 k := ho 2 (by kernel_rfl)
      clear hd ho hdone hlater hold
      exact Reg.step2_move (.tmp 2) rfl h2 hI trivial
    · -- 2: 46 := Op.move t3
      intro aq wq lq hI hl hdone hlater hold hd ho
      have h3 : aq.tmps.getD 3 undef = .string y := ho 3 (by kernel_rfl)
      clear hd ho hdone hlater hold
      exact Reg.step2_move (.tmp 3) rfl h3 hI trivial
    · -- 3: 47 := Op.move t0
      intro aq wq lq hI hl hdone hlater hold hd ho
      have h0 : aq.tmps.getD 0 undef = .pointer (some ⟨p, 0, none⟩) := ho 0 (by kernel_rfl)
      clear hd ho hdone hlater hold
      exact Reg.step2_move (.tmp 0) rfl h0 hI trivial
    · -- 4: 48 := Op.call ( value (Operand.func 18), args := #(t47), argTypes 
      intro aq wq lq hI hl hdone hlater hold hd ho
      have h47 : aq.tmps.getD 47 undef = .pointer (some ⟨p, 0, none⟩) := hd 47 (by kernel_rfl)
      clear hd ho hdone hlater hold
      rw [Array.getD_eq_getD_getElem?] at h47
      have l4 : lq 4 = false := hl
      have l6 : lq 6 = false := by cases h : lq 6 with | false => rfl | true => have := hI.2.1 (hI.2.2 h); rw [l4] at this; cases this
      have hw : wq = w4.drew := by have := hI.1; rw [l4, l6] at this; exact this
      have h65 := hI.2.2
      clear hI
      refine Reg.step2_call 18 #[.pointer (some ⟨p, 0, none⟩)] ?_ ((HNU.out wq hw).mono ?_)
      · clear hw h65
        simp [execOp]
        go_simp
      · rintro e w' ⟨rfl, hr⟩
        exact ⟨_, rfl, rfl, ⟨by show Nx _ _ _ _ true (lq 6) _; rw [l6]; exact hr, fun _ => rfl, h65⟩, trivial⟩
    · -- 5: 49 := Op.build 64 #((0, t44), (1, t45), (2, t46), (3, t48))
      intro aq wq lq hI hl hdone hlater hold hd ho
      have h44 : aq.tmps.getD 44 undef = .agg #[.int .i64 a, .int .u64 g, .int .u32 c] := hd 44 (by kernel_rfl)
      have h45 : aq.tmps.getD 45 undef = .int .u8 k := hd 45 (by kernel_rfl)
      have h46 : aq.tmps.getD 46 undef = .string y := hd 46 (by kernel_rfl)
      have h48 : aq.tmps.getD 48 undef = .int .u64 z := hd 48 (by kernel_rfl)
      have gd4 : lq 4 = true := hdone 4 (by kernel_rfl)
      clear hd ho hdone hlater hold
      rw [Array.getD_eq_getD_getElem?] at h44 h45 h46 h48
      refine Reg.step2_val (.agg #[.int .i64 a, .int .u64 g, .int .u32 c, .int .u8 k, .string y, .int .u64 z, .int .i64 0]) ?_ rfl ⟨hI.1, fun _ => gd4, fun _ => rfl⟩ trivial
      clear hI
      simp [execOp]
      go_simp
    · -- 6: 50 := Op.box 64 t49
      intro aq wq lq hI hl hdone hlater hold hd ho
      have h49 : aq.tmps.getD 49 undef = .agg #[.int .i64 a, .int .u64 g, .int .u32 c, .int .u8 k, .string y, .int .u64 z, .int .i64 0] := hd 49 (by kernel_rfl)
      have gd5 : lq 5 = true := hdone 5 (by kernel_rfl)
      clear hd ho hdone hlater hold
      rw [Array.getD_eq_getD_getElem?] at h49
      have l4 : lq 4 = true := hI.2.1 gd5
      have hw : wq = w4.drew.setCell ⟨p, 3, none⟩ (.int .u64 z) := by have := hI.1; rw [l4, show lq 6 = false from hl] at this; exact this
      have hs4 : wq.heap.size = w4.heap.size := by rw [hw]; simp
      have h54 := hI.2.1
      clear hI
      refine Reg.step2_do (.pointer (some ⟨wq.heap.size, 0, none⟩)) (wq.alloc (.cells #[.int .i64 a, .int .u64 g, .int .u32 c, .int .u8 k, .string y, .int .u64 z, .int .i64 0] 64)) ?_ (by rw [hs4]; rfl) ⟨by rw [hw]; rfl, h54, fun _ => gd5⟩ trivial
      clear hs4 hw h54
      simp [execOp]
      go_simp
    · -- 7: 8 := Op.assign t50
      intro aq wq lq hI hl hdone hlater hold hd ho
      have h50 : aq.tmps.getD 50 undef = .pointer (some ⟨w4.heap.size, 0, none⟩) := hd 50 (by kernel_rfl)
      clear hd ho hdone hlater hold
      exact Reg.step2_assign (.tmp 50) rfl h50 hI trivial
    case hend =>
    intro w5 hn5
    simp only [Reg.fill, List.foldl_cons, List.foldl_nil, List.setIfInBounds_toArray, List.set_cons_zero, List.set_cons_succ]
    have h5 : w5 = (w4.drew.setCell ⟨p, 3, none⟩ (.int .u64 z)).alloc (.cells #[.int .i64 a, .int .u64 g, .int .u32 c, .int .u8 k, .string y, .int .u64 z, .int .i64 0] 64) := hn5.1
    have HX5 := Lib.hid (HNB.out w5 _ _ hn5.1)
    have HMID := Lib.hid (show ∃ w6, (Instr.mapUpdate 58 (.map (some mb)) (.int .i64 a) (.pointer (some ⟨w4.heap.size, 0, none⟩))).run Try.prog w5.drew = .ok () w6 ∧ Mid w p mb v H n l2 (u + 1) f m s v2 H2 w6 from by
      have hp5 : Hp w5 p ⟨n, mb, u + 1, f, m⟩ v2 H2 := by
        rw [h5, HZ.out]
        exact (hp_use (HD4.out.hp.drewN 1) (u + 1)).same fun k hk => Below.heap_alloc _ _ _ (by
          rcases hk with rfl | hk
          · simpa using HD4.out.hp.main.lt
          · simpa using HD4.out.hp.lt hk)
      have hm5 : MS w5 mb l2 := by
        rw [h5]
        exact HD4.out.map.same ((Below.heap_alloc _ _ _ (by simpa using HD4.out.map.lt)).trans (Below.heap_setCell _ _ _ _ (fun e => HD4.out.pmb e.symm)))
      have hs5 : Has w5 s.blk 64 (sc s 0) := by
        have := Has.new (w4.drew.setCell ⟨p, 3, none⟩ (.int .u64 z)) (sc s 0) 64
        rw [h5, HSS.out]
        rw [HSS.out] at this
        rw [show (w4.drew.setCell ⟨p, 3, none⟩ (.int .u64 z)).heap.size = w4.heap.size by simp] at this
        rw [HZ.out] at this ⊢
        exact this
      have hc5 : Chg (reg p mb v H) w w5 := by rw [h5]; exact (HC4.out.drew.setCell (p := ⟨p, 3, none⟩) (fun _ => .inl rfl) _).alloc _
      have hsa : s.addr = a := by rw [HSS.out]
      have hsb : s.blk = w4.heap.size := by rw [HSS.out]
      have hno : ∀ t ∈ l2, t.addr ≠ s.addr := fun t ht => by rw [hsa]; rw [HL2.out] at ht; exact HL1n.out t (List.mem_of_mem_take ht)
      have hm5' : MS w5.drew mb l2 := hm5.same rfl
      obtain ⟨w6, hrun, hm6, hg6⟩ := hm5'.update (s := s) hno (by have := HD4.out.len; omega) (by rw [hsa]; exact ha.1) (by rw [hsa]; exact ha.2)
      have hp6 : Hp w6 p ⟨n, mb, u + 1, f, m⟩ v2 H2 := (hp5.drewN 1).same fun k hk => hg6.block k (by
          rcases hk with rfl | hk
          · exact hp5.main.lt
          · exact hp5.lt hk) (fun e => by
          have e := Option.some.inj e
          rcases hk with rfl | hk
          · exact HD4.out.pmb e
          · exact (ft_row HD4.out.map HD4.out.hp hk).1 e)
      refine ⟨w6, by rw [hsa, show ptr s = .pointer (some ⟨w4.heap.size, 0, none⟩) by rw [HSS.out]] at hrun; exact hrun, hp6, HD4.out.perm, HD4.out.heap, hm6, ?_, fun i hi => by rw [hsb]; exact HF4.out i hi, by rw [hsb]; exact HC4.out.size, HS2.out, ?_⟩
      · exact (hs5.drewN 1).same (hg6.block _ hs5.lt fun e => (hm5.ne hs5) (Option.some.inj e))
      · exact hc5.drew.grown hg6 fun k _ e => .inr (.inl (Option.some.inj e).symm))
    have HCB := Lib.hid (fun (wq : World) (e : Dr w5 wq) => (by rw [show wq = w5.drew from e]; exact ⟨by rw [h5]; have := (HX5.out).drew.cell 0; rw [h5] at this; exact this, by
        have h1 : w5.cell? ⟨p, 1, none⟩ = some (.map (some mb)) := by
          rw [h5]
          exact (((HD4.out.hp.drewN 1).main.set 3 (.int .u64 z)).alloc _).cell 1
        exact h1⟩ : wq.cell? ⟨w.heap.size, 0, none⟩ = some (.int .i64 a) ∧ wq.cell? ⟨p, 1, none⟩ = some (.map (some mb))))
    clear hn5 h5
    go_upto_region 6 with fail
    refine Reg.region_vals (by kernel_rfl) [(51, .pointer (some ⟨p, 0, none⟩)), (52, .pointer (some ⟨p, 0, none⟩)), (53, .pointer (some ⟨p, 1, none⟩)), (54, .map (some mb)), (55, .pointer (some ⟨w.heap.size, 0, none⟩)), (56, .int .i64 a), (57, .pointer (some ⟨w4.heap.size, 0, none⟩))] (fun l wy => bif l 7 then Mid w p mb v H n l2 (u + 1) f m s v2 H2 wy else Dr w5 wy) (by kernel_rfl) (by kernel_rfl) (by kernel_rfl) (rfl) ⟨?_, ?_, ?_, ?_, ?_, ?_, ?_, ?_, trivial⟩ ?hend
    · -- 0: 51 := Op.move t0
      intro aq wq lq hI hl hdone hlater hold hd ho
      have h0 : aq.tmps.getD 0 undef = .pointer (some ⟨p, 0, none⟩) := ho 0 (by kernel_rfl)
      clear hd ho hdone hlater hold
      exact Reg.step2_move (.tmp 0) rfl h0 hI trivial
    · -- 1: 52 := Op.nilCheck t51
      intro aq wq lq hI hl hdone hlater hold hd ho
      have h51 : aq.tmps.getD 51 undef = .pointer (some ⟨p, 0, none⟩) := hd 51 (by kernel_rfl)
      clear hd ho hdone hlater hold
      rw [Array.getD_eq_getD_getElem?] at h51
      refine Reg.step2_val (.pointer (some ⟨p, 0, none⟩)) ?_ rfl hI trivial
      go_simp
    · -- 2: 53 := Op.fieldAddr 62 t52 1
      intro aq wq lq hI hl hdone hlater hold hd ho
      have h52 : aq.tmps.getD 52 undef = .pointer (some ⟨p, 0, none⟩) := hd 52 (by kernel_rfl)
      clear hd ho hdone hlater hold
      rw [Array.getD_eq_getD_getElem?] at h52
      refine Reg.step2_val (.pointer (some ⟨p, 1, none⟩)) ?_ rfl hI trivial
      go_simp
    · -- 3: 54 := Op.load 58 t53
      intro aq wq lq hI hl hdone hlater hold hd ho
      have h53 : aq.tmps.getD 53 undef = .pointer (some ⟨p, 1, none⟩) := hd 53 (by kernel_rfl)
      have gl7 : lq 7 = false := hlater 7 (by kernel_rfl)
      clear hd ho hdone hlater hold
      rw [Array.getD_eq_getD_getElem?] at h53
      have hJ := hI
      rw [gl7] at hJ
      have e0 := (HCB.out wq hJ).2
      refine Reg.step2_val (.map (some mb)) ?_ rfl hI trivial
      clear hI hJ
      go_simp
    · -- 4: 55 := Op.fieldAddr 35 t5 0
      intro aq wq lq hI hl hdone hlater hold hd ho
      have h5 : aq.tmps.getD 5 undef = .pointer (some ⟨w.heap.size, 0, none⟩) := ho 5 (by kernel_rfl)
      clear hd ho hdone hlater hold
      rw [Array.getD_eq_getD_getElem?] at h5
      refine Reg.step2_val (.pointer (some ⟨w.heap.size, 0, none⟩)) ?_ rfl hI trivial
      go_simp
    · -- 5: 56 := Op.load 3 t55
      intro aq wq lq hI hl hdone hlater hold hd ho
      have h55 : aq.tmps.getD 55 undef = .pointer (some ⟨w.heap.size, 0, none⟩) := hd 55 (by kernel_rfl)
      have gl7 : lq 7 = false := hlater 7 (by kernel_rfl)
      clear hd ho hdone hlater hold
      rw [Array.getD_eq_getD_getElem?] at h55
      have hJ := hI
      rw [gl7] at hJ
      have e0 := (HCB.out wq hJ).1
      refine Reg.step2_val (.int .i64 a) ?_ rfl hI trivial
      clear hI hJ
      go_simp
    · -- 6: 57 := Op.move t8
      intro aq wq lq hI hl hdone hlater hold hd ho
      have h8 : aq.tmps.getD 8 undef = .pointer (some ⟨w4.heap.size, 0, none⟩) := ho 8 (by kernel_rfl)
      clear hd ho hdone hlater hold
      exact Reg.step2_move (.tmp 8) rfl h8 hI trivial
    · -- 7: None := Op.mapUpdate 58 t54 t56 t57
      intro aq wq lq hI hl hdone hlater hold hd ho
      have h54 : aq.tmps.getD 54 undef = .map (some mb) := hd 54 (by kernel_rfl)
      have h56 : aq.tmps.getD 56 undef = .int .i64 a := hd 56 (by kernel_rfl)
      have h57 : aq.tmps.getD 57 undef = .pointer (some ⟨w4.heap.size, 0, none⟩) := hd 57 (by kernel_rfl)
      clear hd ho hdone hlater hold
      rw [Array.getD_eq_getD_getElem?] at h54 h56 h57
      have hJ := hI
      rw [show lq 7 = false from hl] at hJ
      have hw : wq = w5.drew := hJ
      clear hI hJ
      obtain ⟨w6, hrun, hmid⟩ := HMID.out
      rw [← hw] at hrun
      clear hw
      refine Reg.step2_skip w6 rfl ?_ hmid trivial
      clear hmid
      simp [execOp]
      go_simp
    case hend =>
    intro w6 hI
    simp only [Reg.fill, List.foldl_cons, List.foldl_nil, List.setIfInBounds_toArray, List.set_cons_zero, List.set_cons_succ]
    have HM := Lib.hid (show Mid w p mb v H n l2 (u + 1) f m s v2 H2 w6 from hI)
    clear hI HMID HCB HNB HNU HX5
    have hsp : ptr s = .pointer (some ⟨w4.heap.size, 0, none⟩) := by rw [HSS.out]
    have HPU := Lib.hid (push_any HM.out.hp s 0 HM.out.slot HM.out.far (by have := HD4.out.perm.length_eq; have := HLL.out; omega) HM.out.heap)
    rw [hsp] at HPU
    clear hsp
    go_wp2_with fail
    refine HPU.out.mono ?_
    rintro e w7 ⟨rfl, hph⟩
    have HQ := Lib.hid (show PuQ w p mb v H n l u f m a g c k y w7 from ⟨s, by rw [HSS.out], by rw [HSS.out], by rw [HSS.out], by rw [HSS.out], by rw [HSS.out], by
      rw [← HL1.out, ← HL2.out]
      exact put_of HM.out hph HD4.out.dec HD4.out.top (by rw [HSS.out]) HLL.out hn1 hn2 HD4.out.wf (by rw [HSS.out]; exact ha)⟩)
    clear hph
    go_wp2
    go_end0
    exact ⟨rfl, HQ.out⟩
end
end Go.Proofs.Ytbdiadbaapfdgaa.Ca
