/- Layer 11 (cache): Push and Pop of the row; container/heap's Push, Fix and Remove. -/
import Derived.Test.YtbdiadbaapfdgaaCaD
import Derived.Maps.AppendAt
import Derived.OwnWalk
namespace Go.Proofs.Ytbdiadbaapfdgaa.Ca
open Go Go.RowKit Go.Proofs.Ytbdiadbaapfdgaa
set_option linter.unusedVariables false
section
variable {w : World} {p : Nat} {C : Hd} {v : Value} {H : List Sl}
/-- what Fix tells -/
def FxP (w : World) (p : Nat) (C : Hd) (v : Value) (H : List Sl) (w' : World) : Prop := ∃ H', Mv w p C v H H.length H' w' ∧ IsH H.length (useK H')
set_option maxRecDepth 100000 in
set_option maxHeartbeats 1000000 in
theorem fix_any (h : Hp w p C v H) (i : Nat) (hi : i < H.length) (hd : DnAt H.length (useK H) i) : Calls Try.prog 20 #[hp p, .int .i64 i] w fun e w' => e = .returned (.tuple #[]) ∧ FxP w p C v H w' := by
  have hm0 := m_len h.ord
  have HH := Lib.hid h
  have HD := Lib.hid hd
  clear h hd
  go_enter Try.func20, Try.ntmps20
  go_wp2_with fail
  refine (len_any HH.out).mono ?_
  rintro e w1 ⟨rfl, rfl⟩
  clear hm0
  go_wp2_with fail
  refine (down_any HH.out H.length i (Nat.le_refl _) hi HD.out).mono ?_
  rintro e w2 ⟨H1, b, rfl, hmv, hb⟩
  have HMV := Lib.hid hmv
  have hl := hmv.len
  have HB := Lib.hid hb
  clear hmv hb
  cases b with
  | true =>
    go_wp2_with fail
    go_end0
    exact ⟨rfl, H1, HMV.out, HB.out⟩
  | false =>
    go_wp2_with fail
    refine (up_any HMV.out.hp H.length i (by omega) hi HB.out).mono ?_
    rintro e w3 ⟨rfl, H2, hmv2, hih⟩
    have HMV2 := Lib.hid (show Mv _ p C v H H.length H2 w3 from ⟨hmv2.hp, hmv2.perm.trans HMV.out.perm, fun x hx => (hmv2.off x hx).trans (HMV.out.off x hx), HMV.out.chg.trans hmv2.chg fun k _ hk => ft_perm HMV.out.perm hk⟩)
    have HIH := Lib.hid hih
    clear hmv2 hih
    go_wp2_with fail
    go_end0
    exact ⟨rfl, H2, HMV2.out, HIH.out⟩
/-- Pop's answer -/
def PoP (w : World) (p : Nat) (C : Hd) (v : Value) (H : List Sl) (w' : World) : Prop := ∃ v', Hp w' p C v' (H.take (H.length - 1)) ∧ v'.ownBlock = v.ownBlock ∧ Chg (fun k => k = p ∨ v.ownBlock = some k) w w'
theorem sg_take {H : List Sl} {n x : Nat} (hx : x < n) : sg (H.take n) x = sg H x := by
  unfold sg
  rw [List.getD_eq_getElem?_getD, List.getD_eq_getElem?_getD, List.getElem?_take, if_pos hx]
theorem cut_row {W : World} {X : List Value} {g n cap : Nat} (h : W.ownsRow 0 65 1 (.slice (some ⟨g, 0, none⟩) (n + 1) cap) (n + 1) X) : W.ownsRow 0 65 1 (.slice (some ⟨g, 0, none⟩) n cap) n (X.take n) := by
  refine ⟨by rw [List.length_take, h.1]; omega, ?_⟩
  rcases h.2 with ⟨e, _⟩ | ⟨g', cap', cur, e, hb, hg, h1, h2, h3, h4⟩
  · cases e
  · simp only [Value.slice.injEq, Option.some.injEq, Addr.mk.injEq, and_true, true_and] at e
    obtain ⟨rfl, rfl⟩ := e
    refine .inr ⟨g, cap, cur, rfl, hb, hg, by omega, h2, h3, ?_⟩
    rw [← h4, List.take_take]
    congr 1
    omega
set_option maxRecDepth 100000 in
set_option maxHeartbeats 1000000 in
theorem pop_any (h : Hp w p C v H) (n : Nat) (hn : H.length = n + 1) : Calls Try.prog 68 #[.pointer (some ⟨p, 2, none⟩)] w fun e w' => e = .returned (.iface 65 (ptr (sg H n))) ∧ PoP w p C v H w' := by
  obtain ⟨g, cap, hv⟩ := h.form (by omega)
  rw [hn] at hv
  subst hv
  have hrow := h.row
  rw [hn] at hrow
  have h' : Hp w p C (.slice (some ⟨g, 0, none⟩) H.length cap) H := by rw [hn]; exact h
  have e0 := h.ord
  have e1 := h'.c (i := n) (by omega)
  have z1 := h'.cz (i := n) (by omega)
  have hcap : n + 1 ≤ cap ∧ cap ≤ 9223372036854775807 := by
    rcases hrow.2 with ⟨e, _⟩ | ⟨g', cap', cur, e, hb, hg, h1, h2, h3, h4⟩
    · cases e
    · simp only [Value.slice.injEq, Option.some.injEq, Addr.mk.injEq, and_true, true_and] at e
      obtain ⟨rfl, rfl⟩ := e
      exact ⟨h1, by unfold maxLen at h2; omega⟩
  have hfew := h.few
  have HP : PoP w p C (.slice (some ⟨g, 0, none⟩) (n + 1) cap) H ((w.setCell ⟨g, n, none⟩ (.pointer none)).setCell ⟨p, 2, none⟩ (.slice (some ⟨g, 0, none⟩) n cap)) := by
    have r1 := hrow.stored n (.pointer none)
    have m1 := h.main.setOther (a := ⟨g, n, none⟩) (fun e => h'.gp e.symm) (.pointer none)
    refine ⟨.slice (some ⟨g, 0, none⟩) n cap, ⟨?_, ?_, ?_, ?_⟩, rfl, ?_⟩
    · exact m1.set 2 _
    · have hl : (H.take (H.length - 1)).length = n := by rw [List.length_take]; omega
      rw [hl]
      have r2 := cut_row r1.1
      have e2 : ((H.map ptr).set n (.pointer none)).take n = (H.take (H.length - 1)).map ptr := by
        rw [List.take_set, List.set_eq_of_length_le (by rw [List.length_take]; omega), ← List.map_take, hn]; rfl
      rw [e2] at r2
      exact row_other r2 m1 (by decide) 2 _
    · intro x hx
      have hx' : x < n := by rw [List.length_take] at hx; omega
      rw [sg_take (by omega)]
      exact ((h.slot x (by omega)).setOther (a := ⟨g, n, none⟩) (fun e => h'.gne (i := x) (by omega) e.symm) _).setOther (a := ⟨p, 2, none⟩) (fun e => h.pne (i := x) (by omega) e.symm) _
    · have := h.few
      rw [List.length_take]; omega
    · exact ((Chg.refl _ w).setCell (p := ⟨g, n, none⟩) (fun _ => .inr rfl) _).setCell (p := ⟨p, 2, none⟩) (fun _ => .inl rfl) _
  have HPO := Lib.hid HP
  have zp := h.main.frozen 2
  have ep : (w.setCell ⟨g, n, none⟩ (.pointer none)).cell? ⟨p, 2, none⟩ = some (.slice (some ⟨g, 0, none⟩) (n + 1) cap) := (h.main.setOther (a := ⟨g, n, none⟩) (fun e => h'.gp e.symm) (.pointer none)).cell 2
  have zq : (w.setCell ⟨g, n, none⟩ (.pointer none)).frozen? ⟨p, 2, none⟩ = false := (h.main.setOther (a := ⟨g, n, none⟩) (fun e => h'.gp e.symm) (.pointer none)).frozen 2
  clear HP h' h hrow hn
  dsimp only [ptr] at e1
  go_enter Try.func68, Try.ntmps68
  go_wp2
  go_ret
  exact ⟨rfl, HPO.out⟩
/-- what a push keeps beside: the places that may be others -/
def fx (p : Nat) (v : Value) (H : List Sl) (s : Sl) (k : Nat) : Prop := k = p ∨ ft v H k ∨ k = s.blk
/-- Push's answer: the row with s behind; its memory is what it was, or new -/
def PuP (w : World) (p : Nat) (C : Hd) (v : Value) (H : List Sl) (s : Sl) (w' : World) : Prop := ∃ v', Hp w' p C v' (H ++ [s]) ∧ (v'.ownBlock = v.ownBlock ∨ ∀ k, v'.ownBlock = some k → w.heap.size ≤ k) ∧ Chg (fx p v H s) w w'
theorem info_ptr : (Try.prog.info? 65).map (fun i => (i.zero, i.size, i.bytes)) = some (some (.pointer none), 1, 8) := by kernel_rfl
set_option maxRecDepth 100000 in
theorem ta_any (w : World) (b : Nat) : (Instr.typeAssert (.iface 65 (.pointer (some ⟨b, 0, none⟩))) 20 65 false).run Try.prog w = .ok (.pointer (some ⟨b, 0, none⟩)) w := by kernel_rfl
theorem sg_app {H : List Sl} {s : Sl} {x : Nat} (hx : x < H.length) : sg (H ++ [s]) x = sg H x := by
  unfold sg; rw [List.getD_eq_getElem?_getD, List.getD_eq_getElem?_getD, List.getElem?_append_left hx]
theorem sg_last (H : List Sl) (s : Sl) : sg (H ++ [s]) H.length = s := by
  unfold sg; rw [List.getD_eq_getElem?_getD, List.getElem?_append_right (Nat.le_refl _)]; simp
theorem row_add {w w' : World} {v v' : Value} {n : Nat} {X X' : List Value} (h : w.ownsRow 0 65 1 v n X) (h' : w'.ownsRow 0 65 1 v' (n + 1) X') (hg : w.grownBy w' v.ownBlock) {b : Nat} {t : TypeId} {cs : List Value} (hb : Has w b t cs) (ht : t ≠ 65) : Has w' b t cs := by
  refine hb.same (hg.block b hb.lt fun e => ?_)
  rcases h.2 with ⟨e3, _⟩ | ⟨g', cap', cur, e3, _, hg', _⟩
  · rw [e3] at e; cases e
  · rw [e3] at e
    injection e with e
    have e2 : b = g' := e
    subst e2
    exact ht (blk_ty hg' hb).symm
set_option maxRecDepth 100000 in
set_option maxHeartbeats 1000000 in
theorem push_m (h : Hp w p C v H) (s : Sl) (k : Nat) (hs : Has w s.blk 64 (sc s k)) (hf : ∀ i, i < H.length → (sg H i).blk ≠ s.blk) (hl : H.length < 4096) : Calls Try.prog 69 #[.pointer (some ⟨p, 2, none⟩), .iface 65 (ptr s)] w fun e w' => e = .returned (.tuple #[]) ∧ PuP w p C v H s w' := by
  obtain ⟨a, cap, hv⟩ := h.formA
  have e0 := h.ord
  have ep : s.blk ≠ p := has_ne hs h.main (by decide)
  obtain ⟨w1, hw1⟩ : ∃ w1, w1 = w.setCell ⟨s.blk, 6, none⟩ (.int .i64 (H.length : Int)) := ⟨_, rfl⟩
  have h1 : Hp w1 p C v H := by
    rw [hw1]
    exact ⟨h.main.setOther (a := ⟨s.blk, 6, none⟩) ep _, row_other h.row hs (by decide) _ _, fun i hi => (h.slot i hi).setOther (a := ⟨s.blk, 6, none⟩) (fun e => hf i hi e.symm) _, h.few⟩
  have hs1 : Has w1 s.blk 64 (sc s H.length) := by rw [hw1]; have := hs.set 6 (.int .i64 (H.length : Int)); rwa [sc_set] at this
  have hc1 : Chg (fx p v H s) w w1 := by rw [hw1]; exact (Chg.refl _ w).setCell (p := ⟨s.blk, 6, none⟩) (fun _ => .inr (.inr rfl)) _
  have z0 := hs.frozen 6
  have c6 := hs.cell 6
  simp only [sc, List.getElem?_cons_zero, List.getElem?_cons_succ] at c6
  have e1 := h1.ord
  have hsz : w1.heap.size = w.heap.size := by rw [hw1]; simp
  obtain ⟨i0, hi, hz0, hz1, hz2⟩ := info_parts info_ptr
  have hr1 := h1.row.alloc (.cells #[ptr s] 65)
  have HH1 := Lib.hid h1
  have HS1 := Lib.hid hs1
  have HC1 := Lib.hid hc1
  have HSZ := Lib.hid hsz
  have hp1 := h1.main.lt
  have HHR := Lib.hid h1.row
  clear h hs hf h1 hs1 hc1 hsz
  subst hv
  obtain ⟨b, hb⟩ : ∃ b, b = s.blk := ⟨_, rfl⟩
  have HB := Lib.hid hb
  dsimp only [ptr]
  dsimp only [ptr] at hr1
  have hta := fun w => ta_any w b
  rw [← hb] at hw1 z0 c6 hr1 ⊢
  have HW := Lib.hid hw1
  rw [hw1] at hr1 e1
  have hcN : ((w.setCell ⟨b, 6, none⟩ (.int .i64 (H.length : Int))).alloc (.cells #[.pointer (some ⟨b, 0, none⟩)] 65)).cell? ⟨w.heap.size, 0, none⟩ = some (.pointer (some ⟨b, 0, none⟩)) := by
    have := (Has.new (w.setCell ⟨b, 6, none⟩ (.int .i64 (H.length : Int))) [.pointer (some ⟨b, 0, none⟩)] 65).cell 0
    rw [show (w.setCell ⟨b, 6, none⟩ (.int .i64 (H.length : Int))).heap.size = w.heap.size by simp] at this
    exact this
  clear hb ep
  go_enter Try.func69, Try.ntmps69
  go_wp2_with (at_builtin; refine wpList_append_own_at _ rfl _ _ 60 rfl 0 65 i0 (.pointer none) 1 8 Try.underlying60 hi hz0 hz1 hz2 rfl (by decide) _ _ _ rfl hr1 ⟨w.heap.size, 0, none⟩ 1 1 [.pointer (some ⟨b, 0, none⟩)] rfl rfl ?c1 ?c2 ?c3 ?c4 ?c5 ?_)
  case c1 =>
    intro j u hj
    match j, hj with
    | 0, hj => simp at hj; subst hj; exact hcN
  case c2 => intro u hu; simp at hu; subst hu; rfl
  case c3 => unfold maxLen; omega
  case c4 => omega
  case c5 => simp
  intro v' w3 hown' hgrow _ hat
  obtain ⟨g', cap', hv'⟩ : ∃ g cap, v' = .slice (some ⟨g, 0, none⟩) (H.length + 1) cap := by
    rcases hown'.2 with ⟨_, h0⟩ | ⟨g, cap, _, hv, _⟩
    · omega
    · exact ⟨g, cap, hv⟩
  subst hv'
  have hrow0 : ((w.setCell ⟨b, 6, none⟩ (.int .i64 (H.length : Int))).alloc (.cells #[.pointer (some ⟨b, 0, none⟩)] 65)).ownsRow 0 65 1 (.slice a H.length cap) H.length (H.map ptr) := hr1
  have hM : Has w3 p 62 (cc C (.slice a H.length cap)) := row_add hr1 hown' hgrow (by rw [← HW.out]; exact HH1.out.main.alloc _) (by decide)
  have HP : PuP w p C (.slice a H.length cap) H s (w3.setCell ⟨p, 2, none⟩ (.slice (some ⟨g', 0, none⟩) (H.length + 1) cap')) := by
    have hsl : ∀ i, i < H.length → Has w3 (sg H i).blk 64 (sc (sg H i) i) := fun i hi => row_add hr1 hown' hgrow (by rw [← HW.out]; exact (HH1.out.slot i hi).alloc _) (by decide)
    have hss : Has w3 s.blk 64 (sc s H.length) := row_add hr1 hown' hgrow (by rw [← HW.out]; exact HS1.out.alloc _) (by decide)
    have hlen : (H ++ [s]).length = H.length + 1 := by simp
    refine ⟨.slice (some ⟨g', 0, none⟩) (H.length + 1) cap', ⟨hM.set 2 _, ?_, ?_, by rw [hlen]; omega⟩, ?_, ?_⟩
    · rw [hlen, List.map_append]
      have e : (H.map ptr ++ [s].map ptr) = H.map ptr ++ [.pointer (some ⟨b, 0, none⟩)] := by rw [HB.out]; rfl
      rw [e]
      exact row_other hown' hM (by decide) 2 _
    · intro x hx
      rw [hlen] at hx
      by_cases e : x = H.length
      · subst e
        rw [sg_last]
        exact hss.setOther (a := ⟨p, 2, none⟩) (fun e => has_ne hss hM (by decide) e.symm) _
      · rw [sg_app (by omega)]
        have := hsl x (by omega)
        exact this.setOther (a := ⟨p, 2, none⟩) (fun e => has_ne this hM (by decide) e.symm) _
    · rcases hat with e | e
      · exact .inl e
      · refine .inr fun k hk => ?_
        rw [e] at hk
        injection hk with hk
        rw [← hk]
        simp
    · refine Chg.setCell (p := ⟨p, 2, none⟩) ?_ (fun _ => .inl rfl) _
      have hc2 : Chg (fx p (.slice a H.length cap) H s) w ((w.setCell ⟨b, 6, none⟩ (.int .i64 (H.length : Int))).alloc (.cells #[.pointer (some ⟨b, 0, none⟩)] 65)) := by rw [← HW.out]; exact HC1.out.alloc _
      exact hc2.grown hgrow fun k _ hk => .inr (.inl (.inl hk))
  have HPO := Lib.hid HP
  have zp := hM.frozen 2
  have cp : w3.cell? ⟨p, 2, none⟩ = some (.slice a H.length cap) := hM.cell 2
  clear HP hM hrow0 hgrow hown' hat hr1
  go_wp2
  go_end0
  exact ⟨rfl, HPO.out⟩
end
end Go.Proofs.Ytbdiadbaapfdgaa.Ca
