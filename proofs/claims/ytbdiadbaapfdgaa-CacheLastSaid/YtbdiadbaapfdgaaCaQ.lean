/- Layer 11 (cache): the document's own answers: Put, Get. -/
import Derived.Test.YtbdiadbaapfdgaaCaR
namespace Go.Proofs.Ytbdiadbaapfdgaa.Ca
open Go Go.RowKit Go.Proofs.Ytbdiadbaapfdgaa Go.Maps
set_option linter.unusedVariables false

section
variable {w w' : World} {base : Nat} {v : Value} {es : List En}
theorem ownsRow_base {w : World} {b b' : Nat} {e : TypeId} {size : Nat} {v : Value} {n : Nat} {xs : List Value} (h : w.ownsRow b e size v n xs) (hb : b' ≤ b) : w.ownsRow b' e size v n xs := by
  refine ⟨h.1, h.2.imp id ?_⟩
  rintro ⟨g, cap, cur, h1, h2, h3⟩
  exact ⟨g, cap, cur, h1, Nat.le_trans hb h2, h3⟩
theorem b_al {B : Nat} {w w' : World} (h : Below B w w') (hB : B ≤ w.heap.size) (o : Obj) : Below B w (w'.alloc o) := h.alloc (Nat.le_trans hB h.size) o
set_option maxRecDepth 100000 in
set_option maxHeartbeats 4000000 in
theorem refput_any (h : RE w base v es) (hl : es.length ≤ 100000) (n : Nat) (hn1 : 1 ≤ n) (hn2 : n ≤ 100000) (e : En) : Calls Try.prog 11 #[v, .int .i64 n, .agg #[.int .i64 e.addr, .int .u64 e.gen, .int .u32 e.sum, .int .u8 e.kind, .string e.pay]] w (RoP w (putE n es e)) := by
  obtain ⟨w1, hw1⟩ : ∃ w1, w1 = w.alloc (.cells #[.int .i64 e.addr, .int .u64 e.gen, .int .u32 e.sum, .int .u8 e.kind, .string e.pay] 40) := ⟨_, rfl⟩
  have hx : Has w1 w.heap.size 40 (encE e) := by rw [hw1]; exact Has.new w _ _
  have hb1 : Below w.heap.size w w1 := by rw [hw1]; exact b_al (Below.refl _ _) (Nat.le_refl _) _
  have HR1 := Lib.hid (h.below hb1)
  have HX := Lib.hid hx
  have HB1 := Lib.hid hb1
  have c0 := hx.cell 0
  simp only [encE, List.getElem?_cons_zero] at c0
  rw [hw1] at c0
  clear hx hb1 h
  go_enter Try.func11, Try.ntmps11
  go_wp2_with fail
  rw [← hw1]
  have HS1 := Lib.hid (show w1.heap.size = w.heap.size + 1 by rw [hw1]; simp)
  clear hw1 c0
  refine (refdrop_any HR1.out hl e.addr).mono ?_
  rintro e2 w2 ⟨v1, rfl, hr2, hb2⟩
  have hx2 := HX.out.below hb2 HX.out.lt
  have c0 := hx2.cell 0
  have c1 := hx2.cell 1
  have c2 := hx2.cell 2
  have c3 := hx2.cell 3
  have c4 := hx2.cell 4
  simp only [encE, List.getElem?_cons_zero, List.getElem?_cons_succ] at c0 c1 c2 c3 c4
  obtain ⟨l1, hl1⟩ : ∃ l1, l1 = rmE es e.addr := ⟨_, rfl⟩
  rw [← hl1] at hr2
  have HL1 := Lib.hid hl1
  have hll : l1.length ≤ 100000 := by
    have := List.length_filter_le (fun t => !(t.addr == e.addr)) es
    rw [hl1]; unfold rmE; omega
  have HB2 := Lib.hid (b_on HB1.out hb2)
  have hsz2 : w.heap.size ≤ w2.heap.size := HB2.out.size
  obtain ⟨w3, hw3⟩ : ∃ w3, w3 = w2.alloc (.cells #[.int .i64 e.addr, .int .u64 e.gen, .int .u32 e.sum, .int .u8 e.kind, .string e.pay] 40) := ⟨_, rfl⟩
  have HO3 := Lib.hid (show w3.ownsRow w2.heap.size 40 5 (.slice (some ⟨w2.heap.size, 0, none⟩) 1 1) (e :: l1.take 0).length (flatE (e :: l1.take 0)) from by
    rw [hw3]; exact World.ownsRow_lit w2 #[.int .i64 e.addr, .int .u64 e.gen, .int .u32 e.sum, .int .u8 e.kind, .string e.pay] 1 (Nat.le_refl _) (by unfold maxLen; omega) rfl)
  have HB3 := Lib.hid (show Below w.heap.size w w3 by rw [hw3]; exact b_al HB2.out (Nat.le_refl _) _)
  have HC3 := Lib.hid (show Below w2.heap.size w2 w3 by rw [hw3]; exact b_al (Below.refl _ _) (Nat.le_refl _) _)
  obtain ⟨a1, cap1, hv1⟩ := ownsRow_any hr2
  subst hv1
  have HR2 := Lib.hid hr2
  clear hr2 hb2 hx2 hl1 HX HR1
  go_wp2_with fail
  rw [← hw3]
  clear hw3 c0 c1 c2 c3 c4
  go_loopw [7, 8] (fun x y wr => ∃ k : Nat, k ≤ l1.length ∧ k + 1 ≤ n ∧ y = .int .i64 k ∧ wr.ownsRow w2.heap.size 40 5 x (e :: l1.take k).length (flatE (e :: l1.take k)) ∧ Below w2.heap.size w2 wr) (fun _ y _ => n - (intOf y).toNat)
  case atStart => exact ⟨0, Nat.zero_le _, by omega, rfl, HO3.out, HC3.out⟩
  case round =>
    obtain ⟨k, hk, hk1, rfl, hown, hbel2⟩ := hrel
    have hol : (e :: l1.take k).length = k + 1 := by rw [List.length_cons, List.length_take]; omega
    obtain ⟨gx, capx, hvx⟩ := ownsRow_form hown (by omega)
    rw [hol] at hvx
    subst hvx
    by_cases hlt : k < l1.length ∧ k + 1 < n
    · obtain ⟨hlt1, hlt2⟩ := hlt
      obtain ⟨g, cap', hv⟩ := ownsRow_form HR2.out (by omega)
      injection hv with hv1 hv2 hv3
      subst hv1
      have hrow : RE wr w1.heap.size (.slice (some ⟨g, 0, none⟩) l1.length cap1) l1 := HR2.out.below hbel2
      have hki : (k : Int) < (l1.length : Int) := by omega
      have hki2 : (k : Int) + 1 < (n : Int) := by omega
      have c0 := hrow.cell hlt1 0 (by omega)
      have c1 := hrow.cell hlt1 1 (by omega)
      have c2 := hrow.cell hlt1 2 (by omega)
      have c3 := hrow.cell hlt1 3 (by omega)
      have c4 := hrow.cell hlt1 4 (by omega)
      have hst : e :: l1.take (k + 1) = (e :: l1.take k) ++ [l1[k]] := by rw [List.take_succ_eq_append_getElem hlt1]; rfl
      obtain ⟨t, ht⟩ : ∃ t, t = l1[k] := ⟨_, rfl⟩
      rw [← ht] at c0 c1 c2 c3 c4 hst
      simp only [encE, List.getElem?_cons_zero, List.getElem?_cons_succ, Nat.add_zero] at c0 c1 c2 c3 c4
      clear ht hrow hv2 hv3
      obtain ⟨L, hL⟩ : ∃ L, L = e :: l1.take k := ⟨_, rfl⟩
      rw [← hL] at hst hown hol
      rw [hol] at hown
      clear hL
      have HST := Lib.hid hst
      have HBB := Lib.hid hbel2
      have hsz2 := hbel2.size
      have HOL := Lib.hid hol
      obtain ⟨i0, hi, hz0, hz1, hz2⟩ := info_parts info_slot
      clear hst hbel2 hol
      go_wp2_with (at_builtin; refine wpList_append_own_at _ rfl _ _ 28 rfl w2.heap.size 40 i0 (.agg #[.int .i64 0, .int .u64 0, .int .u32 0, .int .u8 0, .string ⟨#[]⟩]) 5 40 Try.underlying28 hi hz0 hz1 hz2 rfl (by decide) _ _ _ rfl (hown.alloc _) ⟨wr.heap.size, 0, none⟩ 1 1 (encE t) rfl rfl ?c1 ?c2 ?c3 ?c4 ?c5 ?_)
      case c1 =>
        intro j u hj
        match j, hj with
        | 0, hj => simp [encE] at hj; subst hj; simp [Addr.add]
        | 1, hj => simp [encE] at hj; subst hj; simp [Addr.add]
        | 2, hj => simp [encE] at hj; subst hj; simp [Addr.add]
        | 3, hj => simp [encE] at hj; subst hj; simp [Addr.add]
        | 4, hj => simp [encE] at hj; subst hj; simp [Addr.add]
      case c2 => intro u hu; simp [encE] at hu; rcases hu with rfl | rfl | rfl | rfl | rfl <;> rfl
      case c3 => unfold maxLen; omega
      case c4 => omega
      case c5 => simp; omega
      intro v' wn hown' hgrow _ _
      have HO' := Lib.hid hown'
      have HBB' := Lib.hid (show Below w2.heap.size w2 wn from (HBB.out.alloc (by omega) _).grown hgrow (by simp; omega) (fun q hq => (hown.lt q hq).1))
      clear hown' hgrow hown HBB c0 c1 c2 c3 c4
      go_wp2_with fail
      go_roundw
      case rel => exact ⟨k + 1, by omega, by omega, by go_num, by rw [HST.out, List.length_append, flatE_append, flatE_one, HOL.out]; exact HO'.out, HBB'.out⟩
      case measure => simp [intOf]; omega
    · have HFL := Lib.hid (show e :: l1.take k = putE n es e from by
        unfold putE
        rw [← HL1.out]
        by_cases h1 : k < l1.length
        · have : k = n - 1 := by omega
          rw [this]
        · rw [List.take_of_length_le (by omega), List.take_of_length_le (by omega)])
      have HO := Lib.hid (ownsRow_base hown hsz2)
      have HB := Lib.hid (b_on HB2.out hbel2)
      clear hown hbel2 hol
      by_cases h1 : k < l1.length
      · have h2 : ¬ (k : Int) + 1 < (n : Int) := by omega
        go_wp2
        go_ret
        exact RoP.mk _ rfl (by rw [← HFL.out]; exact HO.out) HB.out
      · have h2 : ¬ (k : Int) < (l1.length : Int) := by omega
        go_wp2
        go_ret
        exact RoP.mk _ rfl (by rw [← HFL.out]; exact HO.out) HB.out
theorem gt_at (hn : (es.map En.addr).Nodup) {k : Nat} (hk : k < es.length) : gtE es es[k].addr = some es[k] := by
  have : ∀ (l : List En), (l.map En.addr).Nodup → ∀ t ∈ l, gtE l t.addr = some t := fun l => by
    induction l with
    | nil => intro _ t ht; cases ht
    | cons x l ih =>
      intro h t ht
      rw [List.map_cons, List.nodup_cons] at h
      unfold gtE
      rcases List.mem_cons.1 ht with rfl | ht
      · rw [List.find?_cons_of_pos (by simp)]
      · have hne : x.addr ≠ t.addr := fun e => h.1 (e ▸ List.mem_map_of_mem ht)
        rw [List.find?_cons_of_neg (by simpa using hne)]
        exact ih h.2 t ht
  exact this es hn _ (List.getElem_mem hk)
theorem put_self {t : En} (ht : t ∈ es) : putE es.length es t = t :: rmE es t.addr := by
  unfold putE
  rw [List.take_of_length_le]
  have : (rmE es t.addr).length < es.length := by
    unfold rmE
    exact List.length_filter_lt_length_iff_exists.2 ⟨t, ht, by simp⟩
  omega
/-- what the document's Get answers -/
def RgP (w : World) (v : Value) (es : List En) (a g s : Int) (e : Ending) (w' : World) : Prop :=
  (∃ t v', gtE es a = some t ∧ t.gen = g ∧ t.sum = s ∧ e = .returned (.tuple #[v', .agg #[.int .i64 t.addr, .int .u64 t.gen, .int .u32 t.sum, .int .u8 t.kind, .string t.pay], .bool true]) ∧ RE w' w.heap.size v' (t :: rmE es a) ∧ Below w.heap.size w w') ∨
  ((∀ t, gtE es a = some t → ¬ (t.gen = g ∧ t.sum = s)) ∧ e = .returned (.tuple #[v, .agg #[.int .i64 0, .int .u64 0, .int .u32 0, .int .u8 0, .string ⟨#[]⟩], .bool false]) ∧ Below w.heap.size w w')
theorem RgP.yes {a g s : Int} {e : Ending} (t : En) (v' : Value) (h1 : gtE es a = some t) (h2 : t.gen = g) (h3 : t.sum = s) (he : e = .returned (.tuple #[v', .agg #[.int .i64 t.addr, .int .u64 t.gen, .int .u32 t.sum, .int .u8 t.kind, .string t.pay], .bool true])) (h4 : RE w' w.heap.size v' (t :: rmE es a)) (h5 : Below w.heap.size w w') : RgP w v es a g s e w' := .inl ⟨t, v', h1, h2, h3, he, h4, h5⟩
theorem RgP.no {a g s : Int} {e : Ending} (h1 : ∀ t, gtE es a = some t → ¬ (t.gen = g ∧ t.sum = s)) (he : e = .returned (.tuple #[v, .agg #[.int .i64 0, .int .u64 0, .int .u32 0, .int .u8 0, .string ⟨#[]⟩], .bool false])) (h5 : Below w.heap.size w w') : RgP w v es a g s e w' := .inr ⟨h1, he, h5⟩
theorem set5 {wq : World} {q : Nat} {x0 x1 x2 x3 x4 y0 y1 y2 y3 y4 : Value} (h : Has wq q 40 [x0, x1, x2, x3, x4]) : Has (((((wq.setCell ⟨q, 0, none⟩ y0).setCell ⟨q, 1, none⟩ y1).setCell ⟨q, 2, none⟩ y2).setCell ⟨q, 3, none⟩ y3).setCell ⟨q, 4, none⟩ y4) q 40 [y0, y1, y2, y3, y4] := ((((h.set 0 y0).set 1 y1).set 2 y2).set 3 y3).set 4 y4
theorem heap5 (wq : World) {q k : Nat} (hk : k ≠ q) (y0 y1 y2 y3 y4 : Value) : (((((wq.setCell ⟨q, 0, none⟩ y0).setCell ⟨q, 1, none⟩ y1).setCell ⟨q, 2, none⟩ y2).setCell ⟨q, 3, none⟩ y3).setCell ⟨q, 4, none⟩ y4).heap[k]? = wq.heap[k]? :=
  ((((Below.heap_setCell _ _ _ _ (fun e => hk e)).trans (Below.heap_setCell _ _ _ _ (fun e => hk e))).trans (Below.heap_setCell _ _ _ _ (fun e => hk e))).trans (Below.heap_setCell _ _ _ _ (fun e => hk e))).trans (Below.heap_setCell _ _ _ _ (fun e => hk e))
theorem below5 {B : Nat} {w wq : World} (h : Below B w wq) {q : Nat} (hq : B ≤ q) (y0 y1 y2 y3 y4 : Value) : Below B w (((((wq.setCell ⟨q, 0, none⟩ y0).setCell ⟨q, 1, none⟩ y1).setCell ⟨q, 2, none⟩ y2).setCell ⟨q, 3, none⟩ y3).setCell ⟨q, 4, none⟩ y4) :=
  ((((h.setCell (p := ⟨q, 0, none⟩) hq _).setCell (p := ⟨q, 1, none⟩) hq _).setCell (p := ⟨q, 2, none⟩) hq _).setCell (p := ⟨q, 3, none⟩) hq _).setCell (p := ⟨q, 4, none⟩) hq _
set_option maxRecDepth 100000 in
set_option maxHeartbeats 4000000 in
theorem refget_any (h : RE w base v es) (hl : es.length ≤ 100000) (hn : (es.map En.addr).Nodup) (a g s : Int) : Calls Try.prog 13 #[v, .int .i64 a, .int .u64 g, .int .u32 s] w (RgP w v es a g s) := by
  obtain ⟨w1, hw1⟩ : ∃ w1, w1 = w.alloc (.cells #[.int .i64 0, .int .u64 0, .int .u32 0, .int .u8 0, .string ⟨#[]⟩] 40) := ⟨_, rfl⟩
  have hx : Has w1 w.heap.size 40 [.int .i64 0, .int .u64 0, .int .u32 0, .int .u8 0, .string ⟨#[]⟩] := by rw [hw1]; exact Has.new w _ _
  have hb1 : Below w.heap.size w w1 := by rw [hw1]; exact b_al (Below.refl _ _) (Nat.le_refl _) _
  have HR1 := Lib.hid (h.below hb1)
  have HX := Lib.hid hx
  have HB1 := Lib.hid hb1
  have HS1 := Lib.hid (show w1.heap.size = w.heap.size + 1 by rw [hw1]; simp)
  obtain ⟨ao, cap, rfl⟩ := ownsRow_any h
  have HN := Lib.hid hn
  clear hx hb1 h hn
  obtain ⟨n, hnl⟩ : ∃ n, n = es.length := ⟨_, rfl⟩
  have HNL := Lib.hid hnl
  rw [← hnl] at hl ⊢
  clear hnl
  go_enter Try.func13, Try.ntmps13
  go_wp2_with fail
  rw [← hw1]
  clear hw1
  go_loopw [11] (fun y wr => ∃ k : Nat, k ≤ n ∧ y = .int .i64 k ∧ wr = w1 ∧ ∀ j (hj : j < es.length), j < k → ¬ (es[j].addr = a ∧ es[j].gen = g ∧ es[j].sum = s)) (fun y _ => n - (intOf y).toNat)
  case atStart => exact ⟨0, Nat.zero_le _, rfl, rfl, fun j _ h => by omega⟩
  case round =>
    obtain ⟨k, hk, rfl, rfl, hno⟩ := hrel
    by_cases hlt : k < n
    · have hke : k < es.length := by rw [← HNL.out]; exact hlt
      obtain ⟨gg, cap', hv⟩ := ownsRow_form HR1.out (by omega)
      injection hv with hv1 hv2 hv3
      subst hv1
      have hrow : RE wr base (.slice (some ⟨gg, 0, none⟩) es.length cap) es := by have := HR1.out; rw [← HNL.out]; rw [← HNL.out] at this; exact this
      have hki : (k : Int) < (n : Int) := by omega
      have c0 := hrow.cell hke 0 (by omega)
      have c1 := hrow.cell hke 1 (by omega)
      have c2 := hrow.cell hke 2 (by omega)
      have c3 := hrow.cell hke 3 (by omega)
      have c4 := hrow.cell hke 4 (by omega)
      have hgt := gt_at HN.out hke
      have hmem := List.getElem_mem hke
      have hstep : ∀ t : En, t = es[k] → ¬ (t.addr = a ∧ t.gen = g ∧ t.sum = s) → ∀ j (hj : j < es.length), j < k + 1 → ¬ (es[j].addr = a ∧ es[j].gen = g ∧ es[j].sum = s) := fun t ht hnt j hj hjk => by
        by_cases e : j = k
        · subst e; rw [← ht]; exact hnt
        · exact hno j hj (by omega)
      obtain ⟨t, ht⟩ : ∃ t, t = es[k] := ⟨_, rfl⟩
      have hthis := hstep t ht
      clear hstep
      rw [← ht] at c0 c1 c2 c3 c4 hgt hmem
      simp only [encE, List.getElem?_cons_zero, List.getElem?_cons_succ, Nat.add_zero] at c0 c1 c2 c3 c4
      clear ht hrow hv2 hv3 hno hke
      have HTH := Lib.hid hthis
      have HGT := Lib.hid hgt
      have HME := Lib.hid hmem
      clear hthis hgt hmem
      by_cases h1 : t.addr = a
      · by_cases h2 : t.gen = g
        · by_cases h3 : t.sum = s
          · subst h1 h2 h3
            obtain ⟨w2, hw2⟩ : ∃ w2, w2 = wr.alloc (.cells #[.int .i64 t.addr, .int .u64 t.gen, .int .u32 t.sum, .int .u8 t.kind, .string t.pay] 40) := ⟨_, rfl⟩
            have hb2 : Below wr.heap.size wr w2 := by rw [hw2]; exact b_al (Below.refl _ _) (Nat.le_refl _) _
            have HR2 := Lib.hid (HR1.out.below hb2)
            have HB2 := Lib.hid (b_on HB1.out hb2)
            have HS2 := Lib.hid (show w2.heap.size = wr.heap.size + 1 by rw [hw2]; simp)
            have HT2 := Lib.hid (show Has w2 wr.heap.size 40 [.int .i64 t.addr, .int .u64 t.gen, .int .u32 t.sum, .int .u8 t.kind, .string t.pay] by rw [hw2]; exact Has.new wr _ _)
            have HX2 := Lib.hid (HX.out.below hb2 HX.out.lt)
            have y0 := HT2.out.cell 0
            have y1 := HT2.out.cell 1
            have y2 := HT2.out.cell 2
            have y3 := HT2.out.cell 3
            have y4 := HT2.out.cell 4
            simp only [List.getElem?_cons_zero, List.getElem?_cons_succ] at y0 y1 y2 y3 y4
            rw [hw2] at y0 y1 y2 y3 y4
            have HPU := Lib.hid (refput_any HR2.out (by rw [← HNL.out]; exact hl) n (by omega) hl t)
            rw [show putE n es t = t :: rmE es t.addr by rw [HNL.out]; exact put_self HME.out] at HPU
            rw [← HNL.out] at HPU
            clear hb2 HTH
            go_wp2_with fail
            rw [← hw2]
            clear hw2 y0 y1 y2 y3 y4 c0 c1 c2 c3 c4
            refine HPU.out.mono ?_
            rintro e w3 ⟨v', rfl, hr3, hb3⟩
            have hx3 := HX2.out.below hb3 HX2.out.lt
            have ht3 := HT2.out.below hb3 HT2.out.lt
            have HB3 := Lib.hid (b_on HB2.out hb3)
            have HSW := Lib.hid (show w.heap.size < w2.heap.size by have h7 := HS2.out; have h8 := HS1.out; rw [h7, h8]; omega)
            have HCS := Lib.hid (fun (wq : World) (e : Dr w3 wq) => (by rw [show wq = w3.drew from e]; exact ⟨ht3.cell 0, ht3.cell 1, ht3.cell 2, ht3.cell 3, ht3.cell 4⟩ : wq.cell? ⟨wr.heap.size, 0, none⟩ = some (.int .i64 t.addr) ∧ wq.cell? ⟨wr.heap.size, 1, none⟩ = some (.int .u64 t.gen) ∧ wq.cell? ⟨wr.heap.size, 2, none⟩ = some (.int .u32 t.sum) ∧ wq.cell? ⟨wr.heap.size, 3, none⟩ = some (.int .u8 t.kind) ∧ wq.cell? ⟨wr.heap.size, 4, none⟩ = some (.string t.pay)))
            have HCQ := Lib.hid (fun (wq : World) (e : Dr w3 wq) => (by rw [show wq = w3.drew from e]; exact hx3.drew : Has wq w.heap.size 40 [.int .i64 0, .int .u64 0, .int .u32 0, .int .u8 0, .string ⟨#[]⟩]))
            have HFI := Lib.hid (fun (wq : World) (e : Dr w3 wq) => (⟨set5 (HCQ.out wq e), by
              have h6 : RE wq w2.heap.size v' (t :: rmE es t.addr) := by rw [show wq = w3.drew from e]; exact hr3.drew
              exact ownsRow_base (owns_same h6 fun k hk => heap5 wq (by have := (h6.lt k hk).1; have := HSW.out; omega) _ _ _ _ _) (Nat.le_of_lt HSW.out), below5 (by rw [show wq = w3.drew from e]; exact HB3.out.drew) (Nat.le_refl _) _ _ _ _ _⟩ :
              Has (((((wq.setCell ⟨w.heap.size, 0, none⟩ (.int .i64 t.addr)).setCell ⟨w.heap.size, 1, none⟩ (.int .u64 t.gen)).setCell ⟨w.heap.size, 2, none⟩ (.int .u32 t.sum)).setCell ⟨w.heap.size, 3, none⟩ (.int .u8 t.kind)).setCell ⟨w.heap.size, 4, none⟩ (.string t.pay)) w.heap.size 40 [.int .i64 t.addr, .int .u64 t.gen, .int .u32 t.sum, .int .u8 t.kind, .string t.pay] ∧ RE (((((wq.setCell ⟨w.heap.size, 0, none⟩ (.int .i64 t.addr)).setCell ⟨w.heap.size, 1, none⟩ (.int .u64 t.gen)).setCell ⟨w.heap.size, 2, none⟩ (.int .u32 t.sum)).setCell ⟨w.heap.size, 3, none⟩ (.int .u8 t.kind)).setCell ⟨w.heap.size, 4, none⟩ (.string t.pay)) w.heap.size v' (t :: rmE es t.addr) ∧ Below w.heap.size w (((((wq.setCell ⟨w.heap.size, 0, none⟩ (.int .i64 t.addr)).setCell ⟨w.heap.size, 1, none⟩ (.int .u64 t.gen)).setCell ⟨w.heap.size, 2, none⟩ (.int .u32 t.sum)).setCell ⟨w.heap.size, 3, none⟩ (.int .u8 t.kind)).setCell ⟨w.heap.size, 4, none⟩ (.string t.pay))))
            clear hr3 hb3 hx3 ht3 HPU
            go_upto_region 7 with fail
            refine Reg.region_vals (by kernel_rfl) [(55, v'), (56, .agg #[.int .i64 t.addr, .int .u64 t.gen, .int .u32 t.sum, .int .u8 t.kind, .string t.pay]), (8, v'), (10, .bool true)] (fun l wy => bif l 3 then (Has wy w.heap.size 40 [.int .i64 t.addr, .int .u64 t.gen, .int .u32 t.sum, .int .u8 t.kind, .string t.pay] ∧ RE wy w.heap.size v' (t :: rmE es t.addr) ∧ Below w.heap.size w wy) else Dr w3 wy) (by kernel_rfl) (by kernel_rfl) (by kernel_rfl) (rfl) ⟨?_, ?_, ?_, ?_, ?_, trivial⟩ ?hend
            · -- 0: 55 := Op.move t13
              intro aq wq lq hI hl hdone hlater hold hd ho
              have h13 : aq.tmps.getD 13 undef = v' := ho 13 (by kernel_rfl)
              clear hd ho hdone hlater hold
              exact Reg.step2_move (.tmp 13) rfl h13 hI trivial
            · -- 1: 56 := Op.load 40 t12
              intro aq wq lq hI hl hdone hlater hold hd ho
              have h12 : aq.tmps.getD 12 undef = .pointer (some ⟨wr.heap.size, 0, none⟩) := ho 12 (by kernel_rfl)
              have gl3 : lq 3 = false := hlater 3 (by kernel_rfl)
              clear hd ho hdone hlater hold
              rw [Array.getD_eq_getD_getElem?] at h12
              have hJ := hI
              rw [gl3] at hJ
              obtain ⟨e0, e1, e2, e3, e4⟩ := HCS.out wq hJ
              refine Reg.step2_val (.agg #[.int .i64 t.addr, .int .u64 t.gen, .int .u32 t.sum, .int .u8 t.kind, .string t.pay]) ?_ rfl hI trivial
              clear hI hJ
              go_simp
            · -- 2: 8 := Op.assign t55
              intro aq wq lq hI hl hdone hlater hold hd ho
              have h55 : aq.tmps.getD 55 undef = v' := hd 55 (by kernel_rfl)
              clear hd ho hdone hlater hold
              exact Reg.step2_assign (.tmp 55) rfl h55 hI trivial
            · -- 3: None := Op.store 40 t9 t56
              intro aq wq lq hI hl hdone hlater hold hd ho
              have h9 : aq.tmps.getD 9 undef = .pointer (some ⟨w.heap.size, 0, none⟩) := ho 9 (by kernel_rfl)
              have h56 : aq.tmps.getD 56 undef = .agg #[.int .i64 t.addr, .int .u64 t.gen, .int .u32 t.sum, .int .u8 t.kind, .string t.pay] := hd 56 (by kernel_rfl)
              clear hd ho hdone hlater hold
              rw [Array.getD_eq_getD_getElem?] at h9 h56
              have hJ := hI
              rw [show lq 3 = false from hl] at hJ
              clear hI
              have hP := HCQ.out wq hJ
              have x0 := hP.cell 0
              have x1 := hP.cell 1
              have x2 := hP.cell 2
              have x3 := hP.cell 3
              have x4 := hP.cell 4
              simp only [List.getElem?_cons_zero, List.getElem?_cons_succ] at x0 x1 x2 x3 x4
              have f0 := Has.frozen hP 0
              have f1 := Has.frozen hP 1
              have f2 := Has.frozen hP 2
              have f3 := Has.frozen hP 3
              have f4 := Has.frozen hP 4
              refine Reg.step2_skip (((((wq.setCell ⟨w.heap.size, 0, none⟩ (.int .i64 t.addr)).setCell ⟨w.heap.size, 1, none⟩ (.int .u64 t.gen)).setCell ⟨w.heap.size, 2, none⟩ (.int .u32 t.sum)).setCell ⟨w.heap.size, 3, none⟩ (.int .u8 t.kind)).setCell ⟨w.heap.size, 4, none⟩ (.string t.pay)) rfl ?_ (HFI.out wq hJ) trivial
              clear hP hJ
              simp [execOp]
              go_simp
            · -- 4: 10 := Op.assign (const (Value.bool true))
              intro aq wq lq hI hl hdone hlater hold hd ho
              clear hd ho hdone hlater hold
              refine Reg.step2_val (.bool true) ?_ rfl hI trivial
              simp [execOp, Act.eval]
              try go_simp
            case hend =>
            intro wz hI
            simp only [Reg.fill, List.foldl_cons, List.foldl_nil, List.setIfInBounds_toArray, List.set_cons_zero, List.set_cons_succ]
            obtain ⟨z1, z2, z3⟩ : Has wz w.heap.size 40 [.int .i64 t.addr, .int .u64 t.gen, .int .u32 t.sum, .int .u8 t.kind, .string t.pay] ∧ RE wz w.heap.size v' (t :: rmE es t.addr) ∧ Below w.heap.size w wz := hI
            have HF := Lib.hid (RgP.yes (v := .slice (some ⟨gg, 0, none⟩) n cap) t v' HGT.out rfl rfl rfl z2 z3)
            have y0 := z1.cell 0
            have y1 := z1.cell 1
            have y2 := z1.cell 2
            have y3 := z1.cell 3
            have y4 := z1.cell 4
            simp only [List.getElem?_cons_zero, List.getElem?_cons_succ] at y0 y1 y2 y3 y4
            clear z1 z2 z3
            go_wp2
            refine bodyPost_ret (v := .tuple #[v', .agg #[.int .i64 t.addr, .int .u64 t.gen, .int .u32 t.sum, .int .u8 t.kind, .string t.pay], .bool true]) (by simp [results, Try.results13, go_sem, y0, y1, y2, y3, y4]) rfl ?_
            exact HF.out
          · have h3' : (t.sum == s) = false := by simpa using h3
            have HNX := Lib.hid (HTH.out (fun c => h3 c.2.2))
            subst h1 h2
            clear HTH HGT HME
            go_wp2_with fail
            go_roundw
            case rel => exact ⟨k + 1, by omega, by go_num, by first | rfl | trivial, HNX.out⟩
            case measure => simp [intOf]; omega
        · have h2' : (t.gen == g) = false := by simpa using h2
          have HNX := Lib.hid (HTH.out (fun c => h2 c.2.1))
          subst h1
          clear HTH HGT HME
          go_wp2_with fail
          go_roundw
          case rel => exact ⟨k + 1, by omega, by go_num, by first | rfl | trivial, HNX.out⟩
          case measure => simp [intOf]; omega
      · have h1' : (t.addr == a) = false := by simpa using h1
        have HNX := Lib.hid (HTH.out (fun c => h1 c.1))
        clear HTH HGT HME
        go_wp2_with fail
        go_roundw
        case rel => exact ⟨k + 1, by omega, by go_num, by first | rfl | trivial, HNX.out⟩
        case measure => simp [intOf]; omega
    · have hkn : ¬ (k : Int) < (n : Int) := by omega
      have HNO := Lib.hid (show ∀ t, gtE es a = some t → ¬ (t.gen = g ∧ t.sum = s) from fun t ht hc => by
        have hm : t ∈ es := List.mem_of_find?_eq_some ht
        have ha : t.addr = a := by have := List.find?_some ht; simpa using this
        obtain ⟨j, hj, e⟩ := List.getElem_of_mem hm
        exact hno j hj (by have := HNL.out; omega) (by rw [e]; exact ⟨ha, hc⟩))
      clear hno
      obtain ⟨w2, hw2⟩ : ∃ w2, w2 = wr.alloc (.cells #[.int .i64 0, .int .u64 0, .int .u32 0, .int .u8 0, .string ⟨#[]⟩] 40) := ⟨_, rfl⟩
      have hb2 : Below wr.heap.size wr w2 := by rw [hw2]; exact b_al (Below.refl _ _) (Nat.le_refl _) _
      have HB2 := Lib.hid (b_on HB1.out hb2)
      have ht3 : Has w2 wr.heap.size 40 [.int .i64 0, .int .u64 0, .int .u32 0, .int .u8 0, .string ⟨#[]⟩] := by rw [hw2]; exact Has.new wr _ _
      have hx3 := HX.out.below hb2 HX.out.lt
      have HCS := Lib.hid (fun (wq : World) (e : Dr w2 wq) => (by rw [show wq = w2.drew from e]; exact ⟨ht3.cell 0, ht3.cell 1, ht3.cell 2, ht3.cell 3, ht3.cell 4⟩ : wq.cell? ⟨wr.heap.size, 0, none⟩ = some (.int .i64 0) ∧ wq.cell? ⟨wr.heap.size, 1, none⟩ = some (.int .u64 0) ∧ wq.cell? ⟨wr.heap.size, 2, none⟩ = some (.int .u32 0) ∧ wq.cell? ⟨wr.heap.size, 3, none⟩ = some (.int .u8 0) ∧ wq.cell? ⟨wr.heap.size, 4, none⟩ = some (.string ⟨#[]⟩)))
      have HCQ := Lib.hid (fun (wq : World) (e : Dr w2 wq) => (by rw [show wq = w2.drew from e]; exact hx3.drew : Has wq w.heap.size 40 [.int .i64 0, .int .u64 0, .int .u32 0, .int .u8 0, .string ⟨#[]⟩]))
      have HFI := Lib.hid (fun (wq : World) (e : Dr w2 wq) => (⟨set5 (HCQ.out wq e), below5 (by rw [show wq = w2.drew from e]; exact HB2.out.drew) (Nat.le_refl _) _ _ _ _ _⟩ :
        Has (((((wq.setCell ⟨w.heap.size, 0, none⟩ (.int .i64 0)).setCell ⟨w.heap.size, 1, none⟩ (.int .u64 0)).setCell ⟨w.heap.size, 2, none⟩ (.int .u32 0)).setCell ⟨w.heap.size, 3, none⟩ (.int .u8 0)).setCell ⟨w.heap.size, 4, none⟩ (.string ⟨#[]⟩)) w.heap.size 40 [.int .i64 0, .int .u64 0, .int .u32 0, .int .u8 0, .string ⟨#[]⟩] ∧ Below w.heap.size w (((((wq.setCell ⟨w.heap.size, 0, none⟩ (.int .i64 0)).setCell ⟨w.heap.size, 1, none⟩ (.int .u64 0)).setCell ⟨w.heap.size, 2, none⟩ (.int .u32 0)).setCell ⟨w.heap.size, 3, none⟩ (.int .u8 0)).setCell ⟨w.heap.size, 4, none⟩ (.string ⟨#[]⟩))))
      have HSR := Lib.hid (show w2.heap.size = wr.heap.size + 1 by rw [hw2]; simp)
      clear hb2 ht3 hx3
      go_upto_region 9 with fail
      rw [← hw2]
      clear hw2
      refine Reg.region_vals (by kernel_rfl) [(58, .slice ao n cap), (59, .agg #[.int .i64 0, .int .u64 0, .int .u32 0, .int .u8 0, .string ⟨#[]⟩]), (8, .slice ao n cap), (10, .bool false)] (fun l wy => bif l 3 then (Has wy w.heap.size 40 [.int .i64 0, .int .u64 0, .int .u32 0, .int .u8 0, .string ⟨#[]⟩] ∧ Below w.heap.size w wy) else Dr w2 wy) (by kernel_rfl) (by kernel_rfl) (by kernel_rfl) (rfl) ⟨?_, ?_, ?_, ?_, ?_, trivial⟩ ?hend
      · -- 0: 58 := Op.move t0
        intro aq wq lq hI hl hdone hlater hold hd ho
        have h0 : aq.tmps.getD 0 undef = .slice ao n cap := ho 0 (by kernel_rfl)
        clear hd ho hdone hlater hold
        exact Reg.step2_move (.tmp 0) rfl h0 hI trivial
      · -- 1: 59 := Op.load 40 t14
        intro aq wq lq hI hl hdone hlater hold hd ho
        have h14 : aq.tmps.getD 14 undef = .pointer (some ⟨wr.heap.size, 0, none⟩) := ho 14 (by kernel_rfl)
        have gl3 : lq 3 = false := hlater 3 (by kernel_rfl)
        clear hd ho hdone hlater hold
        rw [Array.getD_eq_getD_getElem?] at h14
        have hJ := hI
        rw [gl3] at hJ
        obtain ⟨e0, e1, e2, e3, e4⟩ := HCS.out wq hJ
        refine Reg.step2_val (.agg #[.int .i64 0, .int .u64 0, .int .u32 0, .int .u8 0, .string ⟨#[]⟩]) ?_ rfl hI trivial
        clear hI hJ
        go_simp
      · -- 2: 8 := Op.assign t58
        intro aq wq lq hI hl hdone hlater hold hd ho
        have h58 : aq.tmps.getD 58 undef = .slice ao n cap := hd 58 (by kernel_rfl)
        clear hd ho hdone hlater hold
        exact Reg.step2_assign (.tmp 58) rfl h58 hI trivial
      · -- 3: None := Op.store 40 t9 t59
        intro aq wq lq hI hl hdone hlater hold hd ho
        have h9 : aq.tmps.getD 9 undef = .pointer (some ⟨w.heap.size, 0, none⟩) := ho 9 (by kernel_rfl)
        have h59 : aq.tmps.getD 59 undef = .agg #[.int .i64 0, .int .u64 0, .int .u32 0, .int .u8 0, .string ⟨#[]⟩] := hd 59 (by kernel_rfl)
        clear hd ho hdone hlater hold
        rw [Array.getD_eq_getD_getElem?] at h9 h59
        have hJ := hI
        rw [show lq 3 = false from hl] at hJ
        clear hI
        have hP := HCQ.out wq hJ
        have x0 := hP.cell 0
        have x1 := hP.cell 1
        have x2 := hP.cell 2
        have x3 := hP.cell 3
        have x4 := hP.cell 4
        simp only [List.getElem?_cons_zero, List.getElem?_cons_succ] at x0 x1 x2 x3 x4
        have f0 := Has.frozen hP 0
        have f1 := Has.frozen hP 1
        have f2 := Has.frozen hP 2
        have f3 := Has.frozen hP 3
        have f4 := Has.frozen hP 4
        refine Reg.step2_skip (((((wq.setCell ⟨w.heap.size, 0, none⟩ (.int .i64 0)).setCell ⟨w.heap.size, 1, none⟩ (.int .u64 0)).setCell ⟨w.heap.size, 2, none⟩ (.int .u32 0)).setCell ⟨w.heap.size, 3, none⟩ (.int .u8 0)).setCell ⟨w.heap.size, 4, none⟩ (.string ⟨#[]⟩)) rfl ?_ (HFI.out wq hJ) trivial
        clear hP hJ
        simp [execOp]
        go_simp
      · -- 4: 10 := Op.assign (const (Value.bool false))
        intro aq wq lq hI hl hdone hlater hold hd ho
        clear hd ho hdone hlater hold
        refine Reg.step2_val (.bool false) ?_ rfl hI trivial
        simp [execOp, Act.eval]
        try go_simp
      case hend =>
      intro wz hI
      simp only [Reg.fill, List.foldl_cons, List.foldl_nil, List.setIfInBounds_toArray, List.set_cons_zero, List.set_cons_succ]
      obtain ⟨z1, z3⟩ : Has wz w.heap.size 40 [.int .i64 0, .int .u64 0, .int .u32 0, .int .u8 0, .string ⟨#[]⟩] ∧ Below w.heap.size w wz := hI
      have HF := Lib.hid (RgP.no (v := .slice ao n cap) HNO.out rfl z3)
      have y0 := z1.cell 0
      have y1 := z1.cell 1
      have y2 := z1.cell 2
      have y3 := z1.cell 3
      have y4 := z1.cell 4
      simp only [List.getElem?_cons_zero, List.getElem?_cons_succ] at y0 y1 y2 y3 y4
      clear z1 z3
      go_wp2
      refine bodyPost_ret (v := .tuple #[.slice ao n cap, .agg #[.int .i64 0, .int .u64 0, .int .u32 0, .int .u8 0, .string ⟨#[]⟩], .bool false]) (by simp [results, Try.results13, go_sem, y0, y1, y2, y3, y4]) rfl ?_
      exact HF.out
end
end Go.Proofs.Ytbdiadbaapfdgaa.Ca
