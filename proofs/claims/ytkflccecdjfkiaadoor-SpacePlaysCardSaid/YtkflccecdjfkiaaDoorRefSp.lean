/- Contracts of the document's own answers for layer 10 (space). -/
import Derived.Test.YtkflccecdjfkiaaDoorSpL
import Derived.Laws.AppendOwnNone
import Derived.OwnWalk
namespace Go.Proofs.YtkflccecdjfkiaaDoor.Spc
open Go.RowKit Go.Proofs.YtkflccecdjfkiaaDoor Go.Proofs.YtkflccecdjfkiaaDoor.Bit
set_option linter.unusedVariables false

theorem ret_bool {a b : Bool} (h : a = b) : Ending.returned (.bool a) = .returned (.bool b) := by rw [h]
theorem mayP_no {n f g l : Int} (h : n < 1 ∨ 4096 < n ∨ f < 0 ∨ n ≤ f ∨ l < g) : mayP n f g l = false := by
  simp only [mayP, Bool.and_eq_false_iff, decide_eq_false_iff_not]; omega
theorem refmay_any (n f g l : Int) (w : World) : Calls Tryd.prog 8 #[.int .i64 n, .int .i64 f, .int .u64 g, .int .u64 l] w fun e w' => e = .returned (.bool (mayP n f g l)) ∧ w = w' := by
  obtain ⟨B, hB⟩ : ∃ B, B = mayP n f g l := ⟨_, rfl⟩
  rw [← hB]
  by_cases h1 : 1 ≤ n
  · by_cases h2 : n ≤ 4096
    · by_cases h3 : 0 ≤ f
      · by_cases h4 : f < n
        · by_cases h5 : g ≤ l
          · rw [mayP_of h1 h2 h3 h4 h5] at hB
            subst hB
            go_enter Tryd.func8, Tryd.ntmps8
            go_wp2
            go_ret
            exact ⟨rfl, rfl⟩
          · have h5' : l < g := by omega
            rw [mayP_no (by omega)] at hB
            subst hB
            clear h5
            go_enter Tryd.func8, Tryd.ntmps8
            go_wp2
            go_ret
            exact ⟨ret_bool (by simp; omega), rfl⟩
        · have h4' : n ≤ f := by omega
          rw [mayP_no (by omega)] at hB
          subst hB
          clear h4
          go_enter Tryd.func8, Tryd.ntmps8
          go_wp2
          go_ret
          exact ⟨rfl, rfl⟩
      · have h3' : f < 0 := by omega
        rw [mayP_no (by omega)] at hB
        subst hB
        clear h3
        go_enter Tryd.func8, Tryd.ntmps8
        go_wp2
        go_ret
        exact ⟨rfl, rfl⟩
    · have h2' : 4096 < n := by omega
      rw [mayP_no (by omega)] at hB
      subst hB
      clear h2
      go_enter Tryd.func8, Tryd.ntmps8
      go_wp2
      go_ret
      exact ⟨rfl, rfl⟩
  · have h1' : n < 1 := by omega
    rw [mayP_no (by omega)] at hB
    subst hB
    clear h1
    go_enter Tryd.func8, Tryd.ntmps8
    go_wp2
    go_ret
    exact ⟨rfl, rfl⟩

/-- the document's space at q, its rows at bu, bt, bg; xu: what lies behind the first one's length -/
structure RefAt (w : World) (q bu bt bg_ : Nat) (cu : Nat) (xu : List Value) (S : Sp) : Prop where
  main : Has w q 49 [.slice (some ⟨bu, 0, none⟩) S.used.length cu, .slice (some ⟨bt, 0, none⟩) S.used.length S.used.length, .slice (some ⟨bg_, 0, none⟩) S.used.length S.used.length, .int .i64 S.first, .int .u64 S.gen, .int .u64 S.last]
  used : Has w bu 4 (bV S.used ++ xu)
  taken : Has w bt 4 (bV S.taken)
  given : Has w bg_ 4 (bV S.given)
  cap : S.used.length ≤ cu
  ne1 : q ≠ bu ∧ q ≠ bt ∧ q ≠ bg_
  ne2 : bu ≠ bt ∧ bu ≠ bg_ ∧ bt ≠ bg_
  ok : S.Ok
section
variable {w w' : World} {q bu bt bg_ cu : Nat} {xu : List Value} {S : Sp}
theorem RefAt.on (h : RefAt w q bu bt bg_ cu xu S) (hb : Below w.heap.size w w') : RefAt w' q bu bt bg_ cu xu S :=
  ⟨h.main.below hb h.main.lt, h.used.below hb h.used.lt, h.taken.below hb h.taken.lt, h.given.below hb h.given.lt, h.cap, h.ne1, h.ne2, h.ok⟩
theorem bV_at (l : List Bool) (xu : List Value) (k : Nat) (hk : k < l.length) : (bV l ++ xu)[k]? = some (.bool (bg l k)) := by
  rw [List.getElem?_append_left (by simp [bV]; exact hk), bV_get l k hk]
theorem bV_set (l : List Bool) (xu : List Value) (k : Nat) (hk : k < l.length) (b : Bool) : (bV l ++ xu).set k (.bool b) = bV (putL l (k : Nat) b) ++ xu := by
  rw [putL_in hk, List.set_append_left _ _ (by simp [bV]; exact hk)]; simp [bV, List.map_set]
theorem RefAt.getU (h : RefAt w q bu bt bg_ cu xu S) (k : Nat) (hk : k < S.used.length) : w.cell? ⟨bu, k, none⟩ = some (.bool (bg S.used k)) := by rw [h.used.cell, bV_at _ _ _ hk]
theorem RefAt.getT (h : RefAt w q bu bt bg_ cu xu S) (k : Nat) (hk : k < S.used.length) : w.cell? ⟨bt, k, none⟩ = some (.bool (bg S.taken k)) := by
  have := bV_at S.taken [] k (by rw [h.ok.tl]; exact hk); rw [List.append_nil] at this; rw [h.taken.cell, this]
theorem RefAt.getG (h : RefAt w q bu bt bg_ cu xu S) (k : Nat) (hk : k < S.used.length) : w.cell? ⟨bg_, k, none⟩ = some (.bool (bg S.given k)) := by
  have := bV_at S.given [] k (by rw [h.ok.gl]; exact hk); rw [List.append_nil] at this; rw [h.given.cell, this]
theorem RefAt.m0 (h : RefAt w q bu bt bg_ cu xu S) : w.cell? ⟨q, 0, none⟩ = some (.slice (some ⟨bu, 0, none⟩) S.used.length cu) := h.main.cell 0
theorem RefAt.m1 (h : RefAt w q bu bt bg_ cu xu S) : w.cell? ⟨q, 1, none⟩ = some (.slice (some ⟨bt, 0, none⟩) S.used.length S.used.length) := h.main.cell 1
theorem RefAt.m2 (h : RefAt w q bu bt bg_ cu xu S) : w.cell? ⟨q, 2, none⟩ = some (.slice (some ⟨bg_, 0, none⟩) S.used.length S.used.length) := h.main.cell 2
theorem RefAt.m3 (h : RefAt w q bu bt bg_ cu xu S) : w.cell? ⟨q, 3, none⟩ = some (.int .i64 S.first) := h.main.cell 3
theorem RefAt.m4 (h : RefAt w q bu bt bg_ cu xu S) : w.cell? ⟨q, 4, none⟩ = some (.int .u64 S.gen) := h.main.cell 4
theorem RefAt.m5 (h : RefAt w q bu bt bg_ cu xu S) : w.cell? ⟨q, 5, none⟩ = some (.int .u64 S.last) := h.main.cell 5
/-- a cell of one of the rows is written -/
theorem RefAt.putU (h : RefAt w q bu bt bg_ cu xu S) (k : Nat) (hk : k < S.used.length) (b : Bool) : RefAt (w.setCell ⟨bu, k, none⟩ (.bool b)) q bu bt bg_ cu xu { S with used := putL S.used (k : Nat) b } := by
  have hl : (putL S.used (k : Nat) b).length = S.used.length := putL_length _ _ _
  refine ⟨?_, ?_, h.taken.setOther h.ne2.1 _, h.given.setOther h.ne2.2.1 _, by show List.length (putL _ _ _) ≤ _; rw [hl]; exact h.cap, h.ne1, h.ne2, ⟨by show 1 ≤ List.length (putL _ _ _); rw [hl]; exact h.ok.n1, by show List.length (putL _ _ _) ≤ _; rw [hl]; exact h.ok.n2, by show _ = List.length (putL _ _ _); rw [hl]; exact h.ok.tl, by show _ = List.length (putL _ _ _); rw [hl]; exact h.ok.gl, by show _ < List.length (putL _ _ _); rw [hl]; exact h.ok.fl, h.ok.g0, h.ok.le, h.ok.lb⟩⟩
  · show Has _ q _ [.slice (some ⟨bu, 0, none⟩) (putL S.used (k : Nat) b).length cu, .slice (some ⟨bt, 0, none⟩) (putL S.used (k : Nat) b).length (putL S.used (k : Nat) b).length, .slice (some ⟨bg_, 0, none⟩) (putL S.used (k : Nat) b).length (putL S.used (k : Nat) b).length, .int .i64 S.first, .int .u64 S.gen, .int .u64 S.last]
    rw [hl]; exact h.main.setOther (fun e => h.ne1.1 e.symm) _
  · have := h.used.set k (.bool b)
    rw [bV_set _ _ _ hk] at this; exact this
theorem RefAt.putT (h : RefAt w q bu bt bg_ cu xu S) (k : Nat) (hk : k < S.used.length) (b : Bool) : RefAt (w.setCell ⟨bt, k, none⟩ (.bool b)) q bu bt bg_ cu xu { S with taken := putL S.taken (k : Nat) b } := by
  refine ⟨h.main.setOther (fun e => h.ne1.2.1 e.symm) _, h.used.setOther (fun e => h.ne2.1 e.symm) _, ?_, h.given.setOther h.ne2.2.2 _, h.cap, h.ne1, h.ne2, ⟨h.ok.n1, h.ok.n2, by show List.length (putL _ _ _) = _; rw [putL_length]; exact h.ok.tl, h.ok.gl, h.ok.fl, h.ok.g0, h.ok.le, h.ok.lb⟩⟩
  have := h.taken.set k (.bool b)
  have e := bV_set S.taken [] k (by rw [h.ok.tl]; exact hk) b
  rw [List.append_nil, List.append_nil] at e
  rw [e] at this; exact this
theorem RefAt.putG (h : RefAt w q bu bt bg_ cu xu S) (k : Nat) (hk : k < S.used.length) (b : Bool) : RefAt (w.setCell ⟨bg_, k, none⟩ (.bool b)) q bu bt bg_ cu xu { S with given := putL S.given (k : Nat) b } := by
  refine ⟨h.main.setOther (fun e => h.ne1.2.2 e.symm) _, h.used.setOther (fun e => h.ne2.2.1 e.symm) _, h.taken.setOther (fun e => h.ne2.2.2 e.symm) _, ?_, h.cap, h.ne1, h.ne2, ⟨h.ok.n1, h.ok.n2, h.ok.tl, by show List.length (putL _ _ _) = _; rw [putL_length]; exact h.ok.gl, h.ok.fl, h.ok.g0, h.ok.le, h.ok.lb⟩⟩
  have := h.given.set k (.bool b)
  have e := bV_set S.given [] k (by rw [h.ok.gl]; exact hk) b
  rw [List.append_nil, List.append_nil] at e
  rw [e] at this; exact this
end
/-- how a call of the document's leaves its space and the world -/
def RKept (w : World) (q bu bt bg_ : Nat) (S' : Sp) (w' : World) : Prop := ∃ bt' bg' cu xu, RefAt w' q bu bt' bg' cu xu S' ∧ (bt' = bt ∨ w.heap.size ≤ bt') ∧ (bg' = bg_ ∨ w.heap.size ≤ bg') ∧ Chg (fun k => k = q ∨ k = bu ∨ k = bt ∨ k = bg_) w w'
theorem out_eq (S : Sp) (k : Int) : outB S k = (decide (k < S.first) || decide ((S.used.length : Int) ≤ k)) := rfl
theorem out_no {S : Sp} {k : Int} (h : outB S k = false) : ∃ K : Nat, k = K ∧ K < S.used.length := by
  simp only [outB, Bool.or_eq_false_iff, decide_eq_false_iff_not] at h
  exact ⟨k.toNat, by omega, by omega⟩
section
variable {q bu bt bg_ cu : Nat} {xu : List Value} {S : Sp}
set_option maxRecDepth 100000 in
theorem refout_any (k : Int) (w : World) (h : RefAt w q bu bt bg_ cu xu S) : Calls Tryd.prog 33 #[.pointer (some ⟨q, 0, none⟩), .int .i64 k] w fun e w' => e = .returned (.bool (outB S k)) ∧ w = w' := by
  have e0 := h.m0
  have e3 := h.m3
  have hn := h.ok.n2
  by_cases h1 : k < S.first
  · have HB := Lib.hid (show outB S k = true by simp [outB, h1])
    clear h
    go_enter Tryd.func33, Tryd.ntmps33
    go_wp2
    go_ret
    exact ⟨ret_bool HB.out.symm, rfl⟩
  · have h1' : (S.first : Int) ≤ k := by omega
    have HB := Lib.hid (show outB S k = decide ((S.used.length : Int) ≤ k) by rw [outB, decide_eq_false h1]; rfl)
    have HNF := Lib.hid h1
    clear h h1
    go_enter Tryd.func33, Tryd.ntmps33
    go_wp2
    go_ret
    exact ⟨ret_bool (by rw [HB.out]; first | rfl | (rw [decide_eq_false (by have := HNF.out; omega)]; rfl)), rfl⟩
theorem chg_u (w : World) (q bu bt bg_ k : Nat) (v : Value) : Chg (fun j => j = q ∨ j = bu ∨ j = bt ∨ j = bg_) w (w.setCell ⟨bu, k, none⟩ v) := (Chg.refl _ w).setCell (fun _ => .inr (.inl rfl)) v
theorem chg_t (w : World) (q bu bt bg_ k : Nat) (v : Value) : Chg (fun j => j = q ∨ j = bu ∨ j = bt ∨ j = bg_) w (w.setCell ⟨bt, k, none⟩ v) := (Chg.refl _ w).setCell (fun _ => .inr (.inr (.inl rfl))) v
theorem chg_g (w : World) (q bu bt bg_ k : Nat) (v : Value) : Chg (fun j => j = q ∨ j = bu ∨ j = bt ∨ j = bg_) w (w.setCell ⟨bg_, k, none⟩ v) := (Chg.refl _ w).setCell (fun _ => .inr (.inr (.inr rfl))) v
theorem RKept.drew {w : World} (h : RefAt w q bu bt bg_ cu xu S) (n : Nat) : RKept w q bu bt bg_ S (w.drewN n) := ⟨bt, bg_, cu, xu, ⟨h.main, h.used, h.taken, h.given, h.cap, h.ne1, h.ne2, h.ok⟩, .inl rfl, .inl rfl, (Chg.refl _ _).drewN _⟩
theorem RKept.same {w : World} (h : RefAt w q bu bt bg_ cu xu S) : RKept w q bu bt bg_ S w := ⟨bt, bg_, cu, xu, h, .inl rfl, .inl rfl, Chg.refl _ _⟩
set_option maxRecDepth 100000 in
theorem refuse_any (k : Int) (w : World) (h : RefAt w q bu bt bg_ cu xu S) : Calls Tryd.prog 16 #[.pointer (some ⟨q, 0, none⟩), .int .i64 k] w fun e w' => e = .returned (.int .i64 (useE S k)) ∧ RKept w q bu bt bg_ (S.use k) w' := by
  have HH := Lib.hid h
  cases ho : outB S k with
  | true =>
    have hE : useE S k = 3 := by rw [useE, if_pos ho]
    have hS : S.use k = S := by rw [Sp.use, if_neg (by rw [hE]; decide)]
    rw [hE, hS]
    have HO := Lib.hid ho
    clear h ho hE hS
    go_enter Tryd.func16, Tryd.ntmps16
    go_wp2_with fail
    refine (refout_any k _ HH.out).mono ?_
    rintro e w1 ⟨rfl, rfl⟩
    rw [HO.out]
    go_wp2_with fail
    go_ret
    exact ⟨rfl, RKept.same HH.out⟩
  | false =>
    obtain ⟨K, rfl, hK⟩ := out_no ho
    have e0 := h.m0
    have eu := h.getU K hK
    have fu := h.used.frozen K
    have hn := h.ok.n2
    have HO := Lib.hid ho
    have hh : hasL S.used (K : Int) = bg S.used K := hasL_in hK
    have hKl : (K : Int) < (S.used.length : Int) := by omega
    cases hu : bg S.used K with
    | true =>
      have hE : useE S (K : Int) = 19 := by rw [useE, if_neg (by rw [ho]; decide), if_pos (by rw [hh]; exact hu)]
      have hS : S.use (K : Int) = S := by rw [Sp.use, if_neg (by rw [hE]; decide)]
      rw [hE, hS]
      rw [hu] at eu
      clear h ho hE hS hh hu
      go_enter Tryd.func16, Tryd.ntmps16
      go_wp2_with fail
      refine (refout_any _ _ HH.out).mono ?_
      rintro e w1 ⟨rfl, rfl⟩
      rw [HO.out]
      go_wp2_with fail
      go_ret
      exact ⟨rfl, RKept.same HH.out⟩
    | false =>
      have hE : useE S (K : Int) = 0 := by rw [useE, if_neg (by rw [ho]; decide), if_neg (by rw [hh, hu]; decide)]
      have hS : S.use (K : Int) = { S with used := putL S.used (K : Nat) true } := by rw [Sp.use, if_pos hE]
      rw [hE, hS]
      rw [hu] at eu
      clear h ho hE hS hh hu
      go_enter Tryd.func16, Tryd.ntmps16
      go_wp2_with fail
      refine (refout_any _ _ HH.out).mono ?_
      rintro e w1 ⟨rfl, rfl⟩
      rw [HO.out]
      go_wp2_with fail
      go_ret
      exact ⟨rfl, bt, bg_, cu, xu, HH.out.putU K hK true, .inl rfl, .inl rfl, chg_u _ _ _ _ _ _ _⟩
set_option maxRecDepth 100000 in
theorem refgive_any (k : Int) (w : World) (h : RefAt w q bu bt bg_ cu xu S) : Calls Tryd.prog 14 #[.pointer (some ⟨q, 0, none⟩), .int .i64 k] w fun e w' => e = .returned (.int .i64 (giveE S k)) ∧ RKept w q bu bt bg_ (S.give k) w' := by
  have HH := Lib.hid h
  cases ho : outB S k with
  | true =>
    have hE : giveE S k = 3 := by rw [giveE, if_pos ho]
    have hS : S.give k = S := by rw [Sp.give, if_neg (by rw [hE]; decide)]
    rw [hE, hS]
    have HO := Lib.hid ho
    clear h ho hE hS
    go_enter Tryd.func14, Tryd.ntmps14
    go_wp2_with fail
    refine (refout_any k _ HH.out).mono ?_
    rintro e w1 ⟨rfl, rfl⟩
    rw [HO.out]
    go_wp2_with fail
    go_ret
    exact ⟨rfl, RKept.same HH.out⟩
  | false =>
    obtain ⟨K, rfl, hK⟩ := out_no ho
    have e0 := h.m0
    have e2 := h.m2
    have eu := h.getU K hK
    have eg := h.getG K hK
    have fg := h.given.frozen K
    have hn := h.ok.n2
    have HO := Lib.hid ho
    have hh : hasL S.used (K : Int) = bg S.used K := hasL_in hK
    have hh2 : hasL S.given (K : Int) = bg S.given K := hasL_in (by rw [h.ok.gl]; exact hK)
    have hKl : (K : Int) < (S.used.length : Int) := by omega
    cases hu : bg S.used K with
    | false =>
      have hE : giveE S (K : Int) = 15 := by rw [giveE, if_neg (by rw [ho]; decide), if_pos (by rw [hh]; exact hu)]
      have hS : S.give (K : Int) = S := by rw [Sp.give, if_neg (by rw [hE]; decide)]
      rw [hE, hS]
      rw [hu] at eu
      clear h ho hE hS hh hh2 hu
      go_enter Tryd.func14, Tryd.ntmps14
      go_wp2_with fail
      refine (refout_any _ _ HH.out).mono ?_
      rintro e w1 ⟨rfl, rfl⟩
      rw [HO.out]
      go_wp2_with fail
      go_ret
      exact ⟨rfl, RKept.same HH.out⟩
    | true =>
      cases hg : bg S.given K with
      | true =>
        have hE : giveE S (K : Int) = 19 := by rw [giveE, if_neg (by rw [ho]; decide), if_neg (by rw [hh, hu]; decide), if_pos (by rw [hh2]; exact hg)]
        have hS : S.give (K : Int) = S := by rw [Sp.give, if_neg (by rw [hE]; decide)]
        rw [hE, hS]
        rw [hu] at eu
        rw [hg] at eg
        clear h ho hE hS hh hh2 hu hg
        go_enter Tryd.func14, Tryd.ntmps14
        go_wp2_with fail
        refine (refout_any _ _ HH.out).mono ?_
        rintro e w1 ⟨rfl, rfl⟩
        rw [HO.out]
        go_wp2_with fail
        go_ret
        exact ⟨rfl, RKept.same HH.out⟩
      | false =>
        have hE : giveE S (K : Int) = 0 := by rw [giveE, if_neg (by rw [ho]; decide), if_neg (by rw [hh, hu]; decide), if_neg (by rw [hh2, hg]; decide)]
        have hS : S.give (K : Int) = { S with given := putL S.given (K : Nat) true } := by rw [Sp.give, if_pos hE]
        rw [hE, hS]
        rw [hu] at eu
        rw [hg] at eg
        clear h ho hE hS hh hh2 hu hg
        go_enter Tryd.func14, Tryd.ntmps14
        go_wp2_with fail
        refine (refout_any _ _ HH.out).mono ?_
        rintro e w1 ⟨rfl, rfl⟩
        rw [HO.out]
        go_wp2_with fail
        go_ret
        exact ⟨rfl, bt, bg_, cu, xu, HH.out.putG K hK true, .inl rfl, .inl rfl, chg_g _ _ _ _ _ _ _⟩
set_option maxRecDepth 100000 in
theorem reftake_any (w : World) (h : RefAt w q bu bt bg_ cu xu S) : Calls Tryd.prog 12 #[.pointer (some ⟨q, 0, none⟩)] w fun e w' => e = .returned (.tuple #[.int .i64 (takeN S), .int .i64 (takeE S)]) ∧ RKept w q bu bt bg_ S.take w' := by
  have HH := Lib.hid h
  have e0 := h.m0
  have e1 := h.m1
  have hn := h.ok.n2
  clear h
  go_enter Tryd.func12, Tryd.ntmps12
  go_wp2_with fail
  go_loop [4] (fun i => ∃ c : Nat, c ≤ S.used.length ∧ i = .int .i64 c ∧ ∀ j : Nat, j < c → bg S.used j ≠ false) (fun i => S.used.length - (intOf i).toNat)
  case atStart => exact ⟨0, Nat.zero_le _, rfl, fun j hj => by omega⟩
  case round =>
    obtain ⟨c, hc, rfl, hno⟩ := hrel
    have HNO := Lib.hid hno
    clear hno
    by_cases hlt : c < S.used.length
    · have hltI : (c : Int) < (S.used.length : Int) := by omega
      have eu := HH.out.getU c hlt
      cases hu : bg S.used c with
      | true =>
        rw [hu] at eu
        have HU := Lib.hid hu
        clear hu
        go_wp2_with fail
        go_round
        case rel => exact ⟨c + 1, by omega, by go_num, fun j hj => by
          by_cases e : j < c
          · exact HNO.out j e
          · obtain rfl : j = c := by omega
            rw [HU.out]; decide⟩
        case measure => simp [intOf]; omega
      | false =>
        rw [hu] at eu
        have hO : takeO S = some c := next_some hlt (by omega) hu (fun j hj _ => HNO.out j hj)
        have hN : takeN S = c := by rw [takeN, hO]; rfl
        have hE : takeE S = 0 := by rw [takeE, hO]; rfl
        have hS : S.take = { S with used := putL S.used (c : Nat) true, taken := putL S.taken (c : Nat) true } := by rw [Sp.take, hO]
        have h1 := HH.out.putU c hlt true
        have HR := Lib.hid (h1.putT c (by show c < List.length (putL _ _ _); rw [putL_length]; exact hlt) true)
        have et := HH.out.getT c hlt
        have fu := HH.out.used.frozen c
        have ft := HH.out.taken.frozen c
        have hne := HH.out.ne2.1
        have hq1 : q ≠ bu := HH.out.ne1.1
        have HX := Lib.hid (And.intro hN (And.intro hE hS))
        clear hO hN hE hS h1 hu
        go_wp2_with fail
        go_ret2
        rw [HX.out.1, HX.out.2.1, HX.out.2.2]
        exact ⟨rfl, bt, bg_, cu, xu, HR.out, .inl rfl, .inl rfl, (chg_u _ _ _ _ _ _ _).trans (chg_t _ _ _ _ _ _ _) (fun _ _ h => h)⟩
    · have hO : takeO S = none := next_none (fun j hj _ => HNO.out j (by omega))
      have hN : takeN S = 0 := by rw [takeN, hO]; rfl
      have hE : takeE S = 11 := by rw [takeE, hO]; rfl
      have hS : S.take = S := by rw [Sp.take, hO]
      have HX := Lib.hid (And.intro hN (And.intro hE hS))
      clear hO hN hE hS
      go_wp2_with fail
      go_ret2
      rw [HX.out.1, HX.out.2.1, HX.out.2.2]
      exact ⟨rfl, RKept.same HH.out⟩
set_option maxRecDepth 100000 in
theorem refstep_any (w : World) (h : RefAt w q bu bt bg_ cu xu S) : Calls Tryd.prog 22 #[.pointer (some ⟨q, 0, none⟩)] w fun e w' => e = .returned (.tuple #[.int .u64 (stepN S), .int .i64 (stepE S)]) ∧ RKept w q bu bt bg_ S.step w' := by
  have HH := Lib.hid h
  have e4 := h.m4
  have e5 := h.m5
  have f4 := h.main.frozen 4
  by_cases hlt : S.gen < S.last
  · obtain ⟨y1, y2, y3⟩ := step_yes hlt
    rw [y1, y2, y3]
    have hw : IntKind.u64.wrap (S.gen + 1) = S.gen + 1 := by
      have := h.ok.lb; have := h.ok.g0
      rw [show IntKind.u64.wrap (S.gen + 1) = (S.gen + 1) % 18446744073709551616 by simp [IntKind.wrap, IntKind.bits, IntKind.signed]]
      omega
    have HM := Lib.hid (fun m : Nat => show RefAt ((w.drewN m).setCell ⟨q, 4, none⟩ (.int .u64 (S.gen + 1))) q bu bt bg_ cu xu { S with gen := S.gen + 1 } from
      ⟨h.main.set 4 _, h.used.setOther (fun e => h.ne1.1 e) _, h.taken.setOther (fun e => h.ne1.2.1 e) _, h.given.setOther (fun e => h.ne1.2.2 e) _, h.cap, h.ne1, h.ne2, ⟨h.ok.n1, h.ok.n2, h.ok.tl, h.ok.gl, h.ok.fl, by show 0 ≤ S.gen + 1; have := h.ok.g0; omega, by show S.gen + 1 ≤ S.last; omega, h.ok.lb⟩⟩)
    clear h y1 y2 y3
    go_enter Tryd.func22, Tryd.ntmps22
    go_upto_region 1 with fail
    go_quiet (fail)
    go_wp2_with fail
    go_ret2
    exact ⟨rfl, bt, bg_, cu, xu, HM.out _, .inl rfl, .inl rfl, ((Chg.refl _ w).drewN _).setCell (fun _ => .inl rfl) _⟩
  · obtain ⟨y1, y2, y3⟩ := step_no hlt
    rw [y1, y2, y3]
    have hle : S.last ≤ S.gen := by omega
    clear h y1 y2 y3 hlt
    go_enter Tryd.func22, Tryd.ntmps22
    go_upto_region 1 with fail
    go_quiet (fail)
    go_wp2_with fail
    go_ret2
    exact ⟨rfl, RKept.drew HH.out _⟩
end
theorem info_bool10 : (Tryd.prog.info? 4).map (fun i => (i.zero, i.size, i.bytes)) = some (some (.bool false), 1, 1) := by kernel_rfl
theorem run_make_bools (n : Nat) (hn : n ≤ 4096) (w : World) : (Instr.makeSlice 47 (.int .i64 (n : Int)) (.int .i64 (n : Int))).run Tryd.prog w = .ok (.slice (some ⟨w.heap.size, 0, none⟩) n n) (w.alloc (.cells (bV (noneL n)).toArray 4)) := by
  obtain ⟨i0, hi, hz0, hz1, hz2⟩ := info_parts info_bool10
  have h := run_make (P := Tryd.prog) w 47 4 i0 _ Tryd.underlying47 hi hz0 .i64 .i64 n n (by omega) (Int.le_refl _) (by rw [hz2]; omega) (by omega)
  rw [hz1] at h
  simp only [Int.toNat_natCast, Nat.mul_one] at h
  have e2 : madeCells #[Value.bool false] n = (bV (noneL n)).toArray := by rw [← Array.toList_inj, toList_madeCells_one]; simp [bV, noneL]
  rw [show (Value.bool false).cells = #[Value.bool false] from rfl, e2] at h
  exact h
/-- a space of the document's whose two rows aren't there yet -/
structure Half (w : World) (q bu : Nat) (s1 s2 : Value) (cu : Nat) (xu : List Value) (S : Sp) : Prop where
  main : Has w q 49 [.slice (some ⟨bu, 0, none⟩) S.used.length cu, s1, s2, .int .i64 S.first, .int .u64 S.gen, .int .u64 S.last]
  used : Has w bu 4 (bV S.used ++ xu)
  cap : S.used.length ≤ cu
  ne : q ≠ bu
  ok : S.begun.Ok
theorem RefAt.half {w : World} {q bu bt bg_ cu : Nat} {xu : List Value} {S : Sp} (h : RefAt w q bu bt bg_ cu xu S) : Half w q bu (.slice (some ⟨bt, 0, none⟩) S.used.length S.used.length) (.slice (some ⟨bg_, 0, none⟩) S.used.length S.used.length) cu xu S :=
  ⟨h.main, h.used, h.cap, h.ne1.1, ⟨h.ok.n1, h.ok.n2, by simp [Sp.begun, noneL], by simp [Sp.begun, noneL], h.ok.fl, h.ok.g0, h.ok.le, h.ok.lb⟩⟩
section
variable {q bu cu : Nat} {s1 s2 : Value} {xu : List Value} {S : Sp}
set_option maxRecDepth 100000 in
theorem refbegin_any (w : World) (h : Half w q bu s1 s2 cu xu S) : Calls Tryd.prog 29 #[.pointer (some ⟨q, 0, none⟩)] w fun e w' => e = .returned (.tuple #[]) ∧ ∃ bt bg_, RefAt w' q bu bt bg_ cu xu S.begun ∧ w.heap.size ≤ bt ∧ w.heap.size ≤ bg_ ∧ Chg (fun k => k = q) w w' := by
  obtain ⟨n, hn⟩ : ∃ n, n = S.used.length := ⟨_, rfl⟩
  obtain ⟨Z, hZ⟩ : ∃ Z, Z = (bV (noneL n)).toArray := ⟨_, rfl⟩
  have hn4 : n ≤ 4096 := by rw [hn]; exact h.ok.n2
  have hq := h.main.lt
  have hu := h.used.lt
  have m0 : w.cell? ⟨q, 0, none⟩ = some (.slice (some ⟨bu, 0, none⟩) n cu) := by rw [hn]; exact h.main.cell 0
  have f1 := h.main.frozen 1
  have f2 := h.main.frozen 2
  have m1 : w.cell? ⟨q, 1, none⟩ = some s1 := h.main.cell 1
  have m2 : w.cell? ⟨q, 2, none⟩ = some s2 := h.main.cell 2
  have hmk1 := run_make_bools n hn4 w
  have hmk2 := run_make_bools n hn4 ((w.setCell ⟨q, 1, none⟩ (.slice (some ⟨w.heap.size, 0, none⟩) n n)).alloc (.cells Z 4))
  rw [← hZ] at hmk1 hmk2
  rw [World.size_alloc, World.size_setCell] at hmk2
  have HR := Lib.hid (show RefAt ((((w.setCell ⟨q, 1, none⟩ (.slice (some ⟨w.heap.size, 0, none⟩) n n)).setCell ⟨q, 2, none⟩ (.slice (some ⟨w.heap.size + 1, 0, none⟩) n n)).alloc (.cells Z 4)).alloc (.cells Z 4)) q bu w.heap.size (w.heap.size + 1) cu xu S.begun by
    have hne : q ≠ w.heap.size := by omega
    have hne2 : q ≠ w.heap.size + 1 := by omega
    subst hn hZ
    refine ⟨((h.main.set 1 _).set 2 _).alloc _ |>.alloc _, ((h.used.setOther h.ne _).setOther h.ne _).alloc _ |>.alloc _, Has.alloc ?_ _, ?_, h.cap, ⟨h.ne, hne, hne2⟩, ⟨by omega, by omega, by omega⟩, h.ok⟩
    · have := Has.new ((w.setCell ⟨q, 1, none⟩ (.slice (some ⟨w.heap.size, 0, none⟩) S.used.length S.used.length)).setCell ⟨q, 2, none⟩ (.slice (some ⟨w.heap.size + 1, 0, none⟩) S.used.length S.used.length)) (bV (noneL S.used.length)) 4
      rw [World.size_setCell, World.size_setCell] at this
      exact this
    · have := Has.new (((w.setCell ⟨q, 1, none⟩ (.slice (some ⟨w.heap.size, 0, none⟩) S.used.length S.used.length)).setCell ⟨q, 2, none⟩ (.slice (some ⟨w.heap.size + 1, 0, none⟩) S.used.length S.used.length)).alloc (.cells (bV (noneL S.used.length)).toArray 4)) (bV (noneL S.used.length)) 4
      rw [World.size_alloc, World.size_setCell, World.size_setCell] at this
      exact this)
  clear h hn hZ hu
  go_enter Tryd.func29, Tryd.ntmps29
  go_wp2_with fail
  go_end0
  exact ⟨rfl, _, _, HR.out, Nat.le_refl _, Nat.le_succ _, Chg.alloc (Chg.alloc (Chg.setCell (p := ⟨q, 2, none⟩) (Chg.setCell (p := ⟨q, 1, none⟩) (Chg.refl (fun k => k = q) w) (fun _ => rfl) _) (fun _ => rfl) _) _) _⟩
/-- of l, without those of m that are below k -/
def minusK (l m : List Bool) (k : Nat) : List Bool := (List.range l.length).map fun i => bg l i && !(decide (i < k) && bg m i)
theorem minusK_length (l m : List Bool) (k : Nat) : (minusK l m k).length = l.length := by simp [minusK]
theorem minusK_get (l m : List Bool) (k i : Nat) (hi : i < l.length) : bg (minusK l m k) i = (bg l i && !(decide (i < k) && bg m i)) := by
  have e : bg (minusK l m k) i = ((minusK l m k)[i]?).getD false := by rw [bg, List.getD_eq_getElem?_getD]
  rw [e]; simp [minusK, List.getElem?_map, List.getElem?_range hi]
theorem minusK_zero (l m : List Bool) : minusK l m 0 = l := ext_bg (minusK_length _ _ _) fun i hi => by
  rw [minusK_length] at hi
  rw [minusK_get _ _ _ _ hi]; simp
theorem minusK_all (l m : List Bool) : minusK l m l.length = minusL l m := by
  unfold minusK minusL
  refine List.map_congr_left fun i hi => ?_
  have : i < l.length := by simpa using hi
  simp [this]
theorem minusK_yes (l m : List Bool) (k : Nat) (hk : k < l.length) (h : bg m k = true) : minusK l m (k + 1) = putL (minusK l m k) (k : Nat) false := ext_bg (by rw [minusK_length, putL_length, minusK_length]) fun i hi => by
  rw [minusK_length] at hi
  rw [minusK_get _ _ _ _ hi, putL_get _ _ _ _ (by rw [minusK_length]; exact hi), minusK_get _ _ _ _ hi]
  by_cases e : i = k
  · subst e; simp [h]
  · rw [if_neg (by omega)]
    have : decide (i < k + 1) = decide (i < k) := by rw [decide_eq_decide]; omega
    rw [this]
theorem minusK_no (l m : List Bool) (k : Nat) (hk : k < l.length) (h : bg m k = false) : minusK l m (k + 1) = minusK l m k := ext_bg (by rw [minusK_length, minusK_length]) fun i hi => by
  rw [minusK_length] at hi
  rw [minusK_get _ _ _ _ hi, minusK_get _ _ _ _ hi]
  by_cases e : i = k
  · subst e; simp [h]
  · have : decide (i < k + 1) = decide (i < k) := by rw [decide_eq_decide]; omega
    rw [this]
theorem RefAt.cast {w : World} {q bu bt bg_ cu : Nat} {xu : List Value} {S T : Sp} (h : RefAt w q bu bt bg_ cu xu S) (e : S = T) : RefAt w q bu bt bg_ cu xu T := e ▸ h
end
section
variable {q bu bt bg_ cu : Nat} {xu : List Value} {S : Sp}
set_option maxRecDepth 100000 in
theorem refsettle_any (w : World) (h : RefAt w q bu bt bg_ cu xu S) : Calls Tryd.prog 18 #[.pointer (some ⟨q, 0, none⟩)] w fun e w' => e = .returned (.tuple #[]) ∧ RKept w q bu bt bg_ S.settle w' := by
  have HH := Lib.hid h
  obtain ⟨n, hn⟩ : ∃ n, n = S.used.length := ⟨_, rfl⟩
  have hn4 : n ≤ 4096 := by rw [hn]; exact h.ok.n2
  have HN := Lib.hid hn
  clear h hn
  go_enter Tryd.func18, Tryd.ntmps18
  go_wp2_with fail
  go_loopw [2] (fun i wr => ∃ k : Nat, k ≤ n ∧ i = .int .i64 k ∧ RefAt wr q bu bt bg_ cu xu { S with used := minusK S.used S.given k } ∧ Chg (fun j => j = q ∨ j = bu ∨ j = bt ∨ j = bg_) w wr) (fun i _ => n - (intOf i).toNat)
  case atStart => exact ⟨0, Nat.zero_le _, rfl, HH.out.cast (by rw [minusK_zero]), Chg.refl _ _⟩
  case round =>
    obtain ⟨k, hk, rfl, hr, hc⟩ := hrel
    have HR := Lib.hid hr
    have HC := Lib.hid hc
    have hlen : (minusK S.used S.given k).length = n := by rw [minusK_length, HN.out]
    have m0 : wr.cell? ⟨q, 0, none⟩ = some (.slice (some ⟨bu, 0, none⟩) n cu) := by have := hr.m0; rw [hlen] at this; exact this
    have m1 : wr.cell? ⟨q, 2, none⟩ = some (.slice (some ⟨bg_, 0, none⟩) n n) := by have := hr.m2; rw [hlen] at this; exact this
    by_cases hlt : k < n
    · have hlI : (k : Int) < (n : Int) := by omega
      have hg := hr.getG k (by rw [hlen]; exact hlt)
      have hu := hr.getU k (by rw [hlen]; exact hlt)
      have fu := hr.used.frozen k
      have hput := hr.putU k (by rw [hlen]; exact hlt) false
      clear hr hc hlen HH
      cases hb : bg S.given k with
      | true =>
        rw [show bg ({ S with used := minusK S.used S.given k } : Sp).given k = true from hb] at hg
        have HP := Lib.hid (hput.cast (T := { S with used := minusK S.used S.given (k + 1) }) (by rw [minusK_yes _ _ _ (by rw [← HN.out]; exact hlt) hb]))
        clear hput hb
        go_wp2_with fail
        go_roundw
        case rel => exact ⟨k + 1, by omega, by go_num, HP.out, HC.out.setCell (fun _ => .inr (.inl rfl)) _⟩
        case measure => simp [intOf]; omega
      | false =>
        rw [show bg ({ S with used := minusK S.used S.given k } : Sp).given k = false from hb] at hg
        have HP := Lib.hid (HR.out.cast (T := { S with used := minusK S.used S.given (k + 1) }) (by rw [minusK_no _ _ _ (by rw [← HN.out]; exact hlt) hb]))
        clear hput hb
        go_wp2_with fail
        go_roundw
        case rel => exact ⟨k + 1, by omega, by go_num, HP.out, HC.out⟩
        case measure => simp [intOf]; omega
    · obtain rfl : k = n := by omega
      have HE := Lib.hid (hr.cast (T := { S with used := minusL S.used S.given }) (by rw [HN.out, minusK_all]))
      clear hr hc hlen HH
      go_wp2_with fail
      refine (refbegin_any _ HE.out.half).mono ?_
      rintro e w2 ⟨rfl, bt2, bg2, h2, l1, l2, hc2⟩
      have HF := Lib.hid (show RKept w q bu bt bg_ S.settle w2 from ⟨bt2, bg2, cu, xu, h2, .inr (Nat.le_trans HC.out.size l1), .inr (Nat.le_trans HC.out.size l2), HC.out.trans hc2 (fun _ _ e => .inl e)⟩)
      clear h2 l1 l2 hc2
      go_wp2_with fail
      go_end0
      exact ⟨rfl, HF.out⟩
set_option maxRecDepth 100000 in
theorem refundo_any (w : World) (h : RefAt w q bu bt bg_ cu xu S) : Calls Tryd.prog 20 #[.pointer (some ⟨q, 0, none⟩)] w fun e w' => e = .returned (.tuple #[]) ∧ RKept w q bu bt bg_ S.undo w' := by
  have HH := Lib.hid h
  obtain ⟨n, hn⟩ : ∃ n, n = S.used.length := ⟨_, rfl⟩
  have hn4 : n ≤ 4096 := by rw [hn]; exact h.ok.n2
  have HN := Lib.hid hn
  clear h hn
  go_enter Tryd.func20, Tryd.ntmps20
  go_wp2_with fail
  go_loopw [2] (fun i wr => ∃ k : Nat, k ≤ n ∧ i = .int .i64 k ∧ RefAt wr q bu bt bg_ cu xu { S with used := minusK S.used S.taken k } ∧ Chg (fun j => j = q ∨ j = bu ∨ j = bt ∨ j = bg_) w wr) (fun i _ => n - (intOf i).toNat)
  case atStart => exact ⟨0, Nat.zero_le _, rfl, HH.out.cast (by rw [minusK_zero]), Chg.refl _ _⟩
  case round =>
    obtain ⟨k, hk, rfl, hr, hc⟩ := hrel
    have HR := Lib.hid hr
    have HC := Lib.hid hc
    have hlen : (minusK S.used S.taken k).length = n := by rw [minusK_length, HN.out]
    have m0 : wr.cell? ⟨q, 0, none⟩ = some (.slice (some ⟨bu, 0, none⟩) n cu) := by have := hr.m0; rw [hlen] at this; exact this
    have m1 : wr.cell? ⟨q, 1, none⟩ = some (.slice (some ⟨bt, 0, none⟩) n n) := by have := hr.m1; rw [hlen] at this; exact this
    by_cases hlt : k < n
    · have hlI : (k : Int) < (n : Int) := by omega
      have hg := hr.getT k (by rw [hlen]; exact hlt)
      have hu := hr.getU k (by rw [hlen]; exact hlt)
      have fu := hr.used.frozen k
      have hput := hr.putU k (by rw [hlen]; exact hlt) false
      clear hr hc hlen HH
      cases hb : bg S.taken k with
      | true =>
        rw [show bg ({ S with used := minusK S.used S.taken k } : Sp).taken k = true from hb] at hg
        have HP := Lib.hid (hput.cast (T := { S with used := minusK S.used S.taken (k + 1) }) (by rw [minusK_yes _ _ _ (by rw [← HN.out]; exact hlt) hb]))
        clear hput hb
        go_wp2_with fail
        go_roundw
        case rel => exact ⟨k + 1, by omega, by go_num, HP.out, HC.out.setCell (fun _ => .inr (.inl rfl)) _⟩
        case measure => simp [intOf]; omega
      | false =>
        rw [show bg ({ S with used := minusK S.used S.taken k } : Sp).taken k = false from hb] at hg
        have HP := Lib.hid (HR.out.cast (T := { S with used := minusK S.used S.taken (k + 1) }) (by rw [minusK_no _ _ _ (by rw [← HN.out]; exact hlt) hb]))
        clear hput hb
        go_wp2_with fail
        go_roundw
        case rel => exact ⟨k + 1, by omega, by go_num, HP.out, HC.out⟩
        case measure => simp [intOf]; omega
    · obtain rfl : k = n := by omega
      have HE := Lib.hid (hr.cast (T := { S with used := minusL S.used S.taken }) (by rw [HN.out, minusK_all]))
      clear hr hc hlen HH
      go_wp2_with fail
      refine (refbegin_any _ HE.out.half).mono ?_
      rintro e w2 ⟨rfl, bt2, bg2, h2, l1, l2, hc2⟩
      have HF := Lib.hid (show RKept w q bu bt bg_ S.undo w2 from ⟨bt2, bg2, cu, xu, h2, .inr (Nat.le_trans HC.out.size l1), .inr (Nat.le_trans HC.out.size l2), HC.out.trans hc2 (fun _ _ e => .inl e)⟩)
      clear h2 l1 l2 hc2
      go_wp2_with fail
      go_end0
      exact ⟨rfl, HF.out⟩
end
theorem ownsRow_succ {W : World} {base k : Nat} {e : TypeId} {size : Nat} {v : Value} {xs : List Value} (h : W.ownsRow base e size v (k + 1) xs) : ∃ g cap, v = .slice (some ⟨g, 0, none⟩) (k + 1) cap := by
  rcases h.2 with ⟨_, h0⟩ | ⟨g, cap, _, hv, _⟩
  · omega
  · exact ⟨g, cap, hv⟩
/-- the document's space while New fills its first row -/
def freshU (i f : Nat) : List Bool := (List.range i).map fun j => decide (j < f)
theorem freshU_succ (i f : Nat) : freshU (i + 1) f = freshU i f ++ [decide (i < f)] := by simp [freshU, List.range_succ]
structure Under (w : World) (p i f : Nat) (g l : Int) (v : Value) (wr : World) : Prop where
  pe : p = w.heap.size
  main : Has wr p 49 [v, .slice none 0 0, .slice none 0 0, .int .i64 f, .int .u64 g, .int .u64 l]
  row : wr.ownsRow (p + 1) 4 1 v i (bV (freshU i f))
  bel : Below w.heap.size w wr
theorem has_of_own {W : World} {base g n cap : Nat} {e : TypeId} {xs : List Value} (h : W.ownsRow base e 1 (.slice (some ⟨g, 0, none⟩) n cap) n xs) : n ≤ cap ∧ ∃ t, Has W g e (xs ++ t) := by
  rcases h.2 with ⟨h', _⟩ | ⟨g', cap', cur, h', _, hg, hle, _, _, htake⟩
  · simp at h'
  · simp only [Value.slice.injEq, Option.some.injEq, Addr.mk.injEq, and_true, true_and] at h'
    obtain ⟨rfl, rfl⟩ := h'
    refine ⟨hle, cur.toList.drop (n * 1), ?_⟩
    unfold Has
    rw [← htake, List.take_append_drop, hg]
section
variable {w wr wn : World} {p i f : Nat} {g l : Int} {v v' : Value}
theorem Under.far (h : Under w p i f g l v wr) : v.ownBlock ≠ some p := fun e => by have := (h.row.lt p e).1; omega
theorem Under.push (h : Under w p i f g l v wr) (o : Obj) (hown : wn.ownsRow (p + 1) 4 1 v' (i + 1) (bV (freshU i f) ++ [.bool (decide (i < f))])) (hg : (wr.alloc o).grownBy wn v.ownBlock) : Under w p (i + 1) f g l v' (wn.setCell ⟨p, 0, none⟩ v') := by
  have hp := h.main.lt
  have hm := (h.main.alloc o).same (hg.block p (by simp; omega) (fun e => h.far e.symm))
  have hv' : v'.ownBlock ≠ some p := fun e => by have := (hown.lt p e).1; omega
  have hpe := h.pe
  refine ⟨h.pe, hm.set 0 v', ?_, ?_⟩
  · have e : bV (freshU (i + 1) f) = bV (freshU i f) ++ [.bool (decide (i < f))] := by rw [freshU_succ]; simp [bV]
    rw [e]; exact ownsRow_setCell_other hown hv' _
  · refine Below.setCell ?_ (by show w.heap.size ≤ p; omega) _
    exact (h.bel.alloc (by have := h.bel.size; omega) o).grown hg (by have := h.bel.size; simp; omega) (fun q hq => by have := (h.row.lt q hq).1; omega)
theorem Under.half {n : Nat} (h : Under w p n f g l v wr) (hm : mayP n f g l = true) (h0 : 0 ≤ g) (hl : l < 18446744073709551616) : ∃ bu cu xu, Half wr p bu (.slice none 0 0) (.slice none 0 0) cu xu (Sp.fresh n f g l) ∧ w.heap.size ≤ bu := by
  obtain ⟨h1, h2, h3, h4, h5⟩ := mayP_bd hm
  obtain ⟨k, rfl⟩ : ∃ k, n = k + 1 := ⟨n - 1, by omega⟩
  obtain ⟨bu, cu, rfl⟩ := ownsRow_succ (k := k) h.row
  obtain ⟨hle, t, hh⟩ := has_of_own h.row
  have hb := (h.row.lt bu rfl).1
  have hpe := h.pe
  have hn : (Sp.fresh (k + 1) f g l).used.length = k + 1 := by simp [Sp.fresh]
  have ok := fresh_ok hm h0 hl
  refine ⟨bu, cu, t, ⟨by rw [hn]; exact h.main, hh, by rw [hn]; exact hle, by omega, ⟨ok.n1, ok.n2, by simp [Sp.begun, noneL], by simp [Sp.begun, noneL], ok.fl, ok.g0, ok.le, ok.lb⟩⟩, by omega⟩
end
theorem fresh_begun (n f : Nat) (g l : Int) : (Sp.fresh n f g l).begun = Sp.fresh n f g l := by simp [Sp.begun, Sp.fresh, noneL]
set_option maxRecDepth 100000 in
set_option maxHeartbeats 4000000 in
theorem refnew_any (n f : Nat) (g l : Int) (w : World) (hm : mayP n f g l = true) (h0 : 0 ≤ g) (hl : l < 18446744073709551616) :
    Calls Tryd.prog 9 #[.int .i64 n, .int .i64 f, .int .u64 g, .int .u64 l] w fun e w' => ∃ p bu bt bg_ cu xu, e = .returned (.pointer (some ⟨p, 0, none⟩)) ∧ RefAt w' p bu bt bg_ cu xu (Sp.fresh n f g l) ∧ w.heap.size ≤ p ∧ w.heap.size ≤ bu ∧ w.heap.size ≤ bt ∧ w.heap.size ≤ bg_ ∧ Below w.heap.size w w' := by
  obtain ⟨p, hp⟩ : ∃ p, p = w.heap.size := ⟨_, rfl⟩
  have HU0 := Lib.hid (show Under w p 0 f g l (.slice none 0 0) (w.alloc (.cells #[.slice none 0 0, .slice none 0 0, .slice none 0 0, .int .i64 f, .int .u64 g, .int .u64 l] 49)) from by
    rw [hp]
    exact ⟨rfl, Has.new w [.slice none 0 0, .slice none 0 0, .slice none 0 0, .int .i64 f, .int .u64 g, .int .u64 l] _, World.ownsRow_nil _ _ _ _, (Below.refl _ _).alloc (Nat.le_refl _) _⟩)
  have HP := Lib.hid hp
  have HM := Lib.hid hm
  have h4096 : n ≤ 4096 := by have := mayP_bd hm; omega
  clear hp hm
  go_enter Tryd.func9, Tryd.ntmps9
  go_wp2_with fail
  rw [← HP.out]
  go_loopw [10] (fun i wr => ∃ (k : Nat) (v : Value), k ≤ n ∧ i = .int .i64 k ∧ Under w p k f g l v wr) (fun i _ => n - (intOf i).toNat)
  case atStart => exact ⟨0, _, Nat.zero_le _, rfl, HU0.out⟩
  case round =>
    obtain ⟨k, v, hk, rfl, hu⟩ := hrel
    clear HU0
    by_cases hlt : k < n
    · have hki : (k : Int) < (n : Int) := by omega
      have c0 : wr.cell? ⟨p, 0, none⟩ = some v := hu.main.cell 0
      have hp1 := hu.main.lt
      have hf0 := hu.main.frozen 0
      have HU := Lib.hid hu
      have HFAR := Lib.hid hu.far
      obtain ⟨B, hB⟩ : ∃ B, B = decide (k < f) := ⟨_, rfl⟩
      have hBi : decide (k < f) = B := hB.symm
      have hr1 := hu.row.alloc (.cells #[.bool B] 4)
      have HB := Lib.hid hB
      obtain ⟨i0, hi, hz0, hz1, hz2⟩ := info_parts info_bool10
      clear hu hB
      go_wp2_with (at_builtin; refine wpList_append_own_at _ rfl _ _ 47 rfl (p + 1) 4 i0 (.bool false) 1 1 Tryd.underlying47 hi hz0 hz1 hz2 rfl (by decide) _ _ _ rfl hr1 ⟨wr.heap.size, 0, none⟩ 1 1 [.bool B] rfl rfl ?c1 ?c2 ?c3 ?c4 ?c5 ?_)
      case c1 =>
        intro j u hj
        match j, hj with
        | 0, hj => simp at hj; subst hj; simp [Addr.add]
      case c2 => intro u hu; simp at hu; subst hu; rfl
      case c3 => unfold maxLen; omega
      case c4 => omega
      case c5 => simp; omega
      intro v' w3 hown' hgrow _ hat
      obtain ⟨g', cap', rfl⟩ := ownsRow_succ hown'
      have hf3 : w3.frozen? ⟨p, 0, none⟩ = false := (World.frozen?_of_block (hgrow.block p (by simp; omega) (fun e => HFAR.out e.symm))).trans ((World.frozen?_of_block (Below.heap_alloc _ _ _ hp1)).trans hf0)
      have hc3 : w3.cell? ⟨p, 0, none⟩ = some v := (World.cell?_of_block (hgrow.block p (by simp; omega) (fun e => HFAR.out e.symm))).trans ((World.cell?_alloc_lt wr _ _ hp1).trans c0)
      have HU2 := Lib.hid (HU.out.push _ (by rw [← HB.out]; exact hown') hgrow)
      clear hown' hgrow hat hr1 hf0 c0 hp1
      go_wp2_with fail
      go_roundw
      case rel => exact ⟨k + 1, _, by omega, by go_num, HU2.out⟩
      case measure => simp [intOf]; omega
    · obtain rfl : k = n := by omega
      have HU := Lib.hid hu
      clear hu
      obtain ⟨bu, cu, xu, hh, hbu⟩ := HU.out.half HM.out h0 hl
      have HH := Lib.hid hh
      clear hh
      go_wp2_with fail
      refine (refbegin_any _ HH.out).mono ?_
      rintro e w2 ⟨rfl, bt2, bg2, h2, l1, l2, hc2⟩
      rw [fresh_begun] at h2
      have HF := Lib.hid h2
      have HC := Lib.hid hc2
      clear h2 hc2
      go_wp2_with fail
      go_ret
      have hs := HU.out.bel.size
      have hpe := HP.out
      exact ⟨p, bu, bt2, bg2, cu, xu, rfl, HF.out, by omega, hbu, by omega, by omega, HU.out.bel.trans (HC.out.below hs (fun k hk => by subst hk; omega))⟩
end Go.Proofs.YtkflccecdjfkiaaDoor.Spc
