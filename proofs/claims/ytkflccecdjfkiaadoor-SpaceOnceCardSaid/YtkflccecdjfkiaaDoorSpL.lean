/- Layer 10's laws: wakes. -/
import Derived.Test.YtkflccecdjfkiaaDoorSpO
namespace Go.Proofs.YtkflccecdjfkiaaDoor.Spc
open Go.RowKit Go.Proofs.YtkflccecdjfkiaaDoor Go.Proofs.YtkflccecdjfkiaaDoor.Bit
set_option linter.unusedVariables false

/-- a space that lies above w0's end; and nothing below it is another one -/
structure Own (w0 : World) (p : Nat) (R : List Nat) (S : Sp) (w : World) : Prop where
  at_ : SpAt w p R S
  ge : ∀ k ∈ R, w0.heap.size ≤ k
  bel : Below w0.heap.size w0 w
  tz : Tz w0
section
variable {w0 w w' : World} {p : Nat} {R T : List Nat} {S S' : Sp}
theorem Own.tw (h : Own w0 p R S w) : Tz w := h.tz.on h.bel
theorem Own.on (h : Own w0 p R S w) (hb : Below w.heap.size w w') : Own w0 p R S w' := ⟨h.at_.same fun k hk => hb.block k (h.at_.lt k hk), h.ge, b_on h.bel hb, h.tz⟩
theorem Own.of (h : SpAt w' p R S) (hR : ∀ k ∈ R, w.heap.size ≤ k) (hb0 : Below w0.heap.size w0 w) (hb : Below w.heap.size w w') (hT : Tz w0) : Own w0 p R S w' := ⟨h, fun k hk => Nat.le_trans hb0.size (hR k hk), b_on hb0 hb, hT⟩
theorem Own.kept (h : Own w0 p R S w) (hk : Kept w p R S' w') : ∃ R', Own w0 p R' S' w' ∧ (∀ k ∈ R', k ∈ R ∨ w.heap.size ≤ k) ∧ Chg (fun k => k ∈ R) w w' := by
  obtain ⟨R', h1, h2, h3⟩ := hk
  exact ⟨R', ⟨h1, fun k hk => (h2 k hk).elim (h.ge k) (Nat.le_trans h.bel.size), h.bel.trans (h3.below h.bel.size h.ge), h.tz⟩, h2, h3⟩
end
set_option maxHeartbeats 1000000 in
set_option maxRecDepth 100000 in
theorem wakes_any (w : World) (hT : Tz w) : Calls Tryd.prog 10 #[] w fun e w' => e = .returned (.bool true) ∧ Below w.heap.size w w' := by
  obtain ⟨S0, h0⟩ : ∃ S, S = Sp.fresh 4 2 0 9 := ⟨_, rfl⟩
  obtain ⟨S1, h1⟩ : ∃ S, S = S0.take := ⟨_, rfl⟩
  obtain ⟨S2, h2⟩ : ∃ S, S = S1.take := ⟨_, rfl⟩
  obtain ⟨S3, h3⟩ : ∃ S, S = S2.take := ⟨_, rfl⟩
  obtain ⟨S4, h4⟩ : ∃ S, S = S3.give 2 := ⟨_, rfl⟩
  obtain ⟨S5, h5⟩ : ∃ S, S = S4.settle := ⟨_, rfl⟩
  have f0 := Lib.hid (show takeN S0 = 2 ∧ takeE S0 = 0 by subst h0; exact ⟨rfl, rfl⟩)
  have f1 := Lib.hid (show takeN S1 = 3 ∧ takeE S1 = 0 by subst h1; subst h0; exact ⟨rfl, rfl⟩)
  have f2 := Lib.hid (show takeN S2 = 0 ∧ takeE S2 = 11 by subst h2; subst h1; subst h0; exact ⟨rfl, rfl⟩)
  have f3 := Lib.hid (show giveE S3 2 = 0 by subst h3; subst h2; subst h1; subst h0; rfl)
  have f5 := Lib.hid (show takeN S5 = 2 ∧ takeE S5 = 0 by subst h5; subst h4; subst h3; subst h2; subst h1; subst h0; exact ⟨rfl, rfl⟩)
  have HT := Lib.hid hT
  have L0 := Lib.hid h0
  have L1 := Lib.hid h1
  have L2 := Lib.hid h2
  have L3 := Lib.hid h3
  have L4 := Lib.hid h4
  have L5 := Lib.hid h5
  clear h0 h1 h2 h3 h4 h5 hT
  go_enter Tryd.func10, Tryd.ntmps10
  go_wp2_with fail
  refine (new_yes 4 2 0 9 _ (by decide) (by decide) (by decide)).mono ?_
  rintro e w1 ⟨p, R, rfl, hs, hR, hb⟩
  rw [← L0.out] at hs
  have O1 := Lib.hid (Own.of hs hR (Below.refl _ w) hb HT.out)
  clear hs hR hb
  go_wp2_with fail
  refine (take_any _ O1.out.tw O1.out.at_).mono ?_
  rintro e w2 ⟨rfl, hk⟩
  rw [f0.out.1, f0.out.2]
  rw [← L1.out] at hk
  obtain ⟨R2, o2, _, _⟩ := O1.out.kept hk
  have O2 := Lib.hid o2
  clear hk o2 O1
  go_wp2_with fail
  refine (take_any _ O2.out.tw O2.out.at_).mono ?_
  rintro e w3 ⟨rfl, hk⟩
  rw [f1.out.1, f1.out.2]
  rw [← L2.out] at hk
  obtain ⟨R3, o3, _, _⟩ := O2.out.kept hk
  have O3 := Lib.hid o3
  clear hk o3 O2
  go_wp2_with fail
  refine (take_any _ O3.out.tw O3.out.at_).mono ?_
  rintro e w4 ⟨rfl, hk⟩
  rw [f2.out.1, f2.out.2]
  rw [← L3.out] at hk
  obtain ⟨R4, o4, _, _⟩ := O3.out.kept hk
  have O4 := Lib.hid o4
  clear hk o4 O3
  go_wp2_with fail
  refine (give_any 2 _ O4.out.at_).mono ?_
  rintro e w5 ⟨rfl, hk⟩
  rw [f3.out]
  rw [← L4.out] at hk
  obtain ⟨R5, o5, _, _⟩ := O4.out.kept hk
  have O5 := Lib.hid o5
  clear hk o5 O4
  go_wp2_with fail
  refine (settle_any _ O5.out.tw O5.out.at_).mono ?_
  rintro e w6 ⟨rfl, hk⟩
  rw [← L5.out] at hk
  obtain ⟨R6, o6, _, _⟩ := O5.out.kept hk
  have O6 := Lib.hid o6
  clear hk o6 O5
  go_wp2_with fail
  refine (take_any _ O6.out.tw O6.out.at_).mono ?_
  rintro e w7 ⟨rfl, hk⟩
  rw [f5.out.1, f5.out.2]
  obtain ⟨R7, o7, _, _⟩ := O6.out.kept hk
  have B7 := Lib.hid o7.bel
  clear hk o7 O6
  go_wp2_with fail
  go_ret
  exact ⟨rfl, B7.out⟩
end Go.Proofs.YtkflccecdjfkiaaDoor.Spc
