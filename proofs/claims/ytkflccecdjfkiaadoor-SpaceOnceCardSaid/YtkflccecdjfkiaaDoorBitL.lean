/- Layer 9's laws: wakes, same. -/
import Derived.Test.YtkflccecdjfkiaaDoorBitR
namespace Go.Proofs.YtkflccecdjfkiaaDoor.Bit
open Go.RowKit Go.Proofs.YtkflccecdjfkiaaDoor
set_option linter.unusedVariables false

/-- a set that lies above w0's end, beside nothing that was there -/
structure Own (w0 : World) (p : Nat) (R : List Nat) (l : List Bool) (w : World) : Prop where
  at_ : SetAt w p R l
  ge : ∀ k ∈ R, w0.heap.size ≤ k
section
variable {w0 w w' : World} {p q : Nat} {R T : List Nat} {l m : List Bool}
theorem Own.on (h : Own w0 p R l w) (hb : Below w.heap.size w w') : Own w0 p R l w' := ⟨h.at_.same fun k hk => hb.block k (h.at_.lt k hk), h.ge⟩
theorem Own.chg (h : Own w0 p R l w) (hc : Chg (fun k => k ∈ T) w w') (hd : ∀ k ∈ R, k ∉ T) : Own w0 p R l w' := ⟨h.at_.same fun k hk => hc.block k (h.at_.lt k hk) (hd k hk), h.ge⟩
theorem Own.of (h : SetAt w' p R l) (hR : ∀ k ∈ R, w.heap.size ≤ k) (hb : w0.heap.size ≤ w.heap.size) : Own w0 p R l w' := ⟨h, fun k hk => Nat.le_trans hb (hR k hk)⟩
theorem Own.put (h : Own w0 p R l w) (h' : SetAt w' p T m) (hT : ∀ k ∈ T, k ∈ R ∨ w.heap.size ≤ k) (hb : w0.heap.size ≤ w.heap.size) : Own w0 p T m w' :=
  ⟨h', fun k hk => (hT k hk).elim (h.ge k) (Nat.le_trans hb)⟩
theorem b_chg {R : List Nat} (h : Below w0.heap.size w0 w) (hc : Chg (fun k => k ∈ R) w w') (hR : ∀ k ∈ R, w0.heap.size ≤ k) : Below w0.heap.size w0 w' := h.trans (hc.below h.size hR)
end
theorem apart_new {R : List Nat} {w : World} {ao : Option Addr} (hR : ∀ k ∈ R, k < w.heap.size) (hn : NewM w.heap.size ao) : Apart R ao := fun a ha hk => by have := hR _ hk; have := hn a ha; omega

end Go.Proofs.YtkflccecdjfkiaaDoor.Bit
