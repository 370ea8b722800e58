/- Layer 14 (msg): the document's own answers: Join. -/
import Derived.Test.YtfmbjepjmjcgeaaMsgR
namespace Go.Proofs.Ytfmbjepjmjcgeaa.Msg
open Go Go.RowKit Go.Proofs.Ytfmbjepjmjcgeaa Go.Proofs.Ytfmbjepjmjcgeaa.Lend Go.Proofs.Ytfmbjepjmjcgeaa.Rec
set_option linter.unusedVariables false

/-- the two arguments, the result, and what is made -/
structure Qd (w0 : World) (t : TypeId) (ca cb cr co : List Value) (w : World) : Prop where
  tri : Tri w0 t ca cb cr w
  o : Has w (w0.heap.size + 1 + 1 + 1) t co
section
variable {w0 w w' : World} {t : TypeId} {ca cb cr co : List Value}
theorem Qd.on (h : Qd w0 t ca cb cr co w) (hb : Below w.heap.size w w') : Qd w0 t ca cb cr co w' := ⟨h.tri.on hb, h.o.below hb h.o.lt⟩
theorem Qd.new (w : World) (t : TypeId) (ca cb cr co : List Value) : Qd w t ca cb cr co ((((w.alloc (.cells ca.toArray t)).alloc (.cells cb.toArray t)).alloc (.cells cr.toArray t)).alloc (.cells co.toArray t)) := by
  have h1 := Tri.new w t ca cb cr
  have h2 := Has.new (((w.alloc (.cells ca.toArray t)).alloc (.cells cb.toArray t)).alloc (.cells cr.toArray t)) co t
  simp only [World.size_alloc] at h2
  exact ⟨h1.on (below_new _ _), h2⟩
end
theorem bel_so {w w' : World} {i : Nat} {v : Value} (h : Below w.heap.size w w') : Below w.heap.size w (w'.setCell ⟨w.heap.size + 1 + 1 + 1, i, none⟩ v) := h.setCell (show w.heap.size ≤ w.heap.size + 1 + 1 + 1 by omega) v
end Go.Proofs.Ytfmbjepjmjcgeaa.Msg
