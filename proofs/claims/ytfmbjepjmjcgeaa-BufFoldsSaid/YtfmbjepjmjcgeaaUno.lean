/- A drawn region with one new block, whose place the order decides, and that is filled at its end. -/
import Derived.Test.YtfmbjepjmjcgeaaRegionV
import Derived.Test.YtfmbjepjmjcgeaaHeap
namespace Go.Proofs.Ytfmbjepjmjcgeaa
open Go Go.RowKit

def Uno (w0 : World) (d ia js : Nat) (t : TypeId) (zs cs : List Value) (l : Nat → Bool) (a : Act) (w : World) : Prop :=
  Below w0.heap.size w0 w ∧ (l ia = true → ∃ g, a.tmps.getD d undef = .pointer (some ⟨g, 0, none⟩) ∧ w0.heap.size ≤ g ∧ Has w g t (if l js = true then cs else zs))
section
variable {w0 w : World} {d ia js : Nat} {t : TypeId} {zs cs : List Value} {l : Nat → Bool} {a : Act}
theorem Uno.start (a : Act) : Uno w0 d ia js t zs cs (fun _ => false) a w0.drew := ⟨(Below.refl _ _).drew, fun h => by cases h⟩
theorem lset_ne {i k : Nat} (h : i ≠ k) : Reg.lset l i k = l k := by unfold Reg.lset; rw [if_neg h]
theorem lset_eq {i : Nat} : Reg.lset l i i = true := by unfold Reg.lset; rw [if_pos rfl]
theorem Uno.keep (h : Uno w0 d ia js t zs cs l a w) {i c : Nat} (v : Value) {w' : World} (hb : Below w.heap.size w w') (h1 : i ≠ ia) (h2 : i ≠ js) (h5 : c ≠ d) (hc : c < a.tmps.size) :
    Uno w0 d ia js t zs cs (Reg.lset l i) (a.put (some c) v) w' := by
  refine ⟨h.1.trans (hb.mono h.1.size), fun hl => ?_⟩
  rw [lset_ne h1] at hl
  obtain ⟨g, e1, e2, e3⟩ := h.2 hl
  refine ⟨g, by rw [Reg.getD_put _ _ _ _ hc, if_neg h5]; exact e1, e2, ?_⟩
  rw [lset_ne h2]; exact e3.below hb e3.lt
theorem Uno.mk (h : Uno w0 d ia js t zs cs l a w) (hl : l js = false) (hn : ia ≠ js) (hc : d < a.tmps.size) :
    Uno w0 d ia js t zs cs (Reg.lset l ia) (a.put (some d) (.pointer (some ⟨w.heap.size, 0, none⟩))) (w.alloc (.cells zs.toArray t)) := by
  refine ⟨h.1.alloc h.1.size _, fun _ => ⟨w.heap.size, by rw [Reg.getD_put _ _ _ _ hc, if_pos rfl], h.1.size, ?_⟩⟩
  rw [lset_ne hn, hl]; exact Has.new _ _ _
theorem Uno.st (h : Uno w0 d ia js t zs cs l a w) (h1 : l ia = true) (hl : l js = false) (_ : js ≠ ia) :
    ∃ g, a.tmps.getD d undef = .pointer (some ⟨g, 0, none⟩) ∧ w0.heap.size ≤ g ∧ Has w g t zs ∧ Below w0.heap.size w0 w ∧ ∀ w2, Has w2 g t cs → Below w0.heap.size w0 w2 → Uno w0 d ia js t zs cs (Reg.lset l js) a w2 := by
  obtain ⟨g, e1, e2, e3⟩ := h.2 h1
  rw [hl] at e3
  refine ⟨g, e1, e2, e3, h.1, fun w2 hh hb => ⟨hb, fun _ => ⟨g, e1, e2, ?_⟩⟩⟩
  rw [lset_eq]; exact hh
theorem Uno.done {n : Nat} (h : Uno w0 d ia js t zs cs (fun j => decide (j < n)) a w) (h1 : ia < n) (h2 : js < n) :
    ∃ g, a.tmps.getD d undef = .pointer (some ⟨g, 0, none⟩) ∧ w0.heap.size ≤ g ∧ Has w g t cs ∧ Below w0.heap.size w0 w := by
  obtain ⟨g, e1, e2, e3⟩ := h.2 (by simpa using h1)
  simp only [show decide (js < n) = true from decide_eq_true h2, if_true] at e3
  exact ⟨g, e1, e2, e3, h.1⟩
end
end Go.Proofs.Ytfmbjepjmjcgeaa
