/- Blocks of memory: what a block holds, and what a step leaves as it was. For calls that write into memory of their own. -/
import Derived.WalkKit
import Derived.Lib.Hide
import Derived.Below
import Derived.Laws.OwnMore
import Derived.Maps.AppendAt
import Derived.Deep.Quiet
namespace Go.Proofs.Ytfclecbhfamomaa
open Go Go.RowKit

/-- Block b holds the cells cs, and may be written. -/
def Has (w : World) (b : Nat) (t : TypeId) (cs : List Value) : Prop := w.heap[b]? = some (.cells cs.toArray t (0, 0))
section
variable {w w' : World} {b : Nat} {t : TypeId} {cs : List Value}
theorem Has.lt (h : Has w b t cs) : b < w.heap.size := (Array.getElem?_eq_some_iff.1 h).1
theorem Has.cell (h : Has w b t cs) (i : Nat) : w.cell? ⟨b, i, none⟩ = cs[i]? := by
  unfold Has at h; unfold World.cell?; simp only [h]; simp
theorem Has.frozen (h : Has w b t cs) (i : Nat) : w.frozen? ⟨b, i, none⟩ = false := by
  unfold Has at h; unfold World.frozen?; simp only [h]; simp
theorem Has.set (h : Has w b t cs) (i : Nat) (v : Value) : Has (w.setCell ⟨b, i, none⟩ v) b t (cs.set i v) := by
  unfold Has at h ⊢
  have hl := (Array.getElem?_eq_some_iff.1 h).1
  simp only [World.setCell, Array.getElem?_modify, h]; simp
theorem Has.setOther (h : Has w b t cs) {a : Addr} (ha : a.block ≠ b) (v : Value) : Has (w.setCell a v) b t cs := by
  unfold Has at h ⊢; rw [Below.heap_setCell _ _ _ _ (fun e => ha e.symm)]; exact h
theorem Has.alloc (h : Has w b t cs) (o : Obj) : Has (w.alloc o) b t cs := by
  have := h.lt
  unfold Has at h ⊢; rw [Below.heap_alloc _ _ _ this]; exact h
theorem Has.drew (h : Has w b t cs) : Has w.drew b t cs := h
theorem Has.drewN (h : Has w b t cs) (n : Nat) : Has (w.drewN n) b t cs := h
theorem Has.new (w : World) (cs : List Value) (t : TypeId) : Has (w.alloc (.cells cs.toArray t)) w.heap.size t cs := by
  unfold Has; show (w.heap.push _)[w.heap.size]? = _; simp
theorem Has.same (h : Has w b t cs) (hk : w'.heap[b]? = w.heap[b]?) : Has w' b t cs := by unfold Has at h ⊢; rw [hk]; exact h
theorem Has.below {B : Nat} (h : Has w b t cs) (hb : Below B w w') (hB : b < B) : Has w' b t cs := h.same (hb.block b hB)
end

/-- Only blocks of R, and new ones, are others. -/
structure Chg (R : Nat → Prop) (w w' : World) : Prop where
  os : w'.os = w.os
  tape : w'.tape = w.tape
  output : w'.output = w.output
  size : w.heap.size ≤ w'.heap.size
  block : ∀ k, k < w.heap.size → ¬ R k → w'.heap[k]? = w.heap[k]?
section
variable {R R' : Nat → Prop} {a w w' : World} {b : Nat} {t : TypeId} {cs : List Value}
theorem Chg.refl (R : Nat → Prop) (w : World) : Chg R w w := ⟨rfl, rfl, rfl, Nat.le_refl _, fun _ _ _ => rfl⟩
theorem Chg.trans (h : Chg R a w) (k : Chg R' w w') (hR : ∀ i, i < a.heap.size → R' i → R i) : Chg R a w' :=
  ⟨k.os.trans h.os, k.tape.trans h.tape, k.output.trans h.output, Nat.le_trans h.size k.size, fun i hi hr => (k.block i (Nat.lt_of_lt_of_le hi h.size) (fun e => hr (hR i hi e))).trans (h.block i hi hr)⟩
theorem Chg.mono (h : Chg R w w') (hR : ∀ i, i < w.heap.size → R i → R' i) : Chg R' w w' := ⟨h.os, h.tape, h.output, h.size, fun i hi hr => h.block i hi (fun e => hr (hR i hi e))⟩
theorem Chg.alloc (h : Chg R a w) (o : Obj) : Chg R a (w.alloc o) :=
  ⟨h.os, h.tape, h.output, by have := h.size; simp; omega, fun i hi hr => (Below.heap_alloc _ _ _ (Nat.lt_of_lt_of_le hi h.size)).trans (h.block i hi hr)⟩
theorem Chg.setCell (h : Chg R a w) {p : Addr} (hp : p.block < a.heap.size → R p.block) (v : Value) : Chg R a (w.setCell p v) :=
  ⟨h.os, h.tape, h.output, by have := h.size; simp; omega, fun i hi hr => (Below.heap_setCell _ _ _ _ (fun e => by subst e; exact hr (hp hi))).trans (h.block i hi hr)⟩
theorem Chg.drew (h : Chg R a w) : Chg R a w.drew := ⟨h.os, h.tape, h.output, h.size, h.block⟩
theorem Chg.drewN (h : Chg R a w) (n : Nat) : Chg R a (w.drewN n) := ⟨h.os, h.tape, h.output, h.size, h.block⟩
theorem Chg.has (h : Chg R w w') (hb : Has w b t cs) (hr : ¬ R b) : Has w' b t cs := hb.same (h.block b hb.lt hr)
theorem Chg.of_below {B : Nat} (h : Below B w w') (hB : w.heap.size ≤ B) : Chg R w w' := ⟨h.os, h.tape, h.output, h.size, fun i hi _ => h.block i (Nat.lt_of_lt_of_le hi hB)⟩
theorem Chg.below {B : Nat} (h : Chg R w w') (hB : B ≤ w.heap.size) (hR : ∀ i, R i → B ≤ i) : Below B w w' :=
  ⟨h.os, h.tape, h.output, h.size, fun i hi => h.block i (Nat.lt_of_lt_of_le hi hB) (fun e => by have := hR i e; omega)⟩
theorem Chg.grown (h : Chg R a w) {row : Option Nat} (hg : w.grownBy w' row) (hr : ∀ k, k < a.heap.size → row = some k → R k) : Chg R a w' :=
  ⟨hg.os.trans h.os, hg.tape.trans h.tape, hg.output.trans h.output, Nat.le_trans h.size hg.size, fun i hi hn =>
    (hg.block i (Nat.lt_of_lt_of_le hi h.size) (fun e => hn (hr i hi e.symm))).trans (h.block i hi hn)⟩
end
theorem owns_same {w w' : World} {base : Nat} {e : TypeId} {size : Nat} {v : Value} {n : Nat} {xs : List Value} (h : w.ownsRow base e size v n xs) (hk : ∀ k, v.ownBlock = some k → w'.heap[k]? = w.heap[k]?) : w'.ownsRow base e size v n xs := by
  refine ⟨h.1, ?_⟩
  rcases h.2 with hn | ⟨g, cap, cur, rfl, hb, hgg, rest⟩
  · exact .inl hn
  · exact .inr ⟨g, cap, cur, rfl, hb, by rw [hk g rfl]; exact hgg, rest⟩
end Go.Proofs.Ytfclecbhfamomaa
