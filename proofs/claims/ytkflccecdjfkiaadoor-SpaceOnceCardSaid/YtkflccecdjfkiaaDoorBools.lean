/- Slices of ints and of bools that a call holds: what they read as, and where their memory is. -/
import Derived.Test.YtkflccecdjfkiaaDoorBase
import Derived.Laws.AppendOwnNone
import Derived.IntWalk
namespace Go.Proofs.YtkflccecdjfkiaaDoor
open Go.RowKit

/-- a slice of values that reads as vs; nil only if it has no room -/
structure Vals (w : World) (ao : Option Addr) (len cap : Nat) (vs : List Value) : Prop where
  len_eq : vs.length = len
  at_ : 0 < len → ∃ b off, ao = some ⟨b, off, none⟩ ∧ ∀ i, i < len → w.cell? ⟨b, off + i, none⟩ = vs[i]?
  le : len ≤ cap
  nil : ao = none → cap = 0
section
variable {w w' : World} {ao : Option Addr} {len cap B : Nat} {vs : List Value}
theorem Vals.below' (h : Vals w ao len cap vs) (hb : Below B w w') (hB : w.heap.size ≤ B) : Vals w' ao len cap vs := by
  refine ⟨h.len_eq, fun hl => ?_, h.le, h.nil⟩
  obtain ⟨b, off, rfl, hc⟩ := h.at_ hl
  refine ⟨b, off, rfl, fun i hi => ?_⟩
  have := hc i hi
  rw [List.getElem?_eq_getElem (by rw [h.len_eq]; exact hi)] at this
  have hlt := World.block_lt_of_cell? w _ this
  rw [hb.cell (by simp at hlt ⊢; omega), this, List.getElem?_eq_getElem (by rw [h.len_eq]; exact hi)]
theorem Vals.below (h : Vals w ao len cap vs) (hb : Below w.heap.size w w') : Vals w' ao len cap vs := h.below' hb (Nat.le_refl _)
theorem Vals.new (h : Vals w ao len cap vs) (o : Obj) : Vals (w.alloc o) ao len cap vs := h.below ((Below.refl _ _).alloc (Nat.le_refl _) _)
theorem Vals.drew (h : Vals w ao len cap vs) : Vals w.drew ao len cap vs := ⟨h.len_eq, h.at_, h.le, h.nil⟩
theorem Vals.none (w : World) : Vals w none 0 0 [] := ⟨rfl, fun h => by omega, Nat.le_refl _, fun _ => rfl⟩
theorem Vals.own {e : TypeId} (h : w.ownsRow B e 1 (.slice ao len cap) len vs) : Vals w ao len cap vs := by
  obtain ⟨ao', cap', hv, hle⟩ := own_shape h
  injection hv with h1 _ h3
  subst h1; subst h3
  have hl : vs.length = len := by have := h.1; simpa using this
  refine ⟨hl, fun hn => ?_, hle, fun hn => ?_⟩
  · rcases h.2 with ⟨hv, h0⟩ | ⟨g, cap', cur, hv, hB, _⟩
    · omega
    · simp only [Value.slice.injEq] at hv
      obtain ⟨rfl, _, rfl⟩ := hv
      refine ⟨g, 0, rfl, fun i hi => ?_⟩
      have := h.cells (g := g) rfl i (vs[i]'(by omega)) (by rw [List.getElem?_eq_getElem (by omega)])
      rw [Addr.add_lit] at this
      rw [this, List.getElem?_eq_getElem (by omega)]
  · subst hn
    rcases h.2 with ⟨hv, _⟩ | ⟨g, cap', cur, hv, _⟩
    · injection hv
    · injection hv with hv; cases hv
/-- its memory is from B on -/
def NewM (B : Nat) (ao : Option Addr) : Prop := ∀ a, ao = some a → B ≤ a.block
theorem NewM.none (B : Nat) : NewM B none := fun a h => by cases h
theorem NewM.own {e : TypeId} {size n : Nat} (h : w.ownsRow B e size (.slice ao n cap) n vs) : NewM B ao := by
  intro a ha
  rcases h.2 with ⟨hv, _⟩ | ⟨g, cap', cur, hv, hB, _⟩
  · injection hv with hv; rw [ha] at hv; cases hv
  · injection hv with hv; rw [ha] at hv; injection hv with hv; subst hv; exact hB
/-- it lies apart from the blocks of R -/
def Apart (R : List Nat) (ao : Option Addr) : Prop := ∀ a, ao = some a → a.block ∉ R
theorem Apart.none (R : List Nat) : Apart R none := fun a h => by cases h
theorem Vals.keep (h : Vals w ao len cap vs) {R : List Nat} (ha : Apart R ao) (hk : ∀ k, k < w.heap.size → k ∉ R → w'.heap[k]? = w.heap[k]?) : Vals w' ao len cap vs := by
  refine ⟨h.len_eq, fun hl => ?_, h.le, h.nil⟩
  obtain ⟨b, off, hb, hc⟩ := h.at_ hl
  refine ⟨b, off, hb, fun i hi => ?_⟩
  have h1 := hc i hi
  have h2 := h1
  rw [List.getElem?_eq_getElem (by rw [h.len_eq]; exact hi)] at h2
  have hlt := World.block_lt_of_cell? w _ h2
  have h4 : w'.heap[b]? = w.heap[b]? := hk b hlt (ha _ hb)
  rw [← h1]
  unfold World.cell?
  simp only [h4]
theorem Vals.lt (h : Vals w ao len cap vs) (hl : 0 < len) : ∃ a, ao = some a ∧ a.block < w.heap.size := by
  obtain ⟨b, off, hb, hc⟩ := h.at_ hl
  have h1 := hc 0 hl
  rw [List.getElem?_eq_getElem (by rw [h.len_eq]; exact hl)] at h1
  exact ⟨_, hb, World.block_lt_of_cell? w _ h1⟩
theorem Vals.cells {ad : Addr} (h : Vals w ao len cap vs) (ha : ao = some ad) (j : Nat) (u : Value) (hj : vs[j]? = some u) : w.cell? (ad.add j) = some u := by
  have hjl : j < len := by rw [← h.len_eq]; exact (List.getElem?_eq_some_iff.1 hj).1
  obtain ⟨b, off, hab, hc⟩ := h.at_ (by omega)
  rw [ha] at hab
  injection hab with hab
  subst hab
  rw [Addr.add_lit, hc j hjl, hj]
end
/-- bools, and ints -/
def bg (l : List Bool) (i : Nat) : Bool := l.getD i false
def ig (l : List Int) (i : Nat) : Int := l.getD i 0
def bV (l : List Bool) : List Value := l.map Value.bool
def iV (l : List Int) : List Value := l.map (Value.int .i64)
theorem bV_get (l : List Bool) (i : Nat) (h : i < l.length) : (bV l)[i]? = some (.bool (bg l i)) := by
  simp [bV, bg, List.getD_eq_getElem?_getD, List.getElem?_eq_getElem h]
theorem iV_get (l : List Int) (i : Nat) (h : i < l.length) : (iV l)[i]? = some (.int .i64 (ig l i)) := by
  simp [iV, ig, List.getD_eq_getElem?_getD, List.getElem?_eq_getElem h]
theorem Vals.bool {w : World} {ao : Option Addr} {len cap : Nat} {l : List Bool} (h : Vals w ao len cap (bV l)) (hl : 0 < len) : ∃ b off, ao = some ⟨b, off, .none⟩ ∧ ∀ i, i < len → w.cell? ⟨b, off + i, .none⟩ = some (.bool (bg l i)) := by
  obtain ⟨b, off, hb, hc⟩ := h.at_ hl
  have hll : l.length = len := by have := h.len_eq; simpa [bV] using this
  exact ⟨b, off, hb, fun i hi => by rw [hc i hi, bV_get l i (by omega)]⟩
theorem Vals.int {w : World} {ao : Option Addr} {len cap : Nat} {l : List Int} (h : Vals w ao len cap (iV l)) (hl : 0 < len) : ∃ b off, ao = some ⟨b, off, .none⟩ ∧ ∀ i, i < len → w.cell? ⟨b, off + i, .none⟩ = some (.int .i64 (ig l i)) := by
  obtain ⟨b, off, hb, hc⟩ := h.at_ hl
  have hll : l.length = len := by have := h.len_eq; simpa [iV] using this
  exact ⟨b, off, hb, fun i hi => by rw [hc i hi, iV_get l i (by omega)]⟩
end Go.Proofs.YtkflccecdjfkiaaDoor
