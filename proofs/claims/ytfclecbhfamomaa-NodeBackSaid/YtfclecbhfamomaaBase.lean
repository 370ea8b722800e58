/- Plain facts on worlds and rows of numbers, for all contracts of this seat. -/
import Derived.WalkKit
import Derived.Lib.Hide
namespace Go.Proofs.Ytfclecbhfamomaa
open Go.RowKit

/-- A slice value of 'len' elements at 'ao' reads as the numbers xs of kind kd. -/
structure Row (kd : IntKind) (w : World) (ao : Option Addr) (len : Nat) (xs : List Int) : Prop where
  len_eq : xs.length = len
  at_ : 0 < len → ∃ b off, ao = some ⟨b, off, none⟩ ∧ ∀ i, i < len → w.cell? ⟨b, off + i, none⟩ = some (.int kd (xs.getD i 0))

/-- The same behind a step that leaves what was there. -/
theorem Row.below {kd : IntKind} {w w' : World} {ao : Option Addr} {len : Nat} {xs : List Int} (h : Row kd w ao len xs) {B : Nat} (hb : Below B w w') (hB : w.heap.size ≤ B) : Row kd w' ao len xs := by
  refine ⟨h.len_eq, fun hl => ?_⟩
  obtain ⟨b, off, rfl, hc⟩ := h.at_ hl
  refine ⟨b, off, rfl, fun i hi => ?_⟩
  have := hc i hi
  have hlt := World.block_lt_of_cell? w _ this
  rw [hb.cell (by simp at hlt ⊢; omega)]
  exact this

/-- The first ones of it. -/
theorem Row.take {kd : IntKind} {w : World} {ao : Option Addr} {len : Nat} {xs : List Int} (h : Row kd w ao len xs) (n : Nat) (hn : n ≤ len) : Row kd w ao n (xs.take n) := by
  refine ⟨by have := h.len_eq; simp; omega, fun hl => ?_⟩
  obtain ⟨b, off, rfl, hc⟩ := h.at_ (by omega)
  refine ⟨b, off, rfl, fun i hi => ?_⟩
  rw [hc i (by omega)]
  simp [List.getD, hi]

/-- The ones behind the first ones, with the address that Go gives them. -/
theorem Row.drop {kd : IntKind} {w : World} {ao ao' : Option Addr} {len : Nat} {xs : List Int} (h : Row kd w ao len xs) (n : Nat) (hn : n ≤ len)
    (hao : ∀ b off, ao = some ⟨b, off, none⟩ → n < len → ao' = some ⟨b, off + n, none⟩) : Row kd w ao' (len - n) (xs.drop n) := by
  refine ⟨by have := h.len_eq; simp; omega, fun hl => ?_⟩
  obtain ⟨b, off, rfl, hc⟩ := h.at_ (by omega)
  refine ⟨b, off + n, hao b off rfl (by omega), fun i hi => ?_⟩
  have := hc (n + i) (by omega)
  rw [← Nat.add_assoc] at this
  rw [this]
  simp [List.getD, List.getElem?_drop]

/-- The ones behind the first ones, with the address as the walk spells it. -/
theorem Row.dropIf {kd : IntKind} {w : World} {ao : Option Addr} {len : Nat} {xs : List Int} (h : Row kd w ao len xs) (cap n : Nat) (hn : n ≤ len) (hc : len ≤ cap) :
    Row kd w (if cap = n then ao else Option.map (fun x => x.add n) ao) (len - n) (xs.drop n) := by
  refine h.drop n hn fun b off hao hlt => ?_
  rw [if_neg (by omega), hao]
  simp only [Option.map_some, Addr.add_lit]

/-- What the call owns reads as numbers. -/
theorem Row.own {kd : IntKind} {w : World} {B : Nat} {e : TypeId} {ao : Option Addr} {n cap : Nat} {xs : List Int} (h : w.ownsRow B e 1 (.slice ao n cap) n (xs.map (Value.int kd))) : Row kd w ao n xs := by
  have hl : xs.length = n := by have := h.1; simpa using this
  refine ⟨hl, fun hn => ?_⟩
  rcases h.2 with ⟨hv, h0⟩ | ⟨g, cap', cur, hv, hB, _⟩
  · omega
  · simp only [Value.slice.injEq] at hv
    obtain ⟨rfl, _, rfl⟩ := hv
    refine ⟨g, 0, rfl, fun i hi => ?_⟩
    have := h.cells (g := g) rfl i (.int kd (xs.getD i 0)) (by
      rw [List.getElem?_map, List.getElem?_eq_getElem (by omega), List.getD_eq_getElem?_getD, List.getElem?_eq_getElem (by omega)]; rfl)
    rw [Addr.add_lit] at this
    exact this

/-- A new block of two numbers. -/
theorem Row.two (kd : IntKind) (w : World) (a b : Int) (e : TypeId) : Row kd (w.alloc (.cells #[.int kd a, .int kd b] e)) (some ⟨w.heap.size, 0, none⟩) 2 [a, b] := by
  refine ⟨rfl, fun _ => ⟨w.heap.size, 0, rfl, fun i hi => ?_⟩⟩
  match i, hi with
  | 0, _ => simp
  | 1, _ => simp

/-- The cells of a row, as the laws on append ask for them. -/
theorem Row.news {kd : IntKind} {w : World} {b off len : Nat} {xs : List Int} (h : Row kd w (some ⟨b, off, none⟩) len xs) :
    ∀ j u, (xs.map (Value.int kd))[j]? = some u → w.cell? ((⟨b, off, none⟩ : Addr).add j) = some u := by
  intro j u hu
  have hj : j < xs.length := by have := (List.getElem?_eq_some_iff.1 hu).1; simpa using this
  obtain ⟨b', off', hb, hc⟩ := h.at_ (by have := h.len_eq; omega)
  simp only [Option.some.injEq, Addr.mk.injEq, and_true] at hb
  obtain ⟨rfl, rfl⟩ := hb
  rw [Addr.add_lit, hc j (by have := h.len_eq; omega)]
  rw [List.getElem?_map, List.getElem?_eq_getElem hj] at hu
  rw [List.getD_eq_getElem?_getD, List.getElem?_eq_getElem hj]
  exact hu

theorem own_shape {w : World} {B : Nat} {e : TypeId} {size : Nat} {v : Value} {n : Nat} {xs : List Value} (h : w.ownsRow B e size v n xs) : ∃ ao cap, v = .slice ao n cap ∧ n ≤ cap := by
  rcases h.2 with ⟨rfl, rfl⟩ | ⟨g, cap, cur, rfl, _, _, hn, _⟩
  · exact ⟨_, _, rfl, Nat.le_refl _⟩
  · exact ⟨_, _, rfl, hn⟩

/-- What the call owns, and isn't empty, has an address. -/
theorem own_some {w : World} {B : Nat} {e : TypeId} {size : Nat} {v : Value} {n : Nat} {xs : List Value} (h : w.ownsRow B e size v n xs) (hn : 0 < n) : ∃ g cap, v = .slice (some ⟨g, 0, none⟩) n cap ∧ n ≤ cap ∧ B ≤ g := by
  rcases h.2 with ⟨_, h0⟩ | ⟨g, cap, cur, rfl, hB, _, hc, _⟩
  · omega
  · exact ⟨g, cap, rfl, hc, hB⟩
end Go.Proofs.Ytfclecbhfamomaa
