/- A slice of structs that came in, opened into its elements' cells. -/
import Derived.Test.YtfclecbhfamomaaArr
import Derived.Deep.Slices
import Derived.Deep.Fields
import Derived.ChangeSame
namespace Go.Proofs.Ytfclecbhfamomaa
open Go.ChangeShapes Go.WideShapes Go.RowKit Go.Deep
theorem open_structs {H : Type} {enc : TypeId × Value → H} {P : Program} {w : World} {held : Bool} {t e : TypeId} {fs : Array Field} {c : Value}
    (ht : P.underlying t = some (.slice e)) (he : P.underlying e = some (.struct fs)) (hone : oneCellFields P fs = true) (hC : P.cellsOf e = fs.size) (hpos : 0 < fs.size)
    (h : ∃ m y, DataW.trod enc P w 0 (fun _ => true) held m t [c] = some y) :
    ∃ a len cap, c = .slice a len cap ∧ len ≤ cap ∧ cap ≤ maxLen ∧ (0 < len → ∃ b off, a = some ⟨b, off, none⟩ ∧ ∀ i, i < len → ∀ (j : Nat) (f : Field), fs[j]? = some f →
      ∃ v, w.cell? ⟨b, off + (i * fs.size + j), none⟩ = some v ∧ ∃ m y, DataW.trod enc P w 0 (fun _ => true) held m f.type [v] = some y) := by
  obtain ⟨m, y, h⟩ := h
  rcases open_slice ht h with ⟨hcs, _⟩ | ⟨a, len, cap, m', n, D, Pl, hcs, _, hl, hm, hmm, _, hel⟩
  · simp at hcs
    exact ⟨none, 0, 0, hcs, Nat.le_refl _, by unfold maxLen; omega, fun h => absurd h (by decide)⟩
  · simp at hcs
    refine ⟨some a, len, cap, hcs, hl, hm, fun hlen => ?_⟩
    have hm' : m' = cap := by simpa using hmm
    have key : ∀ i, i < len → ∀ (j : Nat) (f : Field), fs[j]? = some f → ∃ v, w.cell? (a.add (i * fs.size + j)) = some v ∧ ∃ m y, DataW.trod enc P w 0 (fun _ => true) held m f.type [v] = some y := by
      intro i hi j f hj
      obtain ⟨cs, hcells, htr⟩ := hel i (by omega)
      rw [hC] at hcells
      obtain ⟨ys, k, _, _, _, hys, hg⟩ := DataW.trod_struct he htr
      obtain ⟨_, hcl, hat⟩ := World.cells?_some hcells
      obtain ⟨ho, hk⟩ := hone_of hone j f hj
      have hjl : j < fs.size := (Array.getElem?_eq_some_iff.1 hj).1
      have h1 := hg j f hj
      rw [ho, hk] at h1
      have hv : cs[j]? = some (cs[j]'(by omega)) := List.getElem?_eq_getElem (by omega)
      rw [show (cs.drop j).take 1 = [cs[j]'(by omega)] by rw [List.drop_eq_getElem_cons (by omega)]; rfl] at h1
      refine ⟨cs[j]'(by omega), ?_, k, _, h1.trans (List.getElem?_eq_getElem (show j < ys.length by omega))⟩
      have := hat j (by omega)
      rw [Go.Deep.add_add] at this
      rw [this, hv]
    obtain ⟨b, off, spot⟩ := a
    obtain ⟨v0, hv0, _⟩ := key 0 hlen 0 _ (Array.getElem?_eq_getElem hpos)
    have hs : spot = none := by simpa [Addr.add] using World.cell?_spot hv0
    subst hs
    refine ⟨b, off, rfl, fun i hi j f hj => ?_⟩
    obtain ⟨v, hv, hx⟩ := key i hi j f hj
    rw [Addr.add_lit] at hv
    exact ⟨v, hv, hx⟩
theorem open_bool_cell {H : Type} {enc : TypeId × Value → H} {P : Program} {w : World} {base : Nat} {sp : Nat → Bool} {held : Bool} {e : TypeId} {c : Value} (he : P.underlying e = some .bool) (h : ∃ m y, DataW.trod enc P w base sp held m e [c] = some y) : ∃ b : Bool, c = .bool b := by
  obtain ⟨m, y, h⟩ := h
  obtain ⟨b, hb, _⟩ := DataW.trod_bool he h
  exact ⟨b, by simpa using hb⟩
end Go.Proofs.Ytfclecbhfamomaa
