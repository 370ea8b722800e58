/- A slice of structs that came in, opened into its elements' cells; its texts are no longer than the reading's reach. -/
import Derived.Test.YtfclecbhfamomaaStructs
import Derived.SizedLaws
namespace Go.Proofs.Ytfclecbhfamomaa
open Go Go.ChangeShapes Go.WideShapes Go.RowKit Go.Deep
theorem weights_mem_all {H : Type} {P : Program} {e : TypeId} : ∀ {ds : List (DataW H)} {d : DataW H}, d ∈ ds → ∀ n ∈ d.weights P e, n ∈ DataW.weightsAll P e ds
  | d0 :: ds, d, hd, n, hn => by
    simp only [DataW.weightsAll, List.mem_append]
    rcases List.mem_cons.1 hd with rfl | h
    · exact .inl hn
    · exact .inr (weights_mem_all h n hn)
/-- cells of a field that is a text -/
def TextIn (P : Program) (t : TypeId) (v : Value) : Prop := P.underlying t = some .string → ∀ s, v = .string s → s.size ≤ 140737488355327
theorem open_structs_z {H : Type} {enc : TypeId × Value → H} {P : Program} {w : World} {held : Bool} {t e : TypeId} {fs : Array Field} {c : Value} {d : DataW H} {pl : List MemPlace}
    (ht : P.underlying t = some (.slice e)) (he : P.underlying e = some (.struct fs)) (hone : oneCellFields P fs = true) (hC : P.cellsOf e = fs.size) (hpos : 0 < fs.size)
    (h : ∃ m, DataW.trod enc P w 0 (fun _ => true) held m t [c] = some (d, pl)) (hz : ∀ n ∈ d.weights P t, n ≤ reachBytes) :
    ∃ a len cap, c = .slice a len cap ∧ len ≤ cap ∧ cap ≤ maxLen ∧ (0 < len → ∃ b off, a = some ⟨b, off, none⟩ ∧ ∀ i, i < len → ∀ (j : Nat) (f : Field), fs[j]? = some f →
      ∃ v, w.cell? ⟨b, off + (i * fs.size + j), none⟩ = some v ∧ (∃ m y, DataW.trod enc P w 0 (fun _ => true) held m f.type [v] = some y) ∧ TextIn P f.type v) := by
  obtain ⟨m, h⟩ := h
  rcases open_slice ht h with ⟨hcs, _⟩ | ⟨a, len, cap, m', n, D, Pl, hcs, _, hl, hm, hmm, hxd, hel⟩
  · simp at hcs
    exact ⟨none, 0, 0, hcs, Nat.le_refl _, by unfold maxLen; omega, fun h => absurd h (by decide)⟩
  · simp at hcs
    refine ⟨some a, len, cap, hcs, hl, hm, fun hlen => ?_⟩
    have hm' : m' = cap := by simpa using hmm
    have hd : d = .slice ((List.range len).map D) ((List.range (m' - len)).map fun j => D (len + j)) := (Prod.mk.inj hxd).1
    have key : ∀ i, i < len → ∀ (j : Nat) (f : Field), fs[j]? = some f → ∃ v, w.cell? (a.add (i * fs.size + j)) = some v ∧ (∃ m y, DataW.trod enc P w 0 (fun _ => true) held m f.type [v] = some y) ∧ TextIn P f.type v := by
      intro i hi j f hj
      obtain ⟨cs, hcells, htr⟩ := hel i (by omega)
      rw [hC] at hcells
      obtain ⟨ys, k, _, hD, _, hys, hg⟩ := DataW.trod_struct he htr
      obtain ⟨_, hcl, hat⟩ := World.cells?_some hcells
      obtain ⟨ho, hk⟩ := hone_of hone j f hj
      have hjl : j < fs.size := (Array.getElem?_eq_some_iff.1 hj).1
      have h1 := hg j f hj
      rw [ho, hk] at h1
      have hv : cs[j]? = some (cs[j]'(by omega)) := List.getElem?_eq_getElem (by omega)
      rw [show (cs.drop j).take 1 = [cs[j]'(by omega)] by rw [List.drop_eq_getElem_cons (by omega)]; rfl] at h1
      have h2 := h1.trans (List.getElem?_eq_getElem (show j < ys.length by omega))
      refine ⟨cs[j]'(by omega), ?_, ⟨k, _, h2⟩, fun hst s hs => ?_⟩
      · have := hat j (by omega)
        rw [Go.Deep.add_add] at this
        rw [this, hv]
      · rw [hs] at h2
        obtain ⟨s', hs', hx, _⟩ := DataW.trod_string hst h2
        have hs' : s = s' := by simpa using hs'
        subst hs'
        have e1 : D i = .agg (ys.map (·.1)) := (Prod.mk.inj hD).1
        have e2 : (ys.map (·.1))[j]? = some (.lit (.string s.data.toList)) := by
          rw [List.getElem?_map, List.getElem?_eq_getElem (show j < ys.length by omega)]
          rw [show ys[j] = (ys[j]'(by omega)) from rfl, hx]; rfl
        have e3 : s.data.toList.length ∈ (D i).weights P e := by
          rw [e1]
          simp only [DataW.weights, he]
          refine DataW.weights_mem_each (j := j) (t := f.type) (d := .lit (.string s.data.toList)) ?_ e2 _ ?_
          · rw [List.getElem?_map, Array.getElem?_toList, hj]; rfl
          · simp only [DataW.weights, List.mem_singleton]
        have e4 : s.data.toList.length ∈ d.weights P t := by
          rw [hd]
          simp only [DataW.weights, ht]
          refine List.mem_cons_of_mem _ (List.mem_append_left _ ?_)
          exact weights_mem_all (List.mem_map.2 ⟨i, List.mem_range.2 hi, rfl⟩) _ e3
        have e5 := hz _ e4
        have e6 := reachBytes_lt
        have e7 : s.data.toList.length = s.size := by simp
        omega
    obtain ⟨b, off, spot⟩ := a
    obtain ⟨v0, hv0, _⟩ := key 0 hlen 0 _ (Array.getElem?_eq_getElem hpos)
    have hs : spot = none := by simpa [Addr.add] using World.cell?_spot hv0
    subst hs
    refine ⟨b, off, rfl, fun i hi j f hj => ?_⟩
    obtain ⟨v, hv, hx⟩ := key i hi j f hj
    rw [Addr.add_lit] at hv
    exact ⟨v, hv, hx⟩
end Go.Proofs.Ytfclecbhfamomaa
