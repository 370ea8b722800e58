/- Layers' contracts, bundled: Arr, Structs, Texts, StructsN. -/
import Derived.OpenShut
import Derived.ChangeOld
import Derived.Below
import Derived.Deep.Fields
import Derived.Test.YtflanjcfkdjpjaaGreatDoorK02
import Derived.Deep.Slices
import Derived.ChangeSame
/- An array that came in, opened into its elements. -/
namespace Go.Proofs.YtflanjcfkdjpjaaGreatDoor
open Go.ChangeShapes Go.WideShapes Go.RowKit Go.Deep
theorem open_arr {H : Type} {enc : TypeId × Value → H} {P : Program} {w W : World} {r : Reach} {base b0 : Nat} {sp : Nat → Bool} {held : Bool} {t e : TypeId} {n : Nat} {v : Value} {d : DataW H} {ps : List MemPlace}
    (ht : P.underlying t = some (.array n e)) (hct : P.cellsOf t = n) (hce : P.cellsOf e = 1) (hval : Value.okWide P W r b0 t v) (hd : DataW.Trod enc P w base sp held t v d ps) :
    ∃ cs : List Value, v = .agg cs.toArray ∧ cs.length = n ∧ ∀ (i : Nat) (c : Value), cs[i]? = some c → ∃ m y, DataW.trod enc P w base sp held m e [c] = some y := by
  unfold Value.okWide at hval
  rw [ht] at hval
  obtain ⟨cs, rfl, hsz, _⟩ := hval
  obtain ⟨fuel, hf⟩ := hd
  obtain ⟨xs, m, _, _, hl, hx, hi⟩ := DataW.trod_array ht hf
  have hn : cs.toList.length = n := by rw [Array.length_toList, hsz, hct]
  refine ⟨cs.toList, by simp, hn, fun i c hc => ?_⟩
  have hin : i < n := by rw [← hn]; exact (List.getElem?_eq_some_iff.1 hc).1
  have := hi i hin
  rw [hce, Nat.mul_one] at this
  have hc' : (Value.agg cs).cells.toList = cs.toList := by simp [Value.cells]
  rw [hc'] at this
  have e1 : (cs.toList.drop i).take 1 = [c] := by
    obtain ⟨h1, h2⟩ := List.getElem?_eq_some_iff.1 hc
    rw [List.drop_eq_getElem_cons h1, h2]; rfl
  rw [e1] at this
  have hxl : i < xs.length := by omega
  exact ⟨m, xs[i], by rw [this, List.getElem?_eq_getElem hxl]⟩
theorem open_str_cell {H : Type} {enc : TypeId × Value → H} {P : Program} {w : World} {base : Nat} {sp : Nat → Bool} {held : Bool} {e : TypeId} {c : Value} (he : P.underlying e = some .string) (h : ∃ m y, DataW.trod enc P w base sp held m e [c] = some y) : ∃ s : ByteArray, c = .string s ∧ s.size ≤ maxLen := by
  obtain ⟨m, y, h⟩ := h
  obtain ⟨s, hs, _, hw⟩ := DataW.trod_string he h
  exact ⟨s, by simpa using hs, hw⟩
theorem open_int_cell {H : Type} {enc : TypeId × Value → H} {P : Program} {w : World} {base : Nat} {sp : Nat → Bool} {held : Bool} {e : TypeId} {c : Value} {k : IntKind} (he : P.underlying e = some (.int k)) (h : ∃ m y, DataW.trod enc P w base sp held m e [c] = some y) : ∃ n : Int, c = .int k n ∧ (Lit.int k n).wf = true := by
  obtain ⟨m, y, h⟩ := h
  obtain ⟨n, hn, _, hw⟩ := DataW.trod_int he h
  exact ⟨n, by simpa using hn, hw⟩
/-- a struct of one-cell fields that came in by value -/
theorem open_struct_cells {H : Type} {enc : TypeId × Value → H} {P : Program} {w W : World} {r : Reach} {base b0 : Nat} {sp : Nat → Bool} {held : Bool} {t : TypeId} {fs : Array Field} {v : Value} {d : DataW H} {ps : List MemPlace}
    (hs : P.underlying t = some (.struct fs)) (hone : oneCellFields P fs = true) (hC : P.cellsOf t = fs.size) (hval : Value.okWide P W r b0 t v) (hd : DataW.Trod enc P w base sp held t v d ps) :
    ∃ cs : List Value, v = .agg cs.toArray ∧ cs.length = fs.size ∧ ∀ (j : Nat) (f : Field) (c : Value), fs[j]? = some f → cs[j]? = some c → ∃ m y, DataW.trod enc P w base sp held m f.type [c] = some y := by
  obtain ⟨cs, rfl, hsz⟩ := okWide_struct hs hval
  obtain ⟨fuel, hf⟩ := hd
  obtain ⟨xs, n, _, hx, _, hlen, hg⟩ := DataW.trod_struct hs hf
  have hn : cs.toList.length = fs.size := by rw [Array.length_toList, hsz, hC]
  refine ⟨cs.toList, by simp, hn, fun j f c hj hc => ?_⟩
  obtain ⟨ho, hk⟩ := hone_of hone j f hj
  have h1 := hg j f hj
  rw [ho, hk] at h1
  have hc' : (Value.agg cs).cells.toList = cs.toList := by simp [Value.cells]
  rw [hc'] at h1
  have e1 : (cs.toList.drop j).take 1 = [c] := by
    obtain ⟨h2, h3⟩ := List.getElem?_eq_some_iff.1 hc
    rw [List.drop_eq_getElem_cons h2, h3]; rfl
  rw [e1] at h1
  have hjl : j < fs.size := (Array.getElem?_eq_some_iff.1 hj).1
  exact ⟨n, _, h1.trans (List.getElem?_eq_getElem (show j < xs.length by omega))⟩
/-- a slice of numbers in a cell -/
theorem open_ints_cell {H : Type} {enc : TypeId × Value → H} {P : Program} {w : World} {held : Bool} {t e : TypeId} {k : IntKind} {c : Value} (ht : P.underlying t = some (.slice e)) (he : P.underlying e = some (.int k)) (hc1 : P.cellsOf e = 1)
    (h : ∃ m y, DataW.trod enc P w 0 (fun _ => true) held m t [c] = some y) : ∃ a len cap zs, c = .slice a len cap ∧ Row k w a len zs ∧ len ≤ cap ∧ cap ≤ maxLen ∧ ∀ n ∈ zs, (Lit.int k n).wf = true := by
  obtain ⟨m, y, h⟩ := h
  rcases open_ints ht he hc1 h with ⟨hcs, _⟩ | ⟨x, l, cap, zs, hcs, _, hl, hm, hz, _, hcell, hwz⟩
  · simp at hcs
    exact ⟨none, 0, 0, [], hcs, ⟨rfl, fun h => absurd h (by decide)⟩, Nat.le_refl _, by unfold maxLen; omega, by simp⟩
  · simp at hcs
    refine ⟨some x, l, cap, zs.take l, hcs, ⟨by simp at hz; simp; omega, fun hpos => ?_⟩, hl, hm, fun n hn => hwz n (List.mem_of_mem_take hn)⟩
    obtain ⟨b, off, spot⟩ := x
    have hzl : zs.length = cap := by simpa using hz
    have h0 := hcell 0 (by omega)
    have hs : spot = none := by simpa [Addr.add] using World.cell?_spot h0
    subst hs
    refine ⟨b, off, rfl, fun i hi => ?_⟩
    have := hcell i (by omega)
    rw [Addr.add_lit] at this
    rw [this]
    simp [List.getD, hi]
end Go.Proofs.YtflanjcfkdjpjaaGreatDoor

/- A slice of structs that came in, opened into its elements' cells. -/
namespace Go.Proofs.YtflanjcfkdjpjaaGreatDoor
open Go.ChangeShapes Go.WideShapes Go.RowKit Go.Deep
theorem open_structs {H : Type} {enc : TypeId × Value → H} {P : Program} {w : World} {held : Bool} {t e : TypeId} {fs : Array Field} {c : Value}
    (ht : P.underlying t = some (.slice e)) (he : P.underlying e = some (.struct fs)) (hone : oneCellFields P fs = true) (hC : P.cellsOf e = fs.size) (hpos : 0 < fs.size)
    (h : ∃ m y, DataW.trod enc P w 0 (fun _ => true) held m t [c] = some y) :
    ∃ a len cap, c = .slice a len cap ∧ len ≤ cap ∧ cap ≤ maxLen ∧ (0 < len → ∃ b off, a = some ⟨b, off, none⟩ ∧ ∀ i, i < len → ∀ (j : Nat) (f : Field), fs[j]? = some f →
      ∃ v, w.cell? ⟨b, off + (i * fs.size + j), none⟩ = some v ∧ ∃ m y, DataW.trod enc P w 0 (fun _ => true) held m f.type [v] = some y) := by
  obtain ⟨m, y, h⟩ := h
  rcases open_slice ht h with ⟨hcs, _⟩ | ⟨a, len, cap, m', n, D, Pl, hcs, _, hl, hm, hmm, _, hel⟩
  · simp at hcs
    exact ⟨none, 0, 0, hcs, Nat.le_refl _, by unfold maxLen; omega, fun h => absurd h (by decide)⟩
  · simp at hcs
    refine ⟨some a, len, cap, hcs, hl, hm, fun hlen => ?_⟩
    have hm' : m' = cap := by simpa using hmm
    have key : ∀ i, i < len → ∀ (j : Nat) (f : Field), fs[j]? = some f → ∃ v, w.cell? (a.add (i * fs.size + j)) = some v ∧ ∃ m y, DataW.trod enc P w 0 (fun _ => true) held m f.type [v] = some y := by
      intro i hi j f hj
      obtain ⟨cs, hcells, htr⟩ := hel i (by omega)
      rw [hC] at hcells
      obtain ⟨ys, k, _, _, _, hys, hg⟩ := DataW.trod_struct he htr
      obtain ⟨_, hcl, hat⟩ := World.cells?_some hcells
      obtain ⟨ho, hk⟩ := hone_of hone j f hj
      have hjl : j < fs.size := (Array.getElem?_eq_some_iff.1 hj).1
      have h1 := hg j f hj
      rw [ho, hk] at h1
      have hv : cs[j]? = some (cs[j]'(by omega)) := List.getElem?_eq_getElem (by omega)
      rw [show (cs.drop j).take 1 = [cs[j]'(by omega)] by rw [List.drop_eq_getElem_cons (by omega)]; rfl] at h1
      refine ⟨cs[j]'(by omega), ?_, k, _, h1.trans (List.getElem?_eq_getElem (show j < ys.length by omega))⟩
      have := hat j (by omega)
      rw [Go.Deep.add_add] at this
      rw [this, hv]
    obtain ⟨b, off, spot⟩ := a
    obtain ⟨v0, hv0, _⟩ := key 0 hlen 0 _ (Array.getElem?_eq_getElem hpos)
    have hs : spot = none := by simpa [Addr.add] using World.cell?_spot hv0
    subst hs
    refine ⟨b, off, rfl, fun i hi j f hj => ?_⟩
    obtain ⟨v, hv, hx⟩ := key i hi j f hj
    rw [Addr.add_lit] at hv
    exact ⟨v, hv, hx⟩
theorem open_bool_cell {H : Type} {enc : TypeId × Value → H} {P : Program} {w : World} {base : Nat} {sp : Nat → Bool} {held : Bool} {e : TypeId} {c : Value} (he : P.underlying e = some .bool) (h : ∃ m y, DataW.trod enc P w base sp held m e [c] = some y) : ∃ b : Bool, c = .bool b := by
  obtain ⟨m, y, h⟩ := h
  obtain ⟨b, hb, _⟩ := DataW.trod_bool he h
  exact ⟨b, by simpa using hb⟩
end Go.Proofs.YtflanjcfkdjpjaaGreatDoor

/- A slice of texts that came in, opened into its cells. -/
namespace Go.Proofs.YtflanjcfkdjpjaaGreatDoor
open Go.ChangeShapes Go.WideShapes Go.RowKit Go.Deep
/-- a slice's texts -/
def TextsAt (w : World) (a : Option Addr) (len : Nat) : Prop := 0 < len → ∃ b off, a = some ⟨b, off, none⟩ ∧ ∀ i, i < len → ∃ s : ByteArray, w.cell? ⟨b, off + i, none⟩ = some (.string s) ∧ s.size ≤ maxLen
theorem open_texts {H : Type} {enc : TypeId × Value → H} {P : Program} {w : World} {held : Bool} {t e : TypeId} {c : Value}
    (ht : P.underlying t = some (.slice e)) (he : P.underlying e = some .string) (hC : P.cellsOf e = 1)
    (h : ∃ m y, DataW.trod enc P w 0 (fun _ => true) held m t [c] = some y) :
    ∃ a len cap, c = .slice a len cap ∧ TextsAt w a len ∧ len ≤ cap ∧ cap ≤ maxLen := by
  obtain ⟨m, y, h⟩ := h
  rcases open_slice ht h with ⟨hcs, _⟩ | ⟨a, len, cap, m', n, D, Pl, hcs, _, hl, hm, hmm, _, hel⟩
  · simp at hcs
    exact ⟨none, 0, 0, hcs, fun h => absurd h (by decide), Nat.le_refl _, by unfold maxLen; omega⟩
  · simp at hcs
    refine ⟨some a, len, cap, hcs, fun hlen => ?_, hl, hm⟩
    have hm' : m' = cap := by simpa using hmm
    have key : ∀ i, i < len → ∃ s : ByteArray, w.cell? (a.add i) = some (.string s) ∧ s.size ≤ maxLen := by
      intro i hi
      obtain ⟨cs, hcells, htr⟩ := hel i (by omega)
      rw [hC, Nat.mul_one] at hcells
      obtain ⟨s, hs, _, hw⟩ := DataW.trod_string he htr
      obtain ⟨_, hcl, hat⟩ := World.cells?_some hcells
      have := hat 0 (by omega)
      rw [Go.Deep.add_add, Nat.add_zero] at this
      exact ⟨s, by rw [this, hs]; rfl, hw⟩
    obtain ⟨b, off, spot⟩ := a
    obtain ⟨v0, hv0, _⟩ := key 0 hlen
    have hs : spot = none := by simpa [Addr.add] using World.cell?_spot hv0
    subst hs
    refine ⟨b, off, rfl, fun i hi => ?_⟩
    obtain ⟨v, hv, hx⟩ := key i hi
    rw [Addr.add_lit] at hv
    exact ⟨v, hv, hx⟩
end Go.Proofs.YtflanjcfkdjpjaaGreatDoor

/- A slice of structs that came in, some of whose fields have several cells: the cells of those that have one. -/
namespace Go.Proofs.YtflanjcfkdjpjaaGreatDoor
open Go.ChangeShapes Go.WideShapes Go.RowKit Go.Deep
theorem open_structs_n {H : Type} {enc : TypeId × Value → H} {P : Program} {w : World} {held : Bool} {t e : TypeId} {fs : Array Field} {c : Value} (C : Nat) (f0 : Field)
    (ht : P.underlying t = some (.slice e)) (he : P.underlying e = some (.struct fs)) (hC : P.cellsOf e = C) (h0 : fs[0]? = some f0) (h01 : P.cellsOf f0.type = 1) (h00 : f0.offset = 0) (hpos : 0 < C)
    (h : ∃ m y, DataW.trod enc P w 0 (fun _ => true) held m t [c] = some y) :
    ∃ a len cap, c = .slice a len cap ∧ len ≤ cap ∧ cap ≤ maxLen ∧ (0 < len → ∃ b off, a = some ⟨b, off, none⟩ ∧ ∀ i, i < len → ∀ (j : Nat) (f : Field), fs[j]? = some f → P.cellsOf f.type = 1 → f.offset < C →
      ∃ v, w.cell? ⟨b, off + (i * C + f.offset), none⟩ = some v ∧ ∃ m y, DataW.trod enc P w 0 (fun _ => true) held m f.type [v] = some y) := by
  obtain ⟨m, y, h⟩ := h
  rcases open_slice ht h with ⟨hcs, _⟩ | ⟨a, len, cap, m', n, D, Pl, hcs, _, hl, hm, hmm, _, hel⟩
  · simp at hcs
    exact ⟨none, 0, 0, hcs, Nat.le_refl _, by unfold maxLen; omega, fun h => absurd h (by decide)⟩
  · simp at hcs
    refine ⟨some a, len, cap, hcs, hl, hm, fun hlen => ?_⟩
    have hm' : m' = cap := by simpa using hmm
    have key : ∀ i, i < len → ∀ (j : Nat) (f : Field), fs[j]? = some f → P.cellsOf f.type = 1 → f.offset < C → ∃ v, w.cell? (a.add (i * C + f.offset)) = some v ∧ ∃ m y, DataW.trod enc P w 0 (fun _ => true) held m f.type [v] = some y := by
      intro i hi j f hj hk ho
      obtain ⟨cs, hcells, htr⟩ := hel i (by omega)
      rw [hC] at hcells
      obtain ⟨ys, k, _, _, _, hys, hg⟩ := DataW.trod_struct he htr
      obtain ⟨_, hcl, hat⟩ := World.cells?_some hcells
      have hjl : j < fs.size := (Array.getElem?_eq_some_iff.1 hj).1
      have h1 := hg j f hj
      rw [hk] at h1
      have hv : cs[f.offset]? = some (cs[f.offset]'(by omega)) := List.getElem?_eq_getElem (by omega)
      rw [show (cs.drop f.offset).take 1 = [cs[f.offset]'(by omega)] by rw [List.drop_eq_getElem_cons (by omega)]; rfl] at h1
      refine ⟨cs[f.offset]'(by omega), ?_, k, _, h1.trans (List.getElem?_eq_getElem (show j < ys.length by omega))⟩
      have := hat f.offset (by omega)
      rw [Go.Deep.add_add] at this
      rw [this, hv]
    obtain ⟨b, off, spot⟩ := a
    obtain ⟨v0, hv0, _⟩ := key 0 hlen 0 f0 h0 h01 (by omega)
    have hs : spot = none := by simpa [Addr.add, h00] using World.cell?_spot hv0
    subst hs
    refine ⟨b, off, rfl, fun i hi j f hj h1 h2 => ?_⟩
    obtain ⟨v, hv, hx⟩ := key i hi j f hj h1 h2
    rw [Addr.add_lit] at hv
    exact ⟨v, hv, hx⟩
end Go.Proofs.YtflanjcfkdjpjaaGreatDoor

