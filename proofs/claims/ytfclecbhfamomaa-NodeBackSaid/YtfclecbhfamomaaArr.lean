/- An array that came in, opened into its elements. -/
import Derived.OpenShut
import Derived.ChangeOld
import Derived.Below
import Derived.Deep.Fields
import Derived.Test.YtfclecbhfamomaaBase
namespace Go.Proofs.Ytfclecbhfamomaa
open Go.ChangeShapes Go.WideShapes Go.RowKit Go.Deep
theorem open_arr {H : Type} {enc : TypeId × Value → H} {P : Program} {w W : World} {r : Reach} {base b0 : Nat} {sp : Nat → Bool} {held : Bool} {t e : TypeId} {n : Nat} {v : Value} {d : DataW H} {ps : List MemPlace}
    (ht : P.underlying t = some (.array n e)) (hct : P.cellsOf t = n) (hce : P.cellsOf e = 1) (hval : Value.okWide P W r b0 t v) (hd : DataW.Trod enc P w base sp held t v d ps) :
    ∃ cs : List Value, v = .agg cs.toArray ∧ cs.length = n ∧ ∀ (i : Nat) (c : Value), cs[i]? = some c → ∃ m y, DataW.trod enc P w base sp held m e [c] = some y := by
  unfold Value.okWide at hval
  rw [ht] at hval
  obtain ⟨cs, rfl, hsz, _⟩ := hval
  obtain ⟨fuel, hf⟩ := hd
  obtain ⟨xs, m, _, _, hl, hx, hi⟩ := DataW.trod_array ht hf
  have hn : cs.toList.length = n := by rw [Array.length_toList, hsz, hct]
  refine ⟨cs.toList, by simp, hn, fun i c hc => ?_⟩
  have hin : i < n := by rw [← hn]; exact (List.getElem?_eq_some_iff.1 hc).1
  have := hi i hin
  rw [hce, Nat.mul_one] at this
  have hc' : (Value.agg cs).cells.toList = cs.toList := by simp [Value.cells]
  rw [hc'] at this
  have e1 : (cs.toList.drop i).take 1 = [c] := by
    obtain ⟨h1, h2⟩ := List.getElem?_eq_some_iff.1 hc
    rw [List.drop_eq_getElem_cons h1, h2]; rfl
  rw [e1] at this
  have hxl : i < xs.length := by omega
  exact ⟨m, xs[i], by rw [this, List.getElem?_eq_getElem hxl]⟩
theorem open_str_cell {H : Type} {enc : TypeId × Value → H} {P : Program} {w : World} {base : Nat} {sp : Nat → Bool} {held : Bool} {e : TypeId} {c : Value} (he : P.underlying e = some .string) (h : ∃ m y, DataW.trod enc P w base sp held m e [c] = some y) : ∃ s : ByteArray, c = .string s ∧ s.size ≤ maxLen := by
  obtain ⟨m, y, h⟩ := h
  obtain ⟨s, hs, _, hw⟩ := DataW.trod_string he h
  exact ⟨s, by simpa using hs, hw⟩
theorem open_int_cell {H : Type} {enc : TypeId × Value → H} {P : Program} {w : World} {base : Nat} {sp : Nat → Bool} {held : Bool} {e : TypeId} {c : Value} {k : IntKind} (he : P.underlying e = some (.int k)) (h : ∃ m y, DataW.trod enc P w base sp held m e [c] = some y) : ∃ n : Int, c = .int k n ∧ (Lit.int k n).wf = true := by
  obtain ⟨m, y, h⟩ := h
  obtain ⟨n, hn, _, hw⟩ := DataW.trod_int he h
  exact ⟨n, by simpa using hn, hw⟩
/-- a struct of one-cell fields that came in by value -/
theorem open_struct_cells {H : Type} {enc : TypeId × Value → H} {P : Program} {w W : World} {r : Reach} {base b0 : Nat} {sp : Nat → Bool} {held : Bool} {t : TypeId} {fs : Array Field} {v : Value} {d : DataW H} {ps : List MemPlace}
    (hs : P.underlying t = some (.struct fs)) (hone : oneCellFields P fs = true) (hC : P.cellsOf t = fs.size) (hval : Value.okWide P W r b0 t v) (hd : DataW.Trod enc P w base sp held t v d ps) :
    ∃ cs : List Value, v = .agg cs.toArray ∧ cs.length = fs.size ∧ ∀ (j : Nat) (f : Field) (c : Value), fs[j]? = some f → cs[j]? = some c → ∃ m y, DataW.trod enc P w base sp held m f.type [c] = some y := by
  obtain ⟨cs, rfl, hsz⟩ := okWide_struct hs hval
  obtain ⟨fuel, hf⟩ := hd
  obtain ⟨xs, n, _, hx, _, hlen, hg⟩ := DataW.trod_struct hs hf
  have hn : cs.toList.length = fs.size := by rw [Array.length_toList, hsz, hC]
  refine ⟨cs.toList, by simp, hn, fun j f c hj hc => ?_⟩
  obtain ⟨ho, hk⟩ := hone_of hone j f hj
  have h1 := hg j f hj
  rw [ho, hk] at h1
  have hc' : (Value.agg cs).cells.toList = cs.toList := by simp [Value.cells]
  rw [hc'] at h1
  have e1 : (cs.toList.drop j).take 1 = [c] := by
    obtain ⟨h2, h3⟩ := List.getElem?_eq_some_iff.1 hc
    rw [List.drop_eq_getElem_cons h2, h3]; rfl
  rw [e1] at h1
  have hjl : j < fs.size := (Array.getElem?_eq_some_iff.1 hj).1
  exact ⟨n, _, h1.trans (List.getElem?_eq_getElem (show j < xs.length by omega))⟩
/-- a slice of numbers in a cell -/
theorem open_ints_cell {H : Type} {enc : TypeId × Value → H} {P : Program} {w : World} {held : Bool} {t e : TypeId} {k : IntKind} {c : Value} (ht : P.underlying t = some (.slice e)) (he : P.underlying e = some (.int k)) (hc1 : P.cellsOf e = 1)
    (h : ∃ m y, DataW.trod enc P w 0 (fun _ => true) held m t [c] = some y) : ∃ a len cap zs, c = .slice a len cap ∧ Row k w a len zs ∧ len ≤ cap ∧ cap ≤ maxLen ∧ ∀ n ∈ zs, (Lit.int k n).wf = true := by
  obtain ⟨m, y, h⟩ := h
  rcases open_ints ht he hc1 h with ⟨hcs, _⟩ | ⟨x, l, cap, zs, hcs, _, hl, hm, hz, _, hcell, hwz⟩
  · simp at hcs
    exact ⟨none, 0, 0, [], hcs, ⟨rfl, fun h => absurd h (by decide)⟩, Nat.le_refl _, by unfold maxLen; omega, by simp⟩
  · simp at hcs
    refine ⟨some x, l, cap, zs.take l, hcs, ⟨by simp at hz; simp; omega, fun hpos => ?_⟩, hl, hm, fun n hn => hwz n (List.mem_of_mem_take hn)⟩
    obtain ⟨b, off, spot⟩ := x
    have hzl : zs.length = cap := by simpa using hz
    have h0 := hcell 0 (by omega)
    have hs : spot = none := by simpa [Addr.add] using World.cell?_spot h0
    subst hs
    refine ⟨b, off, rfl, fun i hi => ?_⟩
    have := hcell i (by omega)
    rw [Addr.add_lit] at this
    rw [this]
    simp [List.getD, hi]
end Go.Proofs.Ytfclecbhfamomaa
