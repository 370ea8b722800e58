/- An array that came in, opened into its elements. -/
import Derived.OpenShut
import Derived.ChangeOld
import Derived.Below
namespace Go.Proofs.Ytcaibndlchkecaa
open Go.ChangeShapes Go.WideShapes
theorem open_arr {H : Type} {enc : TypeId × Value → H} {P : Program} {w W : World} {r : Reach} {base b0 : Nat} {sp : Nat → Bool} {held : Bool} {t e : TypeId} {n : Nat} {v : Value} {d : DataW H} {ps : List MemPlace}
    (ht : P.underlying t = some (.array n e)) (hct : P.cellsOf t = n) (hce : P.cellsOf e = 1) (hval : Value.okWide P W r b0 t v) (hd : DataW.Trod enc P w base sp held t v d ps) :
    ∃ cs : List Value, v = .agg cs.toArray ∧ cs.length = n ∧ ∀ (i : Nat) (c : Value), cs[i]? = some c → ∃ m y, DataW.trod enc P w base sp held m e [c] = some y := by
  unfold Value.okWide at hval
  rw [ht] at hval
  obtain ⟨cs, rfl, hsz, _⟩ := hval
  obtain ⟨fuel, hf⟩ := hd
  obtain ⟨xs, m, _, _, hl, hx, hi⟩ := DataW.trod_array ht hf
  have hn : cs.toList.length = n := by rw [Array.length_toList, hsz, hct]
  refine ⟨cs.toList, by simp, hn, fun i c hc => ?_⟩
  have hin : i < n := by rw [← hn]; exact (List.getElem?_eq_some_iff.1 hc).1
  have := hi i hin
  rw [hce, Nat.mul_one] at this
  have hc' : (Value.agg cs).cells.toList = cs.toList := by simp [Value.cells]
  rw [hc'] at this
  have e1 : (cs.toList.drop i).take 1 = [c] := by
    obtain ⟨h1, h2⟩ := List.getElem?_eq_some_iff.1 hc
    rw [List.drop_eq_getElem_cons h1, h2]; rfl
  rw [e1] at this
  have hxl : i < xs.length := by omega
  exact ⟨m, xs[i], by rw [this, List.getElem?_eq_getElem hxl]⟩
theorem open_str_cell {H : Type} {enc : TypeId × Value → H} {P : Program} {w : World} {base : Nat} {sp : Nat → Bool} {held : Bool} {e : TypeId} {c : Value} (he : P.underlying e = some .string) (h : ∃ m y, DataW.trod enc P w base sp held m e [c] = some y) : ∃ s : ByteArray, c = .string s ∧ s.size ≤ maxLen := by
  obtain ⟨m, y, h⟩ := h
  obtain ⟨s, hs, _, hw⟩ := DataW.trod_string he h
  exact ⟨s, by simpa using hs, hw⟩
theorem open_int_cell {H : Type} {enc : TypeId × Value → H} {P : Program} {w : World} {base : Nat} {sp : Nat → Bool} {held : Bool} {e : TypeId} {c : Value} {k : IntKind} (he : P.underlying e = some (.int k)) (h : ∃ m y, DataW.trod enc P w base sp held m e [c] = some y) : ∃ n : Int, c = .int k n ∧ (Lit.int k n).wf = true := by
  obtain ⟨m, y, h⟩ := h
  obtain ⟨n, hn, _, hw⟩ := DataW.trod_int he h
  exact ⟨n, by simpa using hn, hw⟩
end Go.Proofs.Ytcaibndlchkecaa
