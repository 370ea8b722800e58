/- Plain mathematics of layer 9 (bits): sets of numbers, as lists of bools. -/
import Derived.Test.YtkflccecdjfkiaaDoorBools
namespace Go.Proofs.YtkflccecdjfkiaaDoor.Bit
open Go.RowKit Go.Proofs.YtkflccecdjfkiaaDoor

def mayS (n : Int) : Bool := decide (1 ≤ n) && decide (n ≤ 4096)
theorem mayS_of {n : Int} (h1 : 1 ≤ n) (h2 : n ≤ 4096) : mayS n = true := by simp [mayS, h1, h2]
theorem mayS_no {n : Int} (h : n < 1 ∨ 4096 < n) : mayS n = false := by simp only [mayS, Bool.and_eq_false_iff, decide_eq_false_iff_not]; omega
theorem mayS_bd {n : Int} (h : mayS n = true) : 1 ≤ n ∧ n ≤ 4096 := by simpa [mayS] using h
/-- is the number of it? -/
def inB (l : List Bool) (k : Int) : Bool := decide (0 ≤ k ∧ k < l.length)
def hasL (l : List Bool) (k : Int) : Bool := if inB l k = true then bg l k.toNat else false
def putL (l : List Bool) (k : Int) (is : Bool) : List Bool := if inB l k = true then l.set k.toNat is else l
theorem inB_yes {l : List Bool} {k : Int} (h0 : 0 ≤ k) (h1 : k < l.length) : inB l k = true := by simp [inB, h0, h1]
theorem inB_no {l : List Bool} {k : Int} (h : k < 0 ∨ l.length ≤ k) : inB l k = false := by simp [inB]; omega
theorem hasL_in {l : List Bool} {k : Nat} (h : k < l.length) : hasL l k = bg l k := by rw [hasL, if_pos (inB_yes (by omega) (by omega)), Int.toNat_natCast]
theorem hasL_out {l : List Bool} {k : Int} (h : k < 0 ∨ l.length ≤ k) : hasL l k = false := by rw [hasL, if_neg (by rw [inB_no h]; decide)]
theorem putL_length (l : List Bool) (k : Int) (is : Bool) : (putL l k is).length = l.length := by unfold putL; split <;> simp
theorem putL_in {l : List Bool} {k : Nat} (h : k < l.length) (is : Bool) : putL l k is = l.set k is := by rw [putL, if_pos (inB_yes (by omega) (by omega)), Int.toNat_natCast]
theorem putL_out {l : List Bool} {k : Int} (h : k < 0 ∨ l.length ≤ k) (is : Bool) : putL l k is = l := by rw [putL, if_neg (by rw [inB_no h]; decide)]
theorem putL_get (l : List Bool) (k : Int) (is : Bool) (i : Nat) (hi : i < l.length) : bg (putL l k is) i = if (i : Int) = k then is else bg l i := by
  unfold putL
  by_cases h : inB l k = true
  · rw [if_pos h]
    have hk : 0 ≤ k ∧ k < l.length := by simpa [inB] using h
    by_cases e : (i : Int) = k
    · rw [if_pos e, bg, List.getD_eq_getElem?_getD, show k.toNat = i by omega, List.getElem?_set_self hi]; rfl
    · rw [if_neg e, bg, List.getD_eq_getElem?_getD, List.getElem?_set_ne (by omega), ← List.getD_eq_getElem?_getD]; rfl
  · rw [if_neg h]
    have hk : ¬ (0 ≤ k ∧ k < l.length) := by simpa [inB] using h
    rw [if_neg (by omega)]
/-- the first one of a kind, from a number on -/
def nextO (l : List Bool) (f : Int) (is : Bool) : Option Nat := (List.range l.length).find? fun i => decide (f ≤ (i : Int)) && (bg l i == is)
def nextN (l : List Bool) (f : Int) (is : Bool) : Int := ((nextO l f is).getD 0 : Nat)
def nextB (l : List Bool) (f : Int) (is : Bool) : Bool := (nextO l f is).isSome
theorem next_some {l : List Bool} {f : Int} {is : Bool} {i : Nat} (hi : i < l.length) (h1 : f ≤ (i : Int)) (h2 : bg l i = is) (h3 : ∀ j : Nat, j < i → f ≤ (j : Int) → bg l j ≠ is) : nextO l f is = some i := by
  unfold nextO
  rw [List.find?_range_eq_some]
  refine ⟨by simp [h1, h2], by simpa using hi, fun j hj => ?_⟩
  by_cases hf : f ≤ (j : Int)
  · have := h3 j hj hf; simp [hf, this]
  · simp [hf]
theorem next_none {l : List Bool} {f : Int} {is : Bool} (h3 : ∀ j : Nat, j < l.length → f ≤ (j : Int) → bg l j ≠ is) : nextO l f is = none := by
  unfold nextO
  rw [List.find?_range_eq_none]
  intro j hj
  by_cases hf : f ≤ (j : Int)
  · have := h3 j hj hf; simp [hf, this]
  · simp [hf]
theorem next_is {l : List Bool} {f : Int} {is : Bool} {i : Nat} (h : nextO l f is = some i) : i < l.length ∧ f ≤ (i : Int) ∧ bg l i = is ∧ ∀ j : Nat, j < i → f ≤ (j : Int) → bg l j ≠ is := by
  unfold nextO at h
  rw [List.find?_range_eq_some] at h
  obtain ⟨h1, h2, h3⟩ := h
  simp only [Bool.and_eq_true, decide_eq_true_eq, beq_iff_eq] at h1
  refine ⟨by simpa using h2, h1.1, h1.2, fun j hj hf => ?_⟩
  have := h3 j hj
  simpa [hf] using this
theorem next_isn {l : List Bool} {f : Int} {is : Bool} (h : nextO l f is = none) : ∀ j : Nat, j < l.length → f ≤ (j : Int) → bg l j ≠ is := by
  unfold nextO at h
  rw [List.find?_range_eq_none] at h
  intro j hj hf
  simpa [hf] using h j hj
theorem next_yes {l : List Bool} {f : Int} {is : Bool} {i : Nat} (h : nextO l f is = some i) : nextN l f is = i ∧ nextB l f is = true := by rw [nextN, nextB, h]; exact ⟨rfl, rfl⟩
theorem next_no {l : List Bool} {f : Int} {is : Bool} (h : nextO l f is = none) : nextN l f is = 0 ∧ nextB l f is = false := by rw [nextN, nextB, h]; exact ⟨rfl, rfl⟩
theorem nextN_bd (l : List Bool) (f : Int) (is : Bool) : 0 ≤ nextN l f is ∧ nextN l f is ≤ l.length := by
  cases h : nextO l f is with
  | none => rw [(next_no h).1]; omega
  | some i => rw [(next_yes h).1]; have := (next_is h).1; omega
/-- all that are -/
def lstL (j : Nat) (l : List Bool) : List Int := ((List.range j).filter fun (i : Nat) => bg l i).map fun (i : Nat) => (i : Int)
def cntL (l : List Bool) : Nat := (lstL l.length l).length
theorem lst_succ (j : Nat) (l : List Bool) : lstL (j + 1) l = if bg l j = true then lstL j l ++ [(j : Int)] else lstL j l := by
  unfold lstL; rw [List.range_succ, List.filter_append, List.map_append]
  by_cases h : bg l j = true
  · rw [if_pos h]; simp only [List.filter_cons, h, if_true]; rfl
  · have h' : bg l j = false := by simpa using h
    rw [if_neg h]; simp only [List.filter_cons, h', Bool.false_eq_true, if_false]; simp
theorem lst_le (j : Nat) (l : List Bool) : (lstL j l).length ≤ j := by
  unfold lstL; rw [List.length_map]; exact Nat.le_trans (List.length_filter_le _ _) (by simp)
theorem lst_mono (l : List Bool) (j : Nat) : ∀ c, ∃ r, lstL (j + c) l = lstL j l ++ r
  | 0 => ⟨[], by simp⟩
  | c + 1 => by
    obtain ⟨r, hr⟩ := lst_mono l j c
    rw [← Nat.add_assoc, lst_succ]
    split
    · exact ⟨r ++ [((j + c : Nat) : Int)], by rw [hr, List.append_assoc]⟩
    · exact ⟨r, hr⟩
theorem lst_at {l : List Bool} {j N : Nat} (hj : j < N) (h : bg l j = true) : (lstL j l).length < (lstL N l).length ∧ (lstL N l).getD (lstL j l).length 0 = j := by
  obtain ⟨r, hr⟩ := lst_mono l (j + 1) (N - (j + 1))
  rw [show j + 1 + (N - (j + 1)) = N by omega, lst_succ, if_pos h] at hr
  rw [hr]; simp
theorem cnt_le (l : List Bool) : cntL l ≤ l.length := lst_le _ _
/-- the list that Put tells, by its first ones -/
theorem putL_take (l : List Bool) (k : Int) (is : Bool) (i : Nat) (hi : i < l.length) : (putL l k is).take (i + 1) = (putL l k is).take i ++ [if (i : Int) = k then is else bg l i] := by
  have hl : i < (putL l k is).length := by rw [putL_length]; exact hi
  rw [List.take_succ_eq_append_getElem hl]
  congr 2
  have := putL_get l k is i hi
  rw [bg, List.getD_eq_getElem?_getD, List.getElem?_eq_getElem hl] at this
  simpa using this
end Go.Proofs.YtkflccecdjfkiaaDoor.Bit
