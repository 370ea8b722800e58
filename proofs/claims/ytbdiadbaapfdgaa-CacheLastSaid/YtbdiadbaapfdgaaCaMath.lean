/- Layer 11 (cache): heaps, as arithmetic: which orders are kept, and what a swap does. -/
import Derived.WalkKit
namespace Go.Proofs.Ytbdiadbaapfdgaa.Ca
set_option linter.unusedVariables false

/-- a heap of n numbers -/
def IsH (n : Nat) (k : Nat → Nat) : Prop := ∀ j, 0 < j → j < n → k ((j - 1) / 2) ≤ k j
/-- one, but what stands at i may be too large -/
structure DnAt (n : Nat) (k : Nat → Nat) (i : Nat) : Prop where
  edge : ∀ j, 0 < j → j < n → (j - 1) / 2 ≠ i → j ≠ i → k ((j - 1) / 2) ≤ k j
  far : ∀ j, 0 < i → 0 < j → j < n → (j - 1) / 2 = i → k ((i - 1) / 2) ≤ k j
/-- one, but what stands at i may be too small -/
structure UpAt (n : Nat) (k : Nat → Nat) (i : Nat) : Prop where
  edge : ∀ j, 0 < j → j < n → j ≠ i → k ((j - 1) / 2) ≤ k j
  far : ∀ j, 0 < i → 0 < j → j < n → (j - 1) / 2 = i → k ((i - 1) / 2) ≤ k j
def swpK (k : Nat → Nat) (i j : Nat) : Nat → Nat := fun x => if x = i then k j else if x = j then k i else k x
section
variable {n i j : Nat} {k k' : Nat → Nat}
theorem IsH.dn (h : IsH n k) (hk : ∀ x, x < n → x ≠ i → k' x = k x) (hi : i < n) : DnAt n k' i := by
  refine ⟨fun j h0 h1 h2 h3 => ?_, fun j hi0 h0 h1 h2 => ?_⟩
  · rw [hk _ (by omega) h2, hk _ h1 h3]; exact h j h0 h1
  · have e1 := h j h0 h1
    have e2 := h i hi0 hi
    rw [h2] at e1
    rw [hk _ (by omega) (by omega), hk _ h1 (by omega)]
    exact Nat.le_trans e2 e1
theorem IsH.push (h : IsH n k) (hk : ∀ x, x < n → k' x = k x) : UpAt (n + 1) k' n := by
  refine ⟨fun j h0 h1 h2 => ?_, fun j hi0 h0 h1 h2 => by omega⟩
  rw [hk _ (by omega), hk _ (by omega)]; exact h j h0 (by omega)
theorem IsH.cut {m : Nat} (h : IsH n k) (hm : m ≤ n) : IsH m k := fun j h0 h1 => h j h0 (by omega)
theorem IsH.ext (h : IsH n k) (hk : ∀ x, x < n → k' x = k x) : IsH n k' := fun j h0 h1 => by rw [hk _ (by omega), hk _ h1]; exact h j h0 h1
theorem DnAt.up (h : DnAt n k i) (hs : ∀ j, 0 < j → j < n → (j - 1) / 2 = i → k i ≤ k j) : UpAt n k i := by
  refine ⟨fun j h0 h1 h2 => ?_, h.far⟩
  by_cases e : (j - 1) / 2 = i
  · rw [e]; exact hs j h0 h1 e
  · exact h.edge j h0 h1 e h2
theorem UpAt.heap (h : UpAt n k i) (hs : 0 < i → k ((i - 1) / 2) ≤ k i) : IsH n k := fun j h0 h1 => by
  by_cases e : j = i
  · subst e; exact hs h0
  · exact h.edge j h0 h1 e
theorem DnAt.step (h : DnAt n k i) (hj0 : 0 < j) (hj : j < n) (hp : (j - 1) / 2 = i) (hs : ∀ c, 0 < c → c < n → (c - 1) / 2 = i → k j ≤ k c) (hl : k j < k i) : DnAt n (swpK k i j) j ∧ swpK k i j ((j - 1) / 2) ≤ swpK k i j j := by
  have hij : i ≠ j := by omega
  refine ⟨⟨fun c h0 h1 h2 h3 => ?_, fun c _ h0 h1 h2 => ?_⟩, ?_⟩
  · unfold swpK
    by_cases e : c = i
    · subst e
      rw [if_pos rfl, if_neg (by omega), if_neg (by omega)]
      exact h.far j h0 hj0 hj hp
    · rw [if_neg e, if_neg h3]
      by_cases e2 : (c - 1) / 2 = i
      · rw [if_pos e2]; exact hs c h0 h1 e2
      · rw [if_neg e2, if_neg h2]; exact h.edge c h0 h1 e2 e
  · unfold swpK
    rw [hp, if_pos rfl, if_neg (by omega), if_neg (by omega)]
    have := h.edge c h0 h1 (by omega) (by omega)
    rwa [h2] at this
  · unfold swpK
    rw [hp, if_pos rfl, if_neg (Ne.symm hij), if_pos rfl]; omega
theorem UpAt.step (h : UpAt n k i) (hi0 : 0 < i) (hi : i < n) (hl : k i < k ((i - 1) / 2)) : UpAt n (swpK k ((i - 1) / 2) i) ((i - 1) / 2) := by
  obtain ⟨p, hp⟩ : ∃ p, p = (i - 1) / 2 := ⟨_, rfl⟩
  rw [← hp] at hl ⊢
  have hpi : p ≠ i := by omega
  refine ⟨fun c h0 h1 h2 => ?_, fun c hp0 h0 h1 h2 => ?_⟩
  · unfold swpK
    by_cases e : c = i
    · subst e; rw [← hp, if_pos rfl, if_neg h2, if_pos rfl]; omega
    · rw [if_neg h2, if_neg e]
      have hc := h.edge c h0 h1 e
      by_cases e2 : (c - 1) / 2 = p
      · rw [if_pos e2]; rw [e2] at hc; omega
      · rw [if_neg e2]
        by_cases e3 : (c - 1) / 2 = i
        · rw [if_pos e3, hp]; exact h.far c hi0 h0 h1 e3
        · rw [if_neg e3]; exact hc
  · unfold swpK
    have hpp := h.edge p hp0 (by omega) hpi
    rw [if_neg (show ¬ (p - 1) / 2 = p by omega), if_neg (show ¬ (p - 1) / 2 = i by omega), if_neg (show ¬ c = p by omega)]
    by_cases e : c = i
    · rw [if_pos e]; exact hpp
    · rw [if_neg e]
      have hc := h.edge c h0 h1 e
      rw [h2] at hc; omega
theorem IsH.least (h : IsH n k) : ∀ j, j < n → k 0 ≤ k j := by
  intro j
  induction j using Nat.strongRecOn with
  | ind j ih =>
    intro hj
    by_cases e : j = 0
    · subst e; exact Nat.le_refl _
    · exact Nat.le_trans (ih ((j - 1) / 2) (by omega) (by omega)) (h j (by omega) hj)
end
/-! ### slots -/
structure Sl where
  addr : Int
  gen : Int
  sum : Int
  kind : Int
  pay : ByteArray
  use : Nat
  blk : Nat
def Sl.none : Sl := ⟨0, 0, 0, 0, ⟨#[]⟩, 0, 0⟩
abbrev sg (l : List Sl) (i : Nat) : Sl := l.getD i Sl.none
theorem sg_eq {l : List Sl} {i : Nat} (h : i < l.length) : sg l i = l[i] := by rw [sg, List.getD_eq_getElem?_getD, List.getElem?_eq_getElem h]; rfl
theorem sg_mem {l : List Sl} {i : Nat} (h : i < l.length) : sg l i ∈ l := by rw [sg_eq h]; exact List.getElem_mem h
theorem mem_sg {l : List Sl} {s : Sl} (h : s ∈ l) : ∃ i, i < l.length ∧ sg l i = s := by
  obtain ⟨i, hi, e⟩ := List.getElem_of_mem h
  exact ⟨i, hi, by rw [sg_eq hi, e]⟩
abbrev useK (l : List Sl) : Nat → Nat := fun i => (sg l i).use
def swpL (l : List Sl) (i j : Nat) : List Sl := (l.set i (sg l j)).set j (sg l i)
section
variable {l : List Sl} {i j : Nat}
theorem swpL_length : (swpL l i j).length = l.length := by simp [swpL]
theorem swpL_get (hi : i < l.length) (hj : j < l.length) (x : Nat) : sg (swpL l i j) x = if x = i then sg l j else if x = j then sg l i else sg l x := by
  unfold swpL sg
  simp only [List.getD_eq_getElem?_getD]
  by_cases e2 : x = j
  · subst e2
    rw [List.getElem?_set_self (by simpa using hj)]
    by_cases e1 : x = i
    · subst e1; rw [if_pos rfl]; rfl
    · rw [if_neg e1, if_pos rfl]; rfl
  · rw [List.getElem?_set_ne (fun c => e2 c.symm)]
    by_cases e1 : x = i
    · subst e1; rw [List.getElem?_set_self hi, if_pos rfl]; rfl
    · rw [List.getElem?_set_ne (fun c => e1 c.symm), if_neg e1, if_neg e2]
theorem swpL_use (hi : i < l.length) (hj : j < l.length) : useK (swpL l i j) = swpK (useK l) i j := by
  funext x
  unfold useK swpK
  rw [swpL_get hi hj]
  by_cases e1 : x = i
  · rw [if_pos e1, if_pos e1]
  · rw [if_neg e1, if_neg e1]
    by_cases e2 : x = j
    · rw [if_pos e2, if_pos e2]
    · rw [if_neg e2, if_neg e2]
theorem swpL_perm (hi : i < l.length) (hj : j < l.length) : (swpL l i j).Perm l := by
  unfold swpL
  rw [sg_eq hi, sg_eq hj]
  exact List.set_set_perm hi hj
end
end Go.Proofs.Ytbdiadbaapfdgaa.Ca
