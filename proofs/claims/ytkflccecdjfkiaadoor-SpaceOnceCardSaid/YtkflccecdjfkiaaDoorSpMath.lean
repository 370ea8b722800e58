/- Plain mathematics of layer 10 (space). -/
import Derived.Test.YtkflccecdjfkiaaDoorBitMath
namespace Go.Proofs.YtkflccecdjfkiaaDoor.Spc
open Go.RowKit Go.Proofs.YtkflccecdjfkiaaDoor Go.Proofs.YtkflccecdjfkiaaDoor.Bit

def mayP (n f g l : Int) : Bool := decide (1 ≤ n) && (decide (n ≤ 4096) && (decide (0 ≤ f) && (decide (f < n) && decide (g ≤ l))))
theorem mayP_of {n f g l : Int} (h1 : 1 ≤ n) (h2 : n ≤ 4096) (h3 : 0 ≤ f) (h4 : f < n) (h5 : g ≤ l) : mayP n f g l = true := by simp [mayP, h1, h2, h3, h4, h5]
theorem mayP_bd {n f g l : Int} (h : mayP n f g l = true) : 1 ≤ n ∧ n ≤ 4096 ∧ 0 ≤ f ∧ f < n ∧ g ≤ l := by
  simp only [mayP, Bool.and_eq_true, decide_eq_true_eq] at h; omega
/-- a space, as plain data -/
structure Sp where
  used : List Bool
  taken : List Bool
  given : List Bool
  first : Nat
  gen : Int
  last : Int
def noneL (n : Nat) : List Bool := List.replicate n false
def Sp.fresh (n f : Nat) (g l : Int) : Sp := ⟨(List.range n).map fun i => decide (i < f), noneL n, noneL n, f, g, l⟩
structure Sp.Ok (S : Sp) : Prop where
  n1 : 1 ≤ S.used.length
  n2 : S.used.length ≤ 4096
  tl : S.taken.length = S.used.length
  gl : S.given.length = S.used.length
  fl : S.first < S.used.length
  g0 : 0 ≤ S.gen
  le : S.gen ≤ S.last
  lb : S.last < 18446744073709551616
theorem fresh_ok {n f : Nat} {g l : Int} (h : mayP n f g l = true) (h0 : 0 ≤ g) (hl : l < 18446744073709551616) : (Sp.fresh n f g l).Ok := by
  obtain ⟨h1, h2, h3, h4, h5⟩ := mayP_bd h
  have hn : (Sp.fresh n f g l).used.length = n := by simp [Sp.fresh]
  exact ⟨by rw [hn]; omega, by rw [hn]; omega, by rw [hn]; simp [Sp.fresh, noneL], by rw [hn]; simp [Sp.fresh, noneL], by rw [hn]; show f < n; omega, h0, h5, hl⟩
def outB (S : Sp) (k : Int) : Bool := decide (k < S.first) || decide ((S.used.length : Int) ≤ k)
def useE (S : Sp) (k : Int) : Int := if outB S k = true then 3 else if hasL S.used k = true then 19 else 0
def Sp.use (S : Sp) (k : Int) : Sp := if useE S k = 0 then { S with used := putL S.used k true } else S
def takeO (S : Sp) : Option Nat := nextO S.used 0 false
def takeN (S : Sp) : Int := ((takeO S).getD 0 : Nat)
def takeE (S : Sp) : Int := if (takeO S).isSome = true then 0 else 11
def Sp.take (S : Sp) : Sp := match takeO S with | some k => { S with used := putL S.used (k : Nat) true, taken := putL S.taken (k : Nat) true } | none => S
def giveE (S : Sp) (k : Int) : Int := if outB S k = true then 3 else if hasL S.used k = false then 15 else if hasL S.given k = true then 19 else 0
def Sp.give (S : Sp) (k : Int) : Sp := if giveE S k = 0 then { S with given := putL S.given k true } else S
/-- those of l that aren't of m -/
def minusL (l m : List Bool) : List Bool := (List.range l.length).map fun i => bg l i && !bg m i
theorem minusL_length (l m : List Bool) : (minusL l m).length = l.length := by simp [minusL]
def Sp.begun (S : Sp) : Sp := { S with taken := noneL S.used.length, given := noneL S.used.length }
def Sp.settle (S : Sp) : Sp := ({ S with used := minusL S.used S.given } : Sp).begun
def Sp.undo (S : Sp) : Sp := ({ S with used := minusL S.used S.taken } : Sp).begun
def stepE (S : Sp) : Int := if S.gen < S.last then 0 else 12
def stepN (S : Sp) : Int := if S.gen < S.last then S.gen + 1 else 0
def Sp.step (S : Sp) : Sp := if S.gen < S.last then { S with gen := S.gen + 1 } else S
def freeN (S : Sp) : Int := (S.used.length : Int) - (cntL S.used : Int)
theorem Sp.Ok.use {S : Sp} (h : S.Ok) (k : Int) : (S.use k).Ok := by
  unfold Sp.use; split
  · exact ⟨by show 1 ≤ List.length (putL _ _ _); rw [putL_length]; exact h.n1, by show List.length (putL _ _ _) ≤ _; rw [putL_length]; exact h.n2, by show _ = List.length (putL _ _ _); rw [putL_length]; exact h.tl, by show _ = List.length (putL _ _ _); rw [putL_length]; exact h.gl, by show _ < List.length (putL _ _ _); rw [putL_length]; exact h.fl, h.g0, h.le, h.lb⟩
  · exact h
theorem Sp.Ok.take {S : Sp} (h : S.Ok) : S.take.Ok := by
  unfold Sp.take; split
  · exact ⟨by show 1 ≤ List.length (putL _ _ _); rw [putL_length]; exact h.n1, by show List.length (putL _ _ _) ≤ _; rw [putL_length]; exact h.n2, by show List.length (putL _ _ _) = List.length (putL _ _ _); rw [putL_length, putL_length]; exact h.tl, by show _ = List.length (putL _ _ _); rw [putL_length]; exact h.gl, by show _ < List.length (putL _ _ _); rw [putL_length]; exact h.fl, h.g0, h.le, h.lb⟩
  · exact h
theorem Sp.Ok.give {S : Sp} (h : S.Ok) (k : Int) : (S.give k).Ok := by
  unfold Sp.give; split
  · exact ⟨h.n1, h.n2, h.tl, by show List.length (putL _ _ _) = _; rw [putL_length]; exact h.gl, h.fl, h.g0, h.le, h.lb⟩
  · exact h
theorem Sp.Ok.minus {S : Sp} (h : S.Ok) (m : List Bool) : (({ S with used := minusL S.used m } : Sp).begun).Ok :=
  ⟨by show 1 ≤ List.length (minusL _ _); rw [minusL_length]; exact h.n1, by show List.length (minusL _ _) ≤ _; rw [minusL_length]; exact h.n2, by show List.length (noneL _) = _; simp [noneL, Sp.begun], by show List.length (noneL _) = _; simp [noneL, Sp.begun], by show _ < List.length (minusL _ _); rw [minusL_length]; exact h.fl, h.g0, h.le, h.lb⟩
theorem Sp.Ok.settle {S : Sp} (h : S.Ok) : S.settle.Ok := h.minus _
theorem Sp.Ok.undo {S : Sp} (h : S.Ok) : S.undo.Ok := h.minus _
theorem Sp.Ok.step {S : Sp} (h : S.Ok) : S.step.Ok := by
  unfold Sp.step; split
  · rename_i hl
    exact ⟨h.n1, h.n2, h.tl, h.gl, h.fl, by show 0 ≤ S.gen + 1; have := h.g0; omega, by show S.gen + 1 ≤ S.last; omega, h.lb⟩
  · exact h
theorem step_yes {S : Sp} (h : S.gen < S.last) : stepE S = 0 ∧ stepN S = S.gen + 1 ∧ S.step = { S with gen := S.gen + 1 } := ⟨by rw [stepE, if_pos h], by rw [stepN, if_pos h], by rw [Sp.step, if_pos h]⟩
theorem step_no {S : Sp} (h : ¬ S.gen < S.last) : stepE S = 12 ∧ stepN S = 0 ∧ S.step = S := ⟨by rw [stepE, if_neg h], by rw [stepN, if_neg h], by rw [Sp.step, if_neg h]⟩
/-- all others -/
def notL (l : List Bool) : List Bool := l.map fun b => !b
theorem notL_length (l : List Bool) : (notL l).length = l.length := by simp [notL]
theorem notL_get (l : List Bool) (i : Nat) (hi : i < l.length) : bg (notL l) i = !bg l i := by
  unfold notL bg; rw [List.getD_eq_getElem?_getD, List.getD_eq_getElem?_getD, List.getElem?_map, List.getElem?_eq_getElem hi]; rfl
theorem ext_bg {a b : List Bool} (hl : a.length = b.length) (h : ∀ i, i < a.length → bg a i = bg b i) : a = b := by
  apply List.ext_getElem hl
  intro i h1 h2
  have := h i h1
  unfold bg at this
  rw [List.getD_eq_getElem?_getD, List.getD_eq_getElem?_getD, List.getElem?_eq_getElem h1, List.getElem?_eq_getElem h2] at this
  simpa using this
theorem notL_put (l : List Bool) (k : Int) (b : Bool) : notL (putL l k b) = putL (notL l) k (!b) :=
  ext_bg (by rw [notL_length, putL_length, putL_length, notL_length]) fun i hi => by
    rw [notL_length, putL_length] at hi
    rw [notL_get _ _ (by rw [putL_length]; exact hi), putL_get _ _ _ _ hi, putL_get _ _ _ _ (by rw [notL_length]; exact hi), notL_get _ _ hi]
    split <;> rfl
theorem next_not (l : List Bool) (f : Int) (is : Bool) : nextO (notL l) f (!is) = nextO l f is := by
  cases h : nextO l f is with
  | none =>
    have h2 := next_isn h
    exact next_none fun j hj hf => by
      rw [notL_length] at hj
      rw [notL_get _ _ hj]
      intro e; exact h2 j hj hf (by simpa using e)
  | some i =>
    obtain ⟨h1, h2, h3, h4⟩ := next_is h
    refine next_some (by rw [notL_length]; exact h1) h2 (by rw [notL_get _ _ h1, h3]) fun j hj hf => ?_
    rw [notL_get _ _ (by omega)]
    intro e; exact h4 j hj hf (by simpa using e)
theorem has_not (l : List Bool) (k : Nat) (hk : k < l.length) : hasL (notL l) (k : Nat) = !hasL l (k : Nat) := by
  rw [hasL_in (by rw [notL_length]; exact hk), hasL_in hk, notL_get _ _ hk]
theorem lst_not (l : List Bool) : ∀ j, j ≤ l.length → (lstL j (notL l)).length + (lstL j l).length = j
  | 0, _ => by simp [lstL]
  | j + 1, hj => by
    have ih := lst_not l j (by omega)
    rw [lst_succ, lst_succ, notL_get _ _ (by omega)]
    cases h : bg l j <;> simp <;> omega
theorem cnt_not (l : List Bool) : cntL (notL l) + cntL l = l.length := by
  unfold cntL; rw [notL_length]; exact lst_not l _ (Nat.le_refl _)
theorem free_not (S : Sp) : freeN S = (cntL (notL S.used) : Int) := by have := cnt_not S.used; unfold freeN; omega
/-- some numbers are put, one behind the other -/
def putsL (l : List Bool) (xs : List Int) (b : Bool) : List Bool := xs.foldl (fun l k => putL l k b) l
theorem putsL_nil (l : List Bool) (b : Bool) : putsL l [] b = l := rfl
theorem putsL_length (l : List Bool) (xs : List Int) (b : Bool) : (putsL l xs b).length = l.length := by
  induction xs generalizing l with
  | nil => rfl
  | cons x xs ih => exact (ih _).trans (putL_length _ _ _)
theorem putsL_snoc (l : List Bool) (xs : List Int) (i : Nat) (hi : i < xs.length) (b : Bool) : putsL l (xs.take (i + 1)) b = putL (putsL l (xs.take i) b) (ig xs i) b := by
  rw [List.take_succ_eq_append_getElem hi, putsL, List.foldl_append]
  show putL _ xs[i] b = _
  rw [ig, List.getD_eq_getElem?_getD, List.getElem?_eq_getElem hi]; rfl
theorem putsL_get (l : List Bool) (xs : List Int) (b : Bool) (i : Nat) (hi : i < l.length) : bg (putsL l xs b) i = if (i : Int) ∈ xs then b else bg l i := by
  induction xs generalizing l with
  | nil => simp [putsL]
  | cons x xs ih =>
    show bg (putsL (putL l x b) xs b) i = _
    rw [ih _ (by rw [putL_length]; exact hi), putL_get _ _ _ _ hi]
    by_cases h1 : (i : Int) ∈ xs
    · rw [if_pos h1, if_pos (List.mem_cons_of_mem _ h1)]
    · by_cases h2 : (i : Int) = x
      · rw [if_neg h1, if_pos h2, if_pos (by rw [h2]; exact List.mem_cons_self)]
      · rw [if_neg h1, if_neg h2, if_neg (by simp [h1, h2])]
theorem mem_lst (l : List Bool) (n i : Nat) : (i : Int) ∈ lstL n l ↔ i < n ∧ bg l i = true := by
  unfold lstL; simp only [List.mem_map, List.mem_filter, List.mem_range]
  constructor
  · rintro ⟨a, h, e⟩
    obtain rfl : a = i := by omega
    exact h
  · exact fun h => ⟨i, h, rfl⟩
theorem puts_all (l m : List Bool) (hm : m.length = l.length) : putsL (notL l) (lstL m.length m) true = notL (minusL l m) :=
  ext_bg (by rw [putsL_length, notL_length, notL_length, minusL_length]) fun i hi => by
    rw [putsL_length, notL_length] at hi
    rw [putsL_get _ _ _ _ (by rw [notL_length]; exact hi), notL_get _ _ hi, notL_get _ _ (by rw [minusL_length]; exact hi)]
    have e : bg (minusL l m) i = (bg l i && !bg m i) := by
      unfold minusL; rw [bg, List.getD_eq_getElem?_getD, List.getElem?_map, List.getElem?_range hi]; rfl
    rw [e]
    by_cases h : bg m i = true
    · rw [if_pos ((mem_lst _ _ _).2 ⟨by omega, h⟩), h]; simp
    · have h' : bg m i = false := by simpa using h
      rw [if_neg (fun k => h ((mem_lst _ _ _).1 k).2), h']; simp
theorem puts_none (l : List Bool) : putsL l (lstL l.length l) false = noneL l.length :=
  ext_bg (by rw [putsL_length]; simp [noneL]) fun i hi => by
    rw [putsL_length] at hi
    rw [putsL_get _ _ _ _ hi]
    have e : bg (noneL l.length) i = false := by unfold noneL; rw [bg, List.getD_eq_getElem?_getD, List.getElem?_replicate, if_pos hi]; rfl
    rw [e]
    by_cases h : bg l i = true
    · rw [if_pos ((mem_lst _ _ _).2 ⟨hi, h⟩)]
    · have h' : bg l i = false := by simpa using h
      split <;> simp_all
/-- from f on, below c -/
def fromL (n f c : Nat) : List Bool := (List.range n).map fun i => decide (f ≤ i) && decide (i < c)
theorem fromL_length (n f c : Nat) : (fromL n f c).length = n := by simp [fromL]
theorem fromL_get (n f c i : Nat) (hi : i < n) : bg (fromL n f c) i = (decide (f ≤ i) && decide (i < c)) := by
  unfold fromL; rw [bg, List.getD_eq_getElem?_getD, List.getElem?_map, List.getElem?_range hi]; rfl
theorem fromL_start (n f : Nat) : fromL n f f = noneL n := ext_bg (by rw [fromL_length]; simp [noneL]) fun i hi => by
  rw [fromL_length] at hi
  have e : bg (noneL n) i = false := by unfold noneL; rw [bg, List.getD_eq_getElem?_getD, List.getElem?_replicate, if_pos hi]; rfl
  rw [e, fromL_get _ _ _ _ hi]; simp
theorem fromL_put (n f c : Nat) (h : f ≤ c) (hc : c < n) : putL (fromL n f c) (c : Nat) true = fromL n f (c + 1) := ext_bg (by rw [putL_length, fromL_length, fromL_length]) fun i hi => by
  rw [putL_length, fromL_length] at hi
  rw [putL_get _ _ _ _ (by rw [fromL_length]; exact hi), fromL_get _ _ _ _ hi, fromL_get _ _ _ _ hi]
  by_cases e : i = c
  · subst e; simp [h]
  · rw [if_neg (by omega)]; congr 1; simp; omega
theorem fromL_end (n f : Nat) (g l : Int) : fromL n f n = notL (Sp.fresh n f g l).used := ext_bg (by rw [fromL_length, notL_length]; simp [Sp.fresh]) fun i hi => by
  rw [fromL_length] at hi
  have e : bg (Sp.fresh n f g l).used i = decide (i < f) := by
    show bg ((List.range n).map fun i => decide (i < f)) i = _
    rw [bg, List.getD_eq_getElem?_getD, List.getElem?_map, List.getElem?_range hi]; rfl
  rw [fromL_get _ _ _ _ hi, notL_get _ _ (by simp [Sp.fresh]; exact hi), e]
  simp [hi]
  by_cases h : f ≤ i <;> simp [h] <;> omega
end Go.Proofs.YtkflccecdjfkiaaDoor.Spc
