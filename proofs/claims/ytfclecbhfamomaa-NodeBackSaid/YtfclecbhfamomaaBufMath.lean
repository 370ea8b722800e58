/- Layer 15 (buf): updates by rising keys, as lists. -/
import Derived.Test.YtfclecbhfamomaaMsgMath
namespace Go.Proofs.Ytfclecbhfamomaa.Buf
open Go Go.RowKit Go.Proofs.Ytfclecbhfamomaa Go.Proofs.Ytfclecbhfamomaa.Lend Go.Proofs.Ytfclecbhfamomaa.Rec Go.Proofs.Ytfclecbhfamomaa.Msg
set_option linter.unusedVariables false

/-- a key is below another one -/
def kLt (a b : List UInt8) : Bool := Op.bytesLess a b
theorem kLt_nil (a : List UInt8) : kLt a [] = false := by cases a <;> rfl
theorem kLt_cons (a b : UInt8) (x y : List UInt8) : kLt (a :: x) (b :: y) = (decide (a < b) || (a == b && kLt x y)) := rfl
theorem kLt_irr : ∀ a : List UInt8, kLt a a = false
  | [] => rfl
  | a :: x => by rw [kLt_cons, kLt_irr x]; simp
theorem kLt_trans : ∀ {a b c : List UInt8}, kLt a b = true → kLt b c = true → kLt a c = true
  | _, [], _, h, _ => by rw [kLt_nil] at h; cases h
  | _, _ :: _, [], _, h => by rw [kLt_nil] at h; cases h
  | [], _ :: _, _ :: _, _, _ => rfl
  | a :: x, b :: y, c :: z, h, h' => by
    rw [kLt_cons] at h h' ⊢
    simp only [Bool.or_eq_true, Bool.and_eq_true, decide_eq_true_eq, beq_iff_eq] at h h' ⊢
    rcases h with h | ⟨rfl, h⟩
    · rcases h' with h' | ⟨rfl, h'⟩
      · exact .inl (UInt8.lt_trans h h')
      · exact .inl h
    · rcases h' with h' | ⟨rfl, h'⟩
      · exact .inl h'
      · exact .inr ⟨rfl, kLt_trans h h'⟩
theorem kLt_tri : ∀ {a b : List UInt8}, kLt a b = false → kLt b a = false → a = b
  | [], [], _, _ => rfl
  | [], _ :: _, h, _ => by cases h
  | _ :: _, [], _, h => by cases h
  | a :: x, b :: y, h, h' => by
    rw [kLt_cons] at h h'
    simp only [Bool.or_eq_false_iff, Bool.and_eq_false_iff, decide_eq_false_iff_not, beq_eq_false_iff_ne] at h h'
    have hab : a = b := by
      rcases UInt8.lt_or_lt_of_ne (a := a) (b := b) |> fun f => Decidable.em (a = b) with e | e
      · exact e
      · rcases UInt8.lt_or_lt_of_ne e with g | g
        · exact absurd g h.1
        · exact absurd g h'.1
    subst hab
    rcases h.2 with g | g
    · exact absurd rfl g
    · rcases h'.2 with g' | g'
      · exact absurd rfl g'
      · rw [kLt_tri g g']
theorem kLt_asym {a b : List UInt8} (h : kLt a b = true) : kLt b a = false := by
  cases h' : kLt b a with
  | false => rfl
  | true => have := kLt_trans h h'; rw [kLt_irr] at this; cases this
theorem kLt_ne {a b : List UInt8} (h : kLt a b = true) : a ≠ b := by
  rintro rfl
  rw [kLt_irr] at h; cases h
/-- by rising keys, no two alike -/
def Srt (l : List Up) : Prop := l.Pairwise fun a b => kLt a.key b.key = true
theorem srt_nil : Srt [] := List.Pairwise.nil
theorem srt_cons {x : Up} {l : List Up} : Srt (x :: l) ↔ (∀ y ∈ l, kLt x.key y.key = true) ∧ Srt l := List.pairwise_cons
theorem srt_app {a b : List Up} : Srt (a ++ b) ↔ Srt a ∧ Srt b ∧ ∀ x ∈ a, ∀ y ∈ b, kLt x.key y.key = true := List.pairwise_append
/-- how many are below a key -/
def plK (l : List Up) (k : List UInt8) : Nat := l.countP fun u => kLt u.key k
theorem plK_le (l : List Up) (k : List UInt8) : plK l k ≤ l.length := List.countP_le_length
theorem plK_cons (x : Up) (l : List Up) (k : List UInt8) : plK (x :: l) k = if kLt x.key k = true then plK l k + 1 else plK l k := by
  unfold plK
  rw [List.countP_cons]
  split <;> rfl
theorem plK_zero {x : Up} {l : List Up} {k : List UInt8} (hs : Srt (x :: l)) (h : kLt x.key k = false) : plK l k = 0 := by
  unfold plK
  rw [List.countP_eq_zero]
  intro y hy hk
  have := kLt_trans ((srt_cons.1 hs).1 y hy) hk
  rw [h] at this; cases this
theorem plK_get {l : List Up} {k : List UInt8} (hs : Srt l) : ∀ i (hi : i < l.length), kLt l[i].key k = decide (i < plK l k) := by
  induction l with
  | nil => intro i hi; cases hi
  | cons x l ih =>
    intro i hi
    rw [plK_cons]
    cases hx : kLt x.key k with
    | true =>
      rw [if_pos rfl]
      cases i with
      | zero => simpa using hx
      | succ i =>
        have := ih (srt_cons.1 hs).2 i (by simpa using hi)
        rw [List.getElem_cons_succ, this]; simp
    | false =>
      rw [if_neg (by simp), plK_zero hs hx]
      cases i with
      | zero => simpa using hx
      | succ i =>
        rw [List.getElem_cons_succ]
        simp only [Nat.not_lt_zero, decide_false]
        cases h : kLt (l[i]'(by simpa using hi)).key k with
        | false => rfl
        | true =>
          have := kLt_trans ((srt_cons.1 hs).1 _ (List.getElem_mem (by simpa using hi))) h
          rw [hx] at this; cases this
theorem below_take {l : List Up} (k : List UInt8) (hs : Srt l) : l.filter (fun u => kLt u.key k) = l.take (plK l k) := by
  induction l with
  | nil => rfl
  | cons x l ih =>
    rw [plK_cons]
    cases hx : kLt x.key k with
    | true => rw [if_pos rfl, List.take_succ_cons, List.filter_cons_of_pos (by exact hx), ih (srt_cons.1 hs).2]
    | false =>
      rw [if_neg (by simp), List.filter_cons_of_neg (by simpa using hx), ih (srt_cons.1 hs).2, plK_zero hs hx]; rfl
theorem above_drop {l : List Up} (k : List UInt8) (hs : Srt l) : l.filter (fun u => !kLt u.key k) = l.drop (plK l k) := by
  induction l with
  | nil => rfl
  | cons x l ih =>
    rw [plK_cons]
    cases hx : kLt x.key k with
    | true => rw [if_pos rfl, List.drop_succ_cons, List.filter_cons_of_neg (by simp [hx]), ih (srt_cons.1 hs).2]
    | false => rw [if_neg (by simp), List.filter_cons_of_pos (by simp [hx]), ih (srt_cons.1 hs).2, plK_zero hs hx]; rfl
/-- is there one of a key? -/
def thK (l : List Up) (k : List UInt8) : Bool := match l[plK l k]? with | some x => x.key == k | none => false
theorem thK_yes {l : List Up} {k : List UInt8} (h : thK l k = true) : ∃ hp : plK l k < l.length, (l[plK l k]'hp).key = k := by
  unfold thK at h
  split at h
  · rename_i x hx
    obtain ⟨hp, he⟩ := List.getElem?_eq_some_iff.1 hx
    exact ⟨hp, by rw [he]; simpa using h⟩
  · cases h
theorem thK_no {l : List Up} {k : List UInt8} (h : thK l k = false) (hp : plK l k < l.length) : (l[plK l k]'hp).key ≠ k := by
  unfold thK at h
  rw [List.getElem?_eq_getElem hp] at h
  simpa using h
theorem thK_iff {l : List Up} (hs : Srt l) (k : List UInt8) : thK l k = true ↔ ∃ u ∈ l, u.key = k := by
  constructor
  · intro h
    obtain ⟨hp, hk⟩ := thK_yes h
    exact ⟨_, List.getElem_mem hp, hk⟩
  · rintro ⟨u, hu, hk⟩
    obtain ⟨i, hi, rfl⟩ := List.mem_iff_getElem.1 hu
    have h1 := plK_get (k := k) hs i hi
    rw [hk, kLt_irr] at h1
    have h2 : ¬ i < plK l k := by simpa using h1
    have h3 : plK l k = i := by
      by_cases e : plK l k = i
      · exact e
      · have hlt : plK l k < i := by omega
        have h4 := plK_get (k := k) hs (plK l k) (by omega)
        simp only [Nat.lt_irrefl, decide_false] at h4
        have h5 : kLt (l[plK l k]'(by omega)).key l[i].key = true := List.pairwise_iff_getElem.1 hs _ _ (by omega) hi hlt
        rw [hk, h4] at h5; cases h5
    unfold thK
    rw [h3, List.getElem?_eq_getElem hi]
    simpa using hk
theorem plK_self {l : List Up} (hs : Srt l) (i : Nat) (hi : i < l.length) : plK l l[i].key = i ∧ thK l l[i].key = true := by
  have ht : thK l l[i].key = true := (thK_iff hs _).2 ⟨_, List.getElem_mem hi, rfl⟩
  refine ⟨?_, ht⟩
  obtain ⟨hp, hk⟩ := thK_yes ht
  by_cases e : plK l l[i].key = i
  · exact e
  · rcases Nat.lt_or_gt_of_ne e with h | h
    · have := List.pairwise_iff_getElem.1 hs _ _ hp hi h
      rw [hk, kLt_irr] at this; cases this
    · have := List.pairwise_iff_getElem.1 hs _ _ hi hp h
      rw [hk, kLt_irr] at this; cases this
/-- the one of a key -/
def getO (l : List Up) (k : List UInt8) : Option Up := if thK l k = true then l[plK l k]? else none
theorem getO_yes {l : List Up} {k : List UInt8} (h : thK l k = true) : getO l k = some (l[plK l k]'(thK_yes h).1) := by
  unfold getO
  rw [if_pos h, List.getElem?_eq_getElem (thK_yes h).1]
theorem getO_no {l : List Up} {k : List UInt8} (h : thK l k = false) : getO l k = none := by
  unfold getO
  rw [if_neg (by rw [h]; simp)]
theorem getO_iff {l : List Up} (hs : Srt l) (k : List UInt8) (u : Up) : getO l k = some u ↔ u ∈ l ∧ u.key = k := by
  constructor
  · intro h
    cases ht : thK l k with
    | false => rw [getO_no ht] at h; cases h
    | true =>
      rw [getO_yes ht] at h
      cases h
      exact ⟨List.getElem_mem _, (thK_yes ht).2⟩
  · rintro ⟨hu, hk⟩
    obtain ⟨i, hi, rfl⟩ := List.mem_iff_getElem.1 hu
    obtain ⟨h1, h2⟩ := plK_self hs i hi
    rw [hk] at h1 h2
    rw [getO_yes h2]
    congr 1
    simp only [h1]
theorem getO_none {l : List Up} (hs : Srt l) (k : List UInt8) : getO l k = none ↔ ∀ u ∈ l, u.key ≠ k := by
  constructor
  · intro h u hu hk
    have := (getO_iff hs k u).2 ⟨hu, hk⟩
    rw [h] at this; cases this
  · intro h
    cases ht : getO l k with
    | none => rfl
    | some u => have := (getO_iff hs k u).1 ht; exact absurd this.2 (h u this.1)
/-- one more -/
def withU : List Up → Up → List Up
  | [], u => [u]
  | x :: l, u => if x.key = u.key then joU x u :: l else if kLt u.key x.key = true then u :: x :: l else x :: withU l u
theorem jo_key (a b : Up) : (joU a b).key = b.key := by
  unfold joU
  split
  · split
    · rfl
    · split <;> rfl
  · rfl
theorem with_yes {l : List Up} {u : Up} (hs : Srt l) (h : thK l u.key = true) : withU l u = l.take (plK l u.key) ++ joU (l[plK l u.key]'(thK_yes h).1) u :: l.drop (plK l u.key + 1) := by
  obtain ⟨hp, hk⟩ := thK_yes h
  induction l with
  | nil => cases hp
  | cons x l ih =>
    unfold withU
    by_cases e : x.key = u.key
    · rw [if_pos e]
      have hx : kLt x.key u.key = false := by rw [e, kLt_irr]
      have hz : plK (x :: l) u.key = 0 := by rw [plK_cons, hx, if_neg (by simp), plK_zero hs hx]
      simp only [hz, List.take_zero, List.nil_append, List.getElem_cons_zero, List.drop_succ_cons, List.drop_zero]
    · rw [if_neg e]
      cases hx : kLt x.key u.key with
      | false =>
        have hz : plK (x :: l) u.key = 0 := by rw [plK_cons, hx, if_neg (by simp), plK_zero hs hx]
        simp only [hz, List.getElem_cons_zero] at hk
        exact absurd hk e
      | true =>
        have hz : plK (x :: l) u.key = plK l u.key + 1 := by rw [plK_cons, hx, if_pos rfl]
        rw [kLt_asym hx, if_neg (by simp)]
        have hp' : plK l u.key < l.length := by rw [hz] at hp; simpa using hp
        have ht : thK l u.key = true := by
          unfold thK
          rw [List.getElem?_eq_getElem hp']
          simp only [hz, List.getElem_cons_succ] at hk
          simpa using hk
        rw [ih (srt_cons.1 hs).2 ht hp' (by simp only [hz, List.getElem_cons_succ] at hk; exact hk)]
        simp only [hz, List.take_succ_cons, List.cons_append, List.getElem_cons_succ, List.drop_succ_cons]
theorem with_no {l : List Up} {u : Up} (hs : Srt l) (h : thK l u.key = false) : withU l u = l.take (plK l u.key) ++ u :: l.drop (plK l u.key) := by
  induction l with
  | nil => rfl
  | cons x l ih =>
    unfold withU
    have e : ¬ x.key = u.key := fun e => by
      have := (thK_iff hs u.key).2 ⟨x, by simp, e⟩
      rw [h] at this; cases this
    rw [if_neg e]
    cases hx : kLt x.key u.key with
    | false =>
      have hz : plK (x :: l) u.key = 0 := by rw [plK_cons, hx, if_neg (by simp), plK_zero hs hx]
      have hy : kLt u.key x.key = true := by
        cases hy : kLt u.key x.key with
        | true => rfl
        | false => exact absurd (kLt_tri hx hy) e
      rw [hy, if_pos rfl, hz]; rfl
    | true =>
      have hz : plK (x :: l) u.key = plK l u.key + 1 := by rw [plK_cons, hx, if_pos rfl]
      rw [kLt_asym hx, if_neg (by simp)]
      have ht : thK l u.key = false := by
        cases ht : thK l u.key with
        | false => rfl
        | true =>
          obtain ⟨y, hy, hk⟩ := (thK_iff (srt_cons.1 hs).2 u.key).1 ht
          have := (thK_iff hs u.key).2 ⟨y, by simp [hy], hk⟩
          rw [h] at this; cases this
      rw [ih (srt_cons.1 hs).2 ht, hz]
      rfl
theorem with_mem {l : List Up} {u x : Up} (h : x ∈ withU l u) : x.key = u.key ∨ x ∈ l := by
  induction l with
  | nil => rw [show withU [] u = [u] from rfl, List.mem_singleton] at h; exact .inl (by rw [h])
  | cons y l ih =>
    unfold withU at h
    split at h
    · rcases List.mem_cons.1 h with h | h
      · exact .inl (by rw [h, jo_key])
      · exact .inr (by simp [h])
    · split at h
      · rcases List.mem_cons.1 h with h | h
        · exact .inl (by rw [h])
        · exact .inr h
      · rcases List.mem_cons.1 h with h | h
        · exact .inr (by simp [h])
        · rcases ih h with h | h
          · exact .inl h
          · exact .inr (by simp [h])
theorem with_srt {l : List Up} (hs : Srt l) (u : Up) : Srt (withU l u) := by
  induction l with
  | nil => exact srt_cons.2 ⟨(fun y hy => by cases hy), srt_nil⟩
  | cons x l ih =>
    have h1 := srt_cons.1 hs
    unfold withU
    split
    · rename_i e
      refine srt_cons.2 ⟨fun y hy => ?_, h1.2⟩
      rw [jo_key, ← e]; exact h1.1 y hy
    · rename_i e
      split
      · rename_i hk
        refine srt_cons.2 ⟨fun y hy => ?_, hs⟩
        rcases List.mem_cons.1 hy with rfl | hy
        · exact hk
        · exact kLt_trans hk (h1.1 y hy)
      · rename_i hk
        refine srt_cons.2 ⟨fun y hy => ?_, ih h1.2⟩
        rcases with_mem hy with hy | hy
        · rw [hy]
          cases g : kLt x.key u.key with
          | true => rfl
          | false => exact absurd (kLt_tri g (by simpa using hk)) e
        · exact h1.1 y hy
theorem with_tm {l : List Up} {u : Up} (hl : ∀ x ∈ l, Tm x) (hu : Tm u) : ∀ x ∈ withU l u, Tm x := by
  induction l with
  | nil => intro x hx; rw [show withU [] u = [u] from rfl, List.mem_singleton] at hx; rw [hx]; exact hu
  | cons y l ih =>
    have hy := hl y (by simp)
    have hl' : ∀ x ∈ l, Tm x := fun x hx => hl x (by simp [hx])
    unfold withU
    split
    · intro x hx
      rcases List.mem_cons.1 hx with rfl | hx
      · exact jo_tm hy hu
      · exact hl' x hx
    · split
      · intro x hx
        rcases List.mem_cons.1 hx with rfl | hx
        · exact hu
        · exact hl x hx
      · intro x hx
        rcases List.mem_cons.1 hx with rfl | hx
        · exact hy
        · exact ih hl' x hx
theorem with_len (l : List Up) (u : Up) : (withU l u).length ≤ l.length + 1 := by
  induction l with
  | nil => exact Nat.le_refl _
  | cons x l ih =>
    unfold withU
    split
    · simp
    · split
      · simp
      · simp only [List.length_cons]; omega
theorem with_len_yes {l : List Up} {u : Up} (hs : Srt l) (h : thK l u.key = true) : (withU l u).length = l.length := by
  have hp := (thK_yes h).1
  rw [with_yes hs h, List.length_append, List.length_cons, List.length_take, List.length_drop]
  omega
theorem with_len_no {l : List Up} {u : Up} (hs : Srt l) (h : thK l u.key = false) : (withU l u).length = l.length + 1 := by
  have hp := plK_le l u.key
  rw [with_no hs h, List.length_append, List.length_cons, List.length_take, List.length_drop]
  omega
/-- within low and high -/
def inB (low high k : List UInt8) : Bool := !kLt k low && (high == [] || kLt k high)
def cutI (low high : List UInt8) (l : List Up) : List Up := l.filter fun u => inB low high u.key
def cutO (low high : List UInt8) (l : List Up) : List Up := l.filter fun u => !inB low high u.key
/-- the place up to which they are within -/
def toK (l : List Up) (low high : List UInt8) : Nat := if high = [] then l.length else max (plK l low) (plK l high)
theorem toK_le (l : List Up) (low high : List UInt8) : toK l low high ≤ l.length := by
  unfold toK
  have := plK_le l low
  have := plK_le l high
  split <;> omega
theorem fromK_le (l : List Up) (low high : List UInt8) : plK l low ≤ toK l low high := by
  unfold toK
  have := plK_le l low
  split <;> omega
/-- each is within, by its place -/
theorem in_at {l : List Up} (hs : Srt l) (low high : List UInt8) (i : Nat) (hi : i < l.length) : inB low high l[i].key = decide (plK l low ≤ i ∧ i < toK l low high) := by
  unfold inB toK
  rw [plK_get hs i hi]
  by_cases h : high = []
  · subst h
    rw [if_pos rfl]
    simp only [beq_self_eq_true, Bool.true_or, Bool.and_true]
    rw [Bool.eq_iff_iff]; simp; omega
  · rw [if_neg h, show (high == []) = false by simpa using h, Bool.false_or, plK_get hs i hi]
    rw [Bool.eq_iff_iff]; simp; omega
theorem filter_range {α : Type} (P : α → Bool) : ∀ (l : List α) (f t : Nat), f ≤ t → (∀ i (hi : i < l.length), P l[i] = decide (f ≤ i ∧ i < t)) → l.filter P = (l.take t).drop f
  | [], f, t, _, _ => by simp
  | x :: l, f, t, hft, h => by
    have h0 := h 0 (by simp)
    simp only [List.getElem_cons_zero] at h0
    have hn : ∀ i (hi : i < l.length), P l[i] = decide (f ≤ i + 1 ∧ i + 1 < t) := fun i hi => by
      have := h (i + 1) (by simpa using hi)
      simpa using this
    cases t with
    | zero =>
      have hf : f = 0 := by omega
      subst hf
      rw [List.filter_cons_of_neg (by rw [h0]; simp), filter_range P l 0 0 (Nat.le_refl _) (fun i hi => by rw [hn i hi]; simp)]
      simp
    | succ t =>
      cases f with
      | zero =>
        rw [List.filter_cons_of_pos (by rw [h0]; simp), filter_range P l 0 t (Nat.zero_le _) (fun i hi => by rw [hn i hi]; simp)]
        simp
      | succ f =>
        rw [List.filter_cons_of_neg (by rw [h0]; simp), filter_range P l f t (by omega) (fun i hi => by rw [hn i hi]; simp)]
        simp
theorem filter_rest {α : Type} (P : α → Bool) : ∀ (l : List α) (f t : Nat), f ≤ t → (∀ i (hi : i < l.length), P l[i] = decide (f ≤ i ∧ i < t)) → l.filter (fun x => !P x) = l.take f ++ l.drop t
  | [], f, t, _, _ => by simp
  | x :: l, f, t, hft, h => by
    have h0 := h 0 (by simp)
    simp only [List.getElem_cons_zero] at h0
    have hn : ∀ i (hi : i < l.length), P l[i] = decide (f ≤ i + 1 ∧ i + 1 < t) := fun i hi => by
      have := h (i + 1) (by simpa using hi)
      simpa using this
    cases t with
    | zero =>
      have hf : f = 0 := by omega
      subst hf
      rw [List.filter_cons_of_pos (by rw [h0]; simp), filter_rest P l 0 0 (Nat.le_refl _) (fun i hi => by rw [hn i hi]; simp)]
      simp
    | succ t =>
      cases f with
      | zero =>
        rw [List.filter_cons_of_neg (by rw [h0]; simp), filter_rest P l 0 t (Nat.zero_le _) (fun i hi => by rw [hn i hi]; simp)]
        simp
      | succ f =>
        rw [List.filter_cons_of_pos (by rw [h0]; simp), filter_rest P l f t (by omega) (fun i hi => by rw [hn i hi]; simp)]
        simp
theorem cutI_at {l : List Up} (hs : Srt l) (low high : List UInt8) : cutI low high l = (l.take (toK l low high)).drop (plK l low) :=
  filter_range _ l _ _ (fromK_le l low high) (in_at hs low high)
theorem cutO_at {l : List Up} (hs : Srt l) (low high : List UInt8) : cutO low high l = l.take (plK l low) ++ l.drop (toK l low high) :=
  filter_rest _ l _ _ (fromK_le l low high) (in_at hs low high)
theorem cutI_srt {l : List Up} (hs : Srt l) (low high : List UInt8) : Srt (cutI low high l) := List.Pairwise.sublist List.filter_sublist hs
theorem cutO_srt {l : List Up} (hs : Srt l) (low high : List UInt8) : Srt (cutO low high l) := List.Pairwise.sublist List.filter_sublist hs
theorem cutI_len (low high : List UInt8) (l : List Up) : (cutI low high l).length ≤ l.length := List.length_filter_le _ _
theorem cutO_len (low high : List UInt8) (l : List Up) : (cutO low high l).length ≤ l.length := List.length_filter_le _ _
theorem cut_len (low high : List UInt8) (l : List Up) : (cutI low high l).length + (cutO low high l).length = l.length := by
  unfold cutI cutO
  induction l with
  | nil => rfl
  | cons x l ih =>
    cases h : inB low high x.key with
    | true => rw [List.filter_cons_of_pos (by exact h), List.filter_cons_of_neg (by simp [h])]; simp only [List.length_cons]; omega
    | false => rw [List.filter_cons_of_neg (by simp [h]), List.filter_cons_of_pos (by simp [h])]; simp only [List.length_cons]; omega
/-- neighbours rise -/
def risB : List Up → Bool
  | [] => true
  | [_] => true
  | x :: y :: l => kLt x.key y.key && risB (y :: l)
theorem ris_iff : ∀ l : List Up, risB l = true ↔ Srt l
  | [] => ⟨fun _ => srt_nil, fun _ => rfl⟩
  | [x] => ⟨fun _ => srt_cons.2 ⟨(fun y hy => by cases hy), srt_nil⟩, fun _ => rfl⟩
  | x :: y :: l => by
    have ih := ris_iff (y :: l)
    unfold risB
    rw [Bool.and_eq_true, ih]
    constructor
    · rintro ⟨h1, h2⟩
      refine srt_cons.2 ⟨fun z hz => ?_, h2⟩
      rcases List.mem_cons.1 hz with rfl | hz
      · exact h1
      · exact kLt_trans h1 ((srt_cons.1 h2).1 z hz)
    · intro h
      have := srt_cons.1 h
      exact ⟨this.1 y (by simp), this.2⟩
theorem ris_no {l : List Up} {k : Nat} (hk : k + 1 < l.length) (h : kLt l[k].key l[k + 1].key = false) : risB l = false := by
  cases g : risB l with
  | false => rfl
  | true =>
    have := List.pairwise_iff_getElem.1 ((ris_iff l).1 g) k (k + 1) (by omega) hk (by omega)
    rw [h] at this; cases this
theorem ris_yes : ∀ {l : List Up}, (∀ k (hk : k + 1 < l.length), kLt l[k].key l[k + 1].key = true) → risB l = true
  | [], _ => rfl
  | [_], _ => rfl
  | x :: y :: l, h => by
    unfold risB
    rw [Bool.and_eq_true]
    exact ⟨h 0 (by simp), ris_yes fun k hk => h (k + 1) (by simpa using hk)⟩
end Go.Proofs.Ytfclecbhfamomaa.Buf
