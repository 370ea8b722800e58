/- Layer 12 (rec), prepared: updates and their bytes, as lists of bytes. -/
import Derived.Test.YtfclecbhfamomaaLendBackMath
namespace Go.Proofs.Ytfclecbhfamomaa.Rec
open Go Go.RowKit Go.Proofs.Ytfclecbhfamomaa Go.Proofs.Ytfclecbhfamomaa.Lend
set_option linter.unusedVariables false

/-- an update -/
structure Up where
  kind : Int
  key : List UInt8
  val : List UInt8
  delta : Int
/-- which error Check answers -/
def chkU (u : Up) : Int :=
  if u.key.length < 1 ∨ 16 < u.key.length ∨ 32 < u.val.length then 13
  else if u.kind < 1 ∨ 3 < u.kind ∨ (u.kind ≠ 1 ∧ u.val ≠ []) ∨ (u.kind ≠ 3 ∧ u.delta ≠ 0) then 2
  else 0
theorem chkU_ok {u : Up} (h : chkU u = 0) : 1 ≤ u.key.length ∧ u.key.length ≤ 16 ∧ u.val.length ≤ 32 ∧ 1 ≤ u.kind ∧ u.kind ≤ 3 ∧ (u.kind ≠ 1 → u.val = []) ∧ (u.kind ≠ 3 → u.delta = 0) := by
  unfold chkU at h
  split at h
  · omega
  · split at h
    · omega
    · rename_i h1 h2
      refine ⟨by omega, by omega, by omega, by omega, by omega, fun hk => ?_, fun hk => ?_⟩
      · by_cases e : u.val = []
        · exact e
        · exact absurd (.inr (.inr (.inl ⟨hk, e⟩))) h2
      · by_cases e : u.delta = 0
        · exact e
        · exact absurd (.inr (.inr (.inr ⟨hk, e⟩))) h2
def len8 (l : List UInt8) : List UInt8 := UInt8.ofNat l.length :: l
/-- an update's bytes -/
def txU (u : Up) : List UInt8 := UInt8.ofNat u.kind.toNat :: (len8 u.key ++ ((if u.kind = 1 then len8 u.val else []) ++ (if u.kind = 3 then encN u.delta 8 else [])))
def txL (l : List Up) : List UInt8 := l.flatMap txU
/-- the first error -/
def errL : List Up → Int
  | [] => 0
  | u :: l => if chkU u = 0 then errL l else chkU u
def spl2 : List UInt8 → Option (List UInt8 × List UInt8)
  | [] => none
  | n :: r => if r.length < n.toNat then none else some (r.take n.toNat, r.drop n.toNat)
def fin1 (u : Up) (r : List UInt8) : Option (Up × List UInt8) := if chkU u = 0 then some (u, r) else none
/-- the first update of these bytes, and what stands behind it -/
def par1 : List UInt8 → Option (Up × List UInt8)
  | [] => none
  | k :: r => match spl2 r with
    | none => none
    | some (key, rest) =>
      if k = 1 then match spl2 rest with
        | none => none
        | some (v, more) => fin1 ⟨1, key, v, 0⟩ more
      else if k = 3 then (if rest.length < 8 then none else fin1 ⟨3, key, [], getL (rest.take 8)⟩ (rest.drop 8))
      else fin1 ⟨k.toNat, key, [], 0⟩ rest
theorem ofNat_small {n : Nat} (h : n < 256) : (UInt8.ofNat n).toNat = n := by simp; omega
theorem spl2_len {l r : List UInt8} (h : l.length < 256) : spl2 (len8 l ++ r) = some (l, r) := by
  unfold len8
  show (if (l ++ r).length < (UInt8.ofNat l.length).toNat then none else some ((l ++ r).take (UInt8.ofNat l.length).toNat, (l ++ r).drop (UInt8.ofNat l.length).toNat)) = _
  rw [ofNat_small h, if_neg (by rw [List.length_append]; omega), List.take_left', List.drop_left'] <;> rfl
theorem spl2_cut {l : List UInt8} (h : l.length < 256) {c : Nat} (hc : c < l.length + 1) : spl2 ((len8 l).take c) = none := by
  unfold len8
  cases c with
  | zero => rfl
  | succ c =>
    rw [List.take_succ_cons]
    show (if (l.take c).length < (UInt8.ofNat l.length).toNat then none else _) = _
    rw [ofNat_small h, if_pos (by rw [List.length_take]; omega)]
theorem par1_tx {u : Up} (h : chkU u = 0) (h0 : 0 ≤ u.delta) (h1 : u.delta < 18446744073709551616) (r : List UInt8) : par1 (txU u ++ r) = some (u, r) := by
  obtain ⟨k1, k2, k3, k4, k5, k6, k7⟩ := chkU_ok h
  obtain ⟨kind, key, val, delta⟩ := u
  simp only at *
  unfold txU
  simp only [List.cons_append, List.append_assoc, par1]
  rw [spl2_len (by omega)]
  have hk : kind = 1 ∨ kind = 2 ∨ kind = 3 := by omega
  rcases hk with rfl | rfl | rfl
  · have e : UInt8.ofNat (Int.toNat 1) = 1 := rfl
    simp only [e, if_true]
    rw [if_neg (by decide : ¬ (1 : Int) = 3)]
    simp only [List.nil_append]
    rw [spl2_len (by omega)]
    have hd := k7 (by omega)
    subst hd
    show fin1 _ _ = _
    unfold fin1
    rw [if_pos h]
  · have e : UInt8.ofNat (Int.toNat 2) = 2 := rfl
    have hd := k7 (by omega)
    have hv := k6 (by omega)
    subst hd hv
    simp only [e]
    rw [if_neg (by decide : ¬ (2 : UInt8) = 1), if_neg (by decide : ¬ (2 : UInt8) = 3), if_neg (by decide : ¬ (2 : Int) = 1), if_neg (by decide : ¬ (2 : Int) = 3)]
    simp only [List.nil_append]
    have e2 : (((2 : UInt8).toNat : Nat) : Int) = 2 := rfl
    unfold fin1
    rw [e2, if_pos h]
  · have e : UInt8.ofNat (Int.toNat 3) = 3 := rfl
    have hv := k6 (by omega)
    subst hv
    simp only [e]
    rw [if_neg (by decide : ¬ (3 : UInt8) = 1), if_neg (by decide : ¬ (3 : Int) = 1)]
    simp only [if_true, List.nil_append]
    have hl : (encN delta 8).length = 8 := encN_length _ _
    rw [if_neg (by rw [List.length_append]; omega), List.take_left' hl, List.drop_left' hl]
    have hg : (getL (encN delta 8) : Int) = delta := getL_encN delta 8 h0 (by simpa using h1)
    unfold fin1
    rw [hg, if_pos h]
theorem txU_length {u : Up} (h : chkU u = 0) : (txU u).length = 2 + u.key.length + (if u.kind = 1 then 1 + u.val.length else 0) + (if u.kind = 3 then 8 else 0) := by
  unfold txU len8
  simp only [List.length_cons, List.length_append]
  split <;> split <;> simp [encN_length] <;> omega
theorem txU_pos (u : Up) : 0 < (txU u).length := by unfold txU; simp
/-- of a beginning of an update's bytes there is none -/
theorem par1_cut {u : Up} (h : chkU u = 0) {c : Nat} (hc : c < (txU u).length) : par1 ((txU u).take c) = none := by
  obtain ⟨k1, k2, k3, k4, k5, k6, k7⟩ := chkU_ok h
  have hl := txU_length h
  rw [hl] at hc
  obtain ⟨kind, key, val, delta⟩ := u
  simp only at *
  cases c with
  | zero => rfl
  | succ c =>
    unfold txU
    simp only [List.take_succ_cons, par1]
    by_cases h1 : c < key.length + 1
    · rw [List.take_append_of_le_length (by simp [len8]; omega), spl2_cut (by omega) h1]
    · have hkl : (len8 key).length = key.length + 1 := by simp [len8]
      obtain ⟨d, hd⟩ : ∃ d, c = (key.length + 1) + d := ⟨c - (key.length + 1), by omega⟩
      rw [List.take_append, hkl, List.take_of_length_le (by rw [hkl]; omega), spl2_len (by omega), show c - (key.length + 1) = d by omega]
      have hk : kind = 1 ∨ kind = 2 ∨ kind = 3 := by omega
      rcases hk with rfl | rfl | rfl
      · have e : UInt8.ofNat (Int.toNat 1) = 1 := rfl
        simp only [e, if_true]
        rw [if_neg (by decide : ¬ (1 : Int) = 3)] at hc ⊢
        rw [if_pos rfl] at hc
        rw [List.append_nil, spl2_cut (by omega) (by omega)]
      · rw [if_neg (by decide : ¬ (2 : Int) = 1), if_neg (by decide : ¬ (2 : Int) = 3)] at hc
        omega
      · have e : UInt8.ofNat (Int.toNat 3) = 3 := rfl
        simp only [e]
        rw [if_neg (by decide : ¬ (3 : Int) = 1), if_pos rfl] at hc
        rw [if_neg (by decide : ¬ (3 : UInt8) = 1), if_neg (by decide : ¬ (3 : Int) = 1)]
        simp only [if_true, List.nil_append]
        rw [if_pos (by rw [List.length_take, encN_length]; omega)]
/-- the updates of these bytes -/
def parN : Nat → List UInt8 → Option (List Up)
  | _, [] => some []
  | 0, _ :: _ => none
  | n + 1, s => match par1 s with
    | none => none
    | some (u, r) => match parN n r with
      | none => none
      | some l => some (u :: l)
def parL (s : List UInt8) : Option (List Up) := parN s.length s
/-- updates that may be -/
def OkL (l : List Up) : Prop := ∀ u ∈ l, chkU u = 0 ∧ 0 ≤ u.delta ∧ u.delta < 18446744073709551616
theorem parN_cons (n : Nat) (s : List UInt8) (hs : s ≠ []) : parN (n + 1) s = match par1 s with
    | none => none
    | some (u, r) => match parN n r with
      | none => none
      | some l => some (u :: l) := by
  cases s with
  | nil => exact absurd rfl hs
  | cons x s => rfl
theorem tx_ne (u : Up) (r : List UInt8) : txU u ++ r ≠ [] := by unfold txU; simp
theorem parN_tx : ∀ (l : List Up) (n : Nat), OkL l → (txL l).length ≤ n → parN n (txL l) = some l
  | [], n, _, _ => by unfold txL; cases n <;> rfl
  | u :: l, n, h, hn => by
    have e : txL (u :: l) = txU u ++ txL l := by unfold txL; rfl
    rw [e] at hn ⊢
    rw [List.length_append] at hn
    have hp := txU_pos u
    obtain ⟨m, rfl⟩ : ∃ m, n = m + 1 := ⟨n - 1, by omega⟩
    obtain ⟨a1, a2, a3⟩ := h u (List.mem_cons_self ..)
    rw [parN_cons _ _ (tx_ne u _), par1_tx a1 a2 a3]
    simp only
    rw [parN_tx l m (fun t ht => h t (List.mem_cons_of_mem _ ht)) (by omega)]
/-- what Parse tells of Text's bytes -/
theorem parL_tx {l : List Up} (h : OkL l) : parL (txL l) = some l := parN_tx l _ h (Nat.le_refl _)
/-- of a beginning of the bytes of updates there are fewer, or none -/
theorem parN_cut : ∀ (l : List Up) (c n : Nat), OkL l → c < (txL l).length → c ≤ n → ∀ m, parN n ((txL l).take c) = some m → m.length < l.length
  | [], c, n, _, hc, _, m, _ => by unfold txL at hc; simp at hc
  | u :: l, c, n, h, hc, hn, m, hm => by
    have e : txL (u :: l) = txU u ++ txL l := by unfold txL; rfl
    rw [e] at hc hm
    rw [List.length_append] at hc
    obtain ⟨a1, a2, a3⟩ := h u (List.mem_cons_self ..)
    by_cases hz : c = 0
    · subst hz
      rw [List.take_zero] at hm
      have : m = [] := by cases n <;> (unfold parN at hm; injection hm with hm; exact hm.symm)
      subst this
      simp
    · obtain ⟨k, rfl⟩ : ∃ k, n = k + 1 := ⟨n - 1, by omega⟩
      by_cases h1 : c < (txU u).length
      · have hcl : c ≤ (txU u).length := Nat.le_of_lt h1
        rw [List.take_append_of_le_length hcl] at hm
        have hne : (txU u).take c ≠ [] := by
          intro e2
          have := congrArg List.length e2
          rw [List.length_take, List.length_nil] at this
          have hp := txU_pos u
          omega
        rw [parN_cons _ _ hne, par1_cut a1 h1] at hm
        cases hm
      · rw [List.take_append, List.take_of_length_le (by omega)] at hm
        rw [parN_cons _ _ (tx_ne u _), par1_tx a1 a2 a3] at hm
        simp only at hm
        cases e3 : parN k ((txL l).take (c - (txU u).length)) with
        | none => rw [e3] at hm; cases hm
        | some m' =>
          rw [e3] at hm
          injection hm with hm
          subst hm
          have hp := txU_pos u
          have := parN_cut l (c - (txU u).length) k (fun t ht => h t (List.mem_cons_of_mem _ ht)) (by omega) (by omega) m' e3
          simp only [List.length_cons]
          omega
theorem parL_cut {l : List Up} (h : OkL l) {c : Nat} (hc : c < (txL l).length) {m : List Up} (hm : parL ((txL l).take c) = some m) : m.length < l.length :=
  parN_cut l c _ h hc (by rw [List.length_take]; omega) m hm
theorem txL_append (a b : List Up) : txL (a ++ b) = txL a ++ txL b := List.flatMap_append
/-! ### for Parse's loop -/
theorem spl2_short {l k r : List UInt8} (h : spl2 l = some (k, r)) : r.length < l.length := by
  cases l with
  | nil => cases h
  | cons n l =>
    have h : (if l.length < n.toNat then none else some (l.take n.toNat, l.drop n.toNat)) = some (k, r) := h
    by_cases hl : l.length < n.toNat
    · rw [if_pos hl] at h; cases h
    · rw [if_neg hl] at h
      injection h with h
      injection h with h1 h2
      rw [← h2, List.length_drop, List.length_cons]; omega
theorem fin1_some {u u' : Up} {r r' : List UInt8} (h : fin1 u r = some (u', r')) : chkU u = 0 ∧ u' = u ∧ r' = r := by
  unfold fin1 at h
  split at h
  · injection h with h; injection h with h1 h2; exact ⟨by assumption, h1.symm, h2.symm⟩
  · cases h
/-- what an update of bytes is: it may be, and its numbers are in their kinds -/
theorem par1_some {s r : List UInt8} {u : Up} (h : par1 s = some (u, r)) : r.length < s.length ∧ chkU u = 0 ∧ 0 ≤ u.kind ∧ u.kind ≤ 255 ∧ 0 ≤ u.delta ∧ u.delta < 18446744073709551616 := by
  cases s with
  | nil => cases h
  | cons k s =>
    unfold par1 at h
    simp only at h
    cases e : spl2 s with
    | none => rw [e] at h; cases h
    | some p =>
      obtain ⟨key, rest⟩ := p
      rw [e] at h
      simp only at h
      have h1 := spl2_short e
      split at h
      · cases e2 : spl2 rest with
        | none => rw [e2] at h; cases h
        | some q =>
          obtain ⟨v, more⟩ := q
          rw [e2] at h
          simp only at h
          have h2 := spl2_short e2
          obtain ⟨a, rfl, rfl⟩ := fin1_some h
          refine ⟨by rw [List.length_cons]; omega, a, ?_, ?_, ?_, ?_⟩ <;> simp
      · split at h
        · split at h
          · cases h
          · obtain ⟨a, rfl, rfl⟩ := fin1_some h
            have hb := getL_bd (rest.take 8)
            have hl : (rest.take 8).length = 8 := by rw [List.length_take]; omega
            rw [hl] at hb
            refine ⟨by rw [List.length_cons, List.length_drop]; omega, a, ?_, ?_, ?_, ?_⟩
            · show (0 : Int) ≤ 3; decide
            · show (3 : Int) ≤ 255; decide
            · show (0 : Int) ≤ (getL (rest.take 8) : Nat); omega
            · show ((getL (rest.take 8) : Nat) : Int) < 18446744073709551616
              have : getL (rest.take 8) < 18446744073709551616 := hb
              omega
        · obtain ⟨a, rfl, rfl⟩ := fin1_some h
          have := k.toNat_lt
          refine ⟨by rw [List.length_cons]; omega, a, ?_, ?_, ?_, ?_⟩
          · show (0 : Int) ≤ (k.toNat : Nat); omega
          · show ((k.toNat : Nat) : Int) ≤ 255; omega
          · exact Int.le_refl 0
          · show (0 : Int) < 18446744073709551616; decide
theorem parN_more : ∀ (n m : Nat) (s : List UInt8), s.length ≤ n → s.length ≤ m → parN n s = parN m s
  | n, m, [], _, _ => by cases n <;> cases m <;> rfl
  | 0, _, x :: s, h, _ => by simp at h
  | _ + 1, 0, x :: s, _, h => by simp at h
  | n + 1, m + 1, x :: s, h, h' => by
    rw [parN_cons _ _ (by simp), parN_cons _ _ (by simp)]
    cases e : par1 (x :: s) with
    | none => rfl
    | some p =>
      obtain ⟨u, r⟩ := p
      have h1 := (par1_some e).1
      simp only
      rw [parN_more n m r (by omega) (by omega)]
theorem parL_nil : parL [] = some [] := rfl
theorem parL_none {s : List UInt8} (hs : s ≠ []) (h : par1 s = none) : parL s = none := by
  unfold parL
  obtain ⟨n, hn⟩ : ∃ n, s.length = n + 1 := ⟨s.length - 1, by have := List.length_pos_iff.2 hs; omega⟩
  rw [hn, parN_cons _ _ hs, h]
theorem parL_some {s r : List UInt8} {u : Up} (h : par1 s = some (u, r)) : parL s = (parL r).map (u :: ·) := by
  have h1 := (par1_some h).1
  have hs : s ≠ [] := fun e => by subst e; cases h
  unfold parL
  obtain ⟨n, hn⟩ : ∃ n, s.length = n + 1 := ⟨s.length - 1, by omega⟩
  rw [hn, parN_cons _ _ hs, h]
  simp only
  rw [parN_more n r.length r (by omega) (Nat.le_refl _)]
  cases parN r.length r <;> rfl
end Go.Proofs.Ytfclecbhfamomaa.Rec
