/- Layers' contracts, bundled: RecMath, RefRec, RecA, RefRecT, LendJ, RecB, RecC, RecD, RecE, SumW, RecF. -/
import Derived.Test.YtflanjcfkdjpjaaGreatDoorL02
import Derived.Test.YtflanjcfkdjpjaaGreatDoorL01
import Derived.Test.YtflanjcfkdjpjaaGreatDoorChecked
import Derived.StillTailTactics
import Derived.WalkLawsBesides
import Derived.WalkSpells
import Derived.Lib.Hide
import Derived.Outline
import Derived.Deep.DeepCutAuto
import Derived.Deep.RegionWith
import Derived.OpenShut
import Derived.Deep.QuietTactic
import Derived.BigQuiet
import Derived.Test.YtflanjcfkdjpjaaGreatDoorL10
import Derived.Test.YtflanjcfkdjpjaaGreatDoorL03
import Derived.RegionTactic
import Derived.Deep.RegionHeld3
import Derived.Lib.AppendStr
import Derived.OwnWalk
import Derived.Maps.AppendAt
/- Layer 12 (rec), prepared: updates and their bytes, as lists of bytes. -/
namespace Go.Proofs.YtflanjcfkdjpjaaGreatDoor.Rec
open Go Go.RowKit Go.Proofs.YtflanjcfkdjpjaaGreatDoor Go.Proofs.YtflanjcfkdjpjaaGreatDoor.Lend
set_option linter.unusedVariables false

/-- an update -/
structure Up where
  kind : Int
  key : List UInt8
  val : List UInt8
  delta : Int
/-- which error Check answers -/
def chkU (u : Up) : Int :=
  if u.key.length < 1 ∨ 16 < u.key.length ∨ 32 < u.val.length then 13
  else if u.kind < 1 ∨ 3 < u.kind ∨ (u.kind ≠ 1 ∧ u.val ≠ []) ∨ (u.kind ≠ 3 ∧ u.delta ≠ 0) then 2
  else 0
theorem chkU_ok {u : Up} (h : chkU u = 0) : 1 ≤ u.key.length ∧ u.key.length ≤ 16 ∧ u.val.length ≤ 32 ∧ 1 ≤ u.kind ∧ u.kind ≤ 3 ∧ (u.kind ≠ 1 → u.val = []) ∧ (u.kind ≠ 3 → u.delta = 0) := by
  unfold chkU at h
  split at h
  · omega
  · split at h
    · omega
    · rename_i h1 h2
      refine ⟨by omega, by omega, by omega, by omega, by omega, fun hk => ?_, fun hk => ?_⟩
      · by_cases e : u.val = []
        · exact e
        · exact absurd (.inr (.inr (.inl ⟨hk, e⟩))) h2
      · by_cases e : u.delta = 0
        · exact e
        · exact absurd (.inr (.inr (.inr ⟨hk, e⟩))) h2
def len8 (l : List UInt8) : List UInt8 := UInt8.ofNat l.length :: l
/-- an update's bytes -/
def txU (u : Up) : List UInt8 := UInt8.ofNat u.kind.toNat :: (len8 u.key ++ ((if u.kind = 1 then len8 u.val else []) ++ (if u.kind = 3 then encN u.delta 8 else [])))
def txL (l : List Up) : List UInt8 := l.flatMap txU
/-- the first error -/
def errL : List Up → Int
  | [] => 0
  | u :: l => if chkU u = 0 then errL l else chkU u
def spl2 : List UInt8 → Option (List UInt8 × List UInt8)
  | [] => none
  | n :: r => if r.length < n.toNat then none else some (r.take n.toNat, r.drop n.toNat)
def fin1 (u : Up) (r : List UInt8) : Option (Up × List UInt8) := if chkU u = 0 then some (u, r) else none
/-- the first update of these bytes, and what stands behind it -/
def par1 : List UInt8 → Option (Up × List UInt8)
  | [] => none
  | k :: r => match spl2 r with
    | none => none
    | some (key, rest) =>
      if k = 1 then match spl2 rest with
        | none => none
        | some (v, more) => fin1 ⟨1, key, v, 0⟩ more
      else if k = 3 then (if rest.length < 8 then none else fin1 ⟨3, key, [], getL (rest.take 8)⟩ (rest.drop 8))
      else fin1 ⟨k.toNat, key, [], 0⟩ rest
theorem ofNat_small {n : Nat} (h : n < 256) : (UInt8.ofNat n).toNat = n := by simp; omega
theorem spl2_len {l r : List UInt8} (h : l.length < 256) : spl2 (len8 l ++ r) = some (l, r) := by
  unfold len8
  show (if (l ++ r).length < (UInt8.ofNat l.length).toNat then none else some ((l ++ r).take (UInt8.ofNat l.length).toNat, (l ++ r).drop (UInt8.ofNat l.length).toNat)) = _
  rw [ofNat_small h, if_neg (by rw [List.length_append]; omega), List.take_left', List.drop_left'] <;> rfl
theorem par1_tx {u : Up} (h : chkU u = 0) (h0 : 0 ≤ u.delta) (h1 : u.delta < 18446744073709551616) (r : List UInt8) : par1 (txU u ++ r) = some (u, r) := by
  obtain ⟨k1, k2, k3, k4, k5, k6, k7⟩ := chkU_ok h
  obtain ⟨kind, key, val, delta⟩ := u
  simp only at *
  unfold txU
  simp only [List.cons_append, List.append_assoc, par1]
  rw [spl2_len (by omega)]
  have hk : kind = 1 ∨ kind = 2 ∨ kind = 3 := by omega
  rcases hk with rfl | rfl | rfl
  · have e : UInt8.ofNat (Int.toNat 1) = 1 := rfl
    simp only [e, if_true]
    rw [if_neg (by decide : ¬ (1 : Int) = 3)]
    simp only [List.nil_append]
    rw [spl2_len (by omega)]
    have hd := k7 (by omega)
    subst hd
    show fin1 _ _ = _
    unfold fin1
    rw [if_pos h]
  · have e : UInt8.ofNat (Int.toNat 2) = 2 := rfl
    have hd := k7 (by omega)
    have hv := k6 (by omega)
    subst hd hv
    simp only [e]
    rw [if_neg (by decide : ¬ (2 : UInt8) = 1), if_neg (by decide : ¬ (2 : UInt8) = 3), if_neg (by decide : ¬ (2 : Int) = 1), if_neg (by decide : ¬ (2 : Int) = 3)]
    simp only [List.nil_append]
    have e2 : (((2 : UInt8).toNat : Nat) : Int) = 2 := rfl
    unfold fin1
    rw [e2, if_pos h]
  · have e : UInt8.ofNat (Int.toNat 3) = 3 := rfl
    have hv := k6 (by omega)
    subst hv
    simp only [e]
    rw [if_neg (by decide : ¬ (3 : UInt8) = 1), if_neg (by decide : ¬ (3 : Int) = 1)]
    simp only [if_true, List.nil_append]
    have hl : (encN delta 8).length = 8 := encN_length _ _
    rw [if_neg (by rw [List.length_append]; omega), List.take_left' hl, List.drop_left' hl]
    have hg : (getL (encN delta 8) : Int) = delta := getL_encN delta 8 h0 (by simpa using h1)
    unfold fin1
    rw [hg, if_pos h]
theorem txU_length {u : Up} (h : chkU u = 0) : (txU u).length = 2 + u.key.length + (if u.kind = 1 then 1 + u.val.length else 0) + (if u.kind = 3 then 8 else 0) := by
  unfold txU len8
  simp only [List.length_cons, List.length_append]
  split <;> split <;> simp [encN_length] <;> omega
theorem txU_pos (u : Up) : 0 < (txU u).length := by unfold txU; simp
/-- the updates of these bytes -/
def parN : Nat → List UInt8 → Option (List Up)
  | _, [] => some []
  | 0, _ :: _ => none
  | n + 1, s => match par1 s with
    | none => none
    | some (u, r) => match parN n r with
      | none => none
      | some l => some (u :: l)
def parL (s : List UInt8) : Option (List Up) := parN s.length s
/-- updates that may be -/
def OkL (l : List Up) : Prop := ∀ u ∈ l, chkU u = 0 ∧ 0 ≤ u.delta ∧ u.delta < 18446744073709551616
theorem parN_cons (n : Nat) (s : List UInt8) (hs : s ≠ []) : parN (n + 1) s = match par1 s with
    | none => none
    | some (u, r) => match parN n r with
      | none => none
      | some l => some (u :: l) := by
  cases s with
  | nil => exact absurd rfl hs
  | cons x s => rfl
theorem tx_ne (u : Up) (r : List UInt8) : txU u ++ r ≠ [] := by unfold txU; simp
theorem parN_tx : ∀ (l : List Up) (n : Nat), OkL l → (txL l).length ≤ n → parN n (txL l) = some l
  | [], n, _, _ => by unfold txL; cases n <;> rfl
  | u :: l, n, h, hn => by
    have e : txL (u :: l) = txU u ++ txL l := by unfold txL; rfl
    rw [e] at hn ⊢
    rw [List.length_append] at hn
    have hp := txU_pos u
    obtain ⟨m, rfl⟩ : ∃ m, n = m + 1 := ⟨n - 1, by omega⟩
    obtain ⟨a1, a2, a3⟩ := h u (List.mem_cons_self ..)
    rw [parN_cons _ _ (tx_ne u _), par1_tx a1 a2 a3]
    simp only
    rw [parN_tx l m (fun t ht => h t (List.mem_cons_of_mem _ ht)) (by omega)]
/-- what Parse tells of Text's bytes -/
theorem parL_tx {l : List Up} (h : OkL l) : parL (txL l) = some l := parN_tx l _ h (Nat.le_refl _)
theorem txL_append (a b : List Up) : txL (a ++ b) = txL a ++ txL b := List.flatMap_append
/-! ### for Parse's loop -/
theorem spl2_short {l k r : List UInt8} (h : spl2 l = some (k, r)) : r.length < l.length := by
  cases l with
  | nil => cases h
  | cons n l =>
    have h : (if l.length < n.toNat then none else some (l.take n.toNat, l.drop n.toNat)) = some (k, r) := h
    by_cases hl : l.length < n.toNat
    · rw [if_pos hl] at h; cases h
    · rw [if_neg hl] at h
      injection h with h
      injection h with h1 h2
      rw [← h2, List.length_drop, List.length_cons]; omega
theorem fin1_some {u u' : Up} {r r' : List UInt8} (h : fin1 u r = some (u', r')) : chkU u = 0 ∧ u' = u ∧ r' = r := by
  unfold fin1 at h
  split at h
  · injection h with h; injection h with h1 h2; exact ⟨by assumption, h1.symm, h2.symm⟩
  · cases h
/-- what an update of bytes is: it may be, and its numbers are in their kinds -/
theorem par1_some {s r : List UInt8} {u : Up} (h : par1 s = some (u, r)) : r.length < s.length ∧ chkU u = 0 ∧ 0 ≤ u.kind ∧ u.kind ≤ 255 ∧ 0 ≤ u.delta ∧ u.delta < 18446744073709551616 := by
  cases s with
  | nil => cases h
  | cons k s =>
    unfold par1 at h
    simp only at h
    cases e : spl2 s with
    | none => rw [e] at h; cases h
    | some p =>
      obtain ⟨key, rest⟩ := p
      rw [e] at h
      simp only at h
      have h1 := spl2_short e
      split at h
      · cases e2 : spl2 rest with
        | none => rw [e2] at h; cases h
        | some q =>
          obtain ⟨v, more⟩ := q
          rw [e2] at h
          simp only at h
          have h2 := spl2_short e2
          obtain ⟨a, rfl, rfl⟩ := fin1_some h
          refine ⟨by rw [List.length_cons]; omega, a, ?_, ?_, ?_, ?_⟩ <;> simp
      · split at h
        · split at h
          · cases h
          · obtain ⟨a, rfl, rfl⟩ := fin1_some h
            have hb := getL_bd (rest.take 8)
            have hl : (rest.take 8).length = 8 := by rw [List.length_take]; omega
            rw [hl] at hb
            refine ⟨by rw [List.length_cons, List.length_drop]; omega, a, ?_, ?_, ?_, ?_⟩
            · show (0 : Int) ≤ 3; decide
            · show (3 : Int) ≤ 255; decide
            · show (0 : Int) ≤ (getL (rest.take 8) : Nat); omega
            · show ((getL (rest.take 8) : Nat) : Int) < 18446744073709551616
              have : getL (rest.take 8) < 18446744073709551616 := hb
              omega
        · obtain ⟨a, rfl, rfl⟩ := fin1_some h
          have := k.toNat_lt
          refine ⟨by rw [List.length_cons]; omega, a, ?_, ?_, ?_, ?_⟩
          · show (0 : Int) ≤ (k.toNat : Nat); omega
          · show ((k.toNat : Nat) : Int) ≤ 255; omega
          · exact Int.le_refl 0
          · show (0 : Int) < 18446744073709551616; decide
theorem parN_more : ∀ (n m : Nat) (s : List UInt8), s.length ≤ n → s.length ≤ m → parN n s = parN m s
  | n, m, [], _, _ => by cases n <;> cases m <;> rfl
  | 0, _, x :: s, h, _ => by simp at h
  | _ + 1, 0, x :: s, _, h => by simp at h
  | n + 1, m + 1, x :: s, h, h' => by
    rw [parN_cons _ _ (by simp), parN_cons _ _ (by simp)]
    cases e : par1 (x :: s) with
    | none => rfl
    | some p =>
      obtain ⟨u, r⟩ := p
      have h1 := (par1_some e).1
      simp only
      rw [parN_more n m r (by omega) (by omega)]
theorem parL_nil : parL [] = some [] := rfl
theorem parL_none {s : List UInt8} (hs : s ≠ []) (h : par1 s = none) : parL s = none := by
  unfold parL
  obtain ⟨n, hn⟩ : ∃ n, s.length = n + 1 := ⟨s.length - 1, by have := List.length_pos_iff.2 hs; omega⟩
  rw [hn, parN_cons _ _ hs, h]
theorem parL_some {s r : List UInt8} {u : Up} (h : par1 s = some (u, r)) : parL s = (parL r).map (u :: ·) := by
  have h1 := (par1_some h).1
  have hs : s ≠ [] := fun e => by subst e; cases h
  unfold parL
  obtain ⟨n, hn⟩ : ∃ n, s.length = n + 1 := ⟨s.length - 1, by omega⟩
  rw [hn, parN_cons _ _ hs, h]
  simp only
  rw [parN_more n r.length r (by omega) (Nat.le_refl _)]
  cases parN r.length r <;> rfl
end Go.Proofs.YtflanjcfkdjpjaaGreatDoor.Rec


/- Layer 12 (rec), prepared: the document's own answers: Check, Text. -/
namespace Go.Proofs.YtflanjcfkdjpjaaGreatDoor.Rec
open Go Go.RowKit Go.Proofs.YtflanjcfkdjpjaaGreatDoor Go.Proofs.YtflanjcfkdjpjaaGreatDoor.Lend
set_option linter.unusedVariables false

/-- an update's four cells -/
def encU (u : Up) : List Value := [.int .u8 u.kind, .string (Lend.strOf u.key), .string (Lend.strOf u.val), .int .u64 u.delta]
theorem str_ne {l : List UInt8} (h : l ≠ []) : ¬ (Lend.strOf l).toList = [] := by
  rw [ByteArray.toList_eq]
  exact h
end Go.Proofs.YtflanjcfkdjpjaaGreatDoor.Rec


/- Layer 12 (rec): what Check answers. -/
namespace Go.Proofs.YtflanjcfkdjpjaaGreatDoor.Rec
open Go Go.RowKit Go.Proofs.YtflanjcfkdjpjaaGreatDoor Go.Proofs.YtflanjcfkdjpjaaGreatDoor.Lend
set_option linter.unusedVariables false

theorem str_ne' {l : List UInt8} (h : l ≠ []) : (Lend.strOf l).toList.isEmpty = false := by
  have := str_ne h
  cases e : (Lend.strOf l).toList with
  | nil => exact absurd e this
  | cons => rfl
set_option maxRecDepth 100000 in
set_option maxHeartbeats 2000000 in
theorem check_any (u : Up) (w : World) (hk0 : 0 ≤ u.kind) (hk1 : u.kind ≤ 255) : Calls Tryz.prog 69 #[.agg #[.int .u8 u.kind, .string (Lend.strOf u.key), .string (Lend.strOf u.val), .int .u64 u.delta]] w fun e w' => e = .returned (.int .i64 (chkU u)) ∧ Below w.heap.size w w' := by
  obtain ⟨kind, key, val, delta⟩ := u
  simp only at hk0 hk1 ⊢
  obtain ⟨c, hc⟩ : ∃ c, c = chkU ⟨kind, key, val, delta⟩ := ⟨_, rfl⟩
  rw [← hc]
  unfold chkU at hc
  simp only at hc
  have hks : (Lend.strOf key).size = key.length := by simp [Lend.strOf, ByteArray.size]
  have hvs : (Lend.strOf val).size = val.length := by simp [Lend.strOf, ByteArray.size]
  have HB := Lib.hid (((Chg.refl (fun _ => False) w).alloc (.cells #[.int .u8 kind, .string (Lend.strOf key), .string (Lend.strOf val), .int .u64 delta] 67)).below (Nat.le_refl _) (fun _ h => h.elim))
  by_cases h1 : key.length < 1 ∨ 16 < key.length ∨ 32 < val.length
  · rw [if_pos h1] at hc
    subst hc
    have h1' : key = [] ∨ (key ≠ [] ∧ 16 < key.length) ∨ (key ≠ [] ∧ ¬ 16 < key.length ∧ 32 < val.length) := by
      by_cases e : key = []
      · exact .inl e
      · have := List.length_pos_iff.2 e
        rcases h1 with h | h | h
        · omega
        · exact .inr (.inl ⟨e, h⟩)
        · by_cases h6 : 16 < key.length
          · exact .inr (.inl ⟨e, h6⟩)
          · exact .inr (.inr ⟨e, h6, h⟩)
    rw [← hks, ← hvs] at h1'
    clear h1 hvs
    rcases h1' with h | ⟨h, h'⟩ | ⟨h, h', h''⟩
    · subst h
      clear hks
      generalize Lend.strOf val = V at *
      obtain ⟨K, hK, hK2⟩ : ∃ x, x = Lend.strOf [] ∧ x = ⟨#[]⟩ := ⟨_, rfl, rfl⟩
      rw [← hK, hK2] at HB ⊢
      clear hK
      go_enter Tryz.func69, Tryz.ntmps69
      go_wp2
      go_ret
      exact ⟨rfl, HB.out⟩
    · have a0 := str_ne h
      have a0' := str_ne' h
      clear h hks
      generalize Lend.strOf key = K at *
      generalize Lend.strOf val = V at *
      have a2 : 16 < (K.size : Int) := by omega
      go_enter Tryz.func69, Tryz.ntmps69
      go_wp2
      go_ret
      exact ⟨rfl, HB.out⟩
    · have a0 := str_ne h
      have a0' := str_ne' h
      clear h hks
      generalize Lend.strOf key = K at *
      generalize Lend.strOf val = V at *
      have a2 : ¬ 16 < (K.size : Int) := by omega
      have a3 : 32 < (V.size : Int) := by omega
      go_enter Tryz.func69, Tryz.ntmps69
      go_wp2
      go_ret
      exact ⟨rfl, HB.out⟩
  · rw [if_neg h1] at hc
    have a0 := str_ne (l := key) (fun e => by subst e; exact h1 (.inl (by decide)))
    have a0' := str_ne' (l := key) (fun e => by subst e; exact h1 (.inl (by decide)))
    have a2 : ¬ 16 < ((Lend.strOf key).size : Int) := by omega
    have a3 : ¬ 32 < ((Lend.strOf val).size : Int) := by omega
    clear h1 hks hvs
    generalize Lend.strOf key = K at *
    by_cases h4 : kind < 1
    · rw [if_pos (.inl h4)] at hc
      subst hc
      generalize Lend.strOf val = V at *
      go_enter Tryz.func69, Tryz.ntmps69
      go_wp2
      go_ret
      exact ⟨rfl, HB.out⟩
    · by_cases h5 : 3 < kind
      · rw [if_pos (.inr (.inl h5))] at hc
        subst hc
        generalize Lend.strOf val = V at *
        go_enter Tryz.func69, Tryz.ntmps69
        go_wp2
        go_ret
        exact ⟨rfl, HB.out⟩
      · have h6 : kind = 1 ∨ kind = 2 ∨ kind = 3 := by omega
        have hcs : (∃ x, x = (Lend.strOf val) ∧ val = [] ∧ x = ⟨#[]⟩) ∨ (val ≠ [] ∧ ¬ (Lend.strOf val).toList = []) := by
          by_cases e : val = []
          · exact .inl ⟨_, rfl, e, by rw [e]; rfl⟩
          · exact .inr ⟨e, str_ne e⟩
        clear h4 h5 hk0 hk1
        by_cases hd : delta = 0
        · subst hd
          rcases hcs with ⟨x, hx, hv, hx2⟩ | ⟨hv, hx⟩
          · subst hv
            rw [← hx, hx2] at a3 HB ⊢
            clear hx
            rcases h6 with rfl | rfl | rfl
            all_goals
              simp at hc
              subst hc
              go_enter Tryz.func69, Tryz.ntmps69
              go_wp2
              go_ret
              exact ⟨rfl, HB.out⟩
          · generalize Lend.strOf val = V at *
            rcases h6 with rfl | rfl | rfl
            all_goals
              simp [hv] at hc
              subst hc
              go_enter Tryz.func69, Tryz.ntmps69
              go_wp2
              go_ret
              exact ⟨rfl, HB.out⟩
        · rcases hcs with ⟨x, hx, hv, hx2⟩ | ⟨hv, hx⟩
          · subst hv
            rw [← hx, hx2] at a3 HB ⊢
            clear hx
            rcases h6 with rfl | rfl | rfl
            all_goals
              simp [hd] at hc
              subst hc
              go_enter Tryz.func69, Tryz.ntmps69
              go_wp2
              go_ret
              exact ⟨rfl, HB.out⟩
          · generalize Lend.strOf val = V at *
            rcases h6 with rfl | rfl | rfl
            all_goals
              simp [hv, hd] at hc
              subst hc
              go_enter Tryz.func69, Tryz.ntmps69
              go_wp2
              go_ret
              exact ⟨rfl, HB.out⟩
end Go.Proofs.YtflanjcfkdjpjaaGreatDoor.Rec


/- Layer 12 (rec), prepared: the document's own answers: Text. -/
namespace Go.Proofs.YtflanjcfkdjpjaaGreatDoor.Rec
open Go Go.RowKit Go.Proofs.YtflanjcfkdjpjaaGreatDoor Go.Proofs.YtflanjcfkdjpjaaGreatDoor.Lend
set_option linter.unusedVariables false

/-- a slice that reads as the updates l -/
structure UR (w : World) (v : Value) (l : List Up) : Prop where
  form : ∃ a cap, v = .slice a l.length cap ∧ (0 < l.length → ∃ g off, a = some ⟨g, off, none⟩ ∧ ∀ i (hi : i < l.length) j, j < 4 → w.cell? ⟨g, off + i * 4 + j, none⟩ = (encU l[i])[j]?)
theorem UR.below {w w' : World} {v : Value} {l : List Up} (h : UR w v l) (hb : Below w.heap.size w w') : UR w' v l := by
  obtain ⟨a, cap, rfl, hx⟩ := h.form
  refine ⟨a, cap, rfl, fun h0 => ?_⟩
  obtain ⟨g, off, rfl, hc⟩ := hx h0
  refine ⟨g, off, rfl, fun i hi j hj => ?_⟩
  rw [← hc i hi j hj]
  have h1 := hc i hi j hj
  have h2 : (encU l[i])[j]? = some ((encU l[i])[j]'(by simpa [encU] using hj)) := List.getElem?_eq_getElem _
  rw [h2] at h1
  exact hb.cell (World.block_lt_of_cell? _ _ h1)
theorem txL_step {l : List Up} {k : Nat} (hk : k < l.length) : txL (l.take (k + 1)) = txL (l.take k) ++ txU l[k] := by
  rw [List.take_succ_eq_append_getElem hk, txL_append]
  congr 1
  unfold txL; simp
theorem errL_step {l : List Up} {k : Nat} (hk : k < l.length) (h : errL (l.take k) = 0) : errL (l.take (k + 1)) = chkU l[k] := by
  have : ∀ (a : List Up) (u : Up), errL a = 0 → errL (a ++ [u]) = chkU u := fun a u => by
    induction a with
    | nil => intro _; show (if chkU u = 0 then errL [] else chkU u) = chkU u; split <;> simp_all [errL]
    | cons x a ih =>
      intro h
      by_cases e : chkU x = 0
      · have h2 : errL a = 0 := by have : errL (x :: a) = errL a := by show (if chkU x = 0 then _ else _) = _; rw [if_pos e]
                                   rw [← this]; exact h
        show (if chkU x = 0 then errL (a ++ [u]) else chkU x) = _
        rw [if_pos e]; exact ih h2
      · have : errL (x :: a) = chkU x := by show (if chkU x = 0 then _ else _) = _; rw [if_neg e]
        rw [this] at h; exact absurd h e
  rw [List.take_succ_eq_append_getElem hk]; exact this _ _ h
theorem errL_at {l : List Up} {k : Nat} (hk : k < l.length) (h : errL (l.take k) = 0) (hc : chkU l[k] ≠ 0) : errL l = chkU l[k] := by
  have : ∀ (l : List Up) (k : Nat) (hk : k < l.length), errL (l.take k) = 0 → chkU l[k] ≠ 0 → errL l = chkU l[k] := fun l => by
    induction l with
    | nil => intro k hk; cases hk
    | cons x l ih =>
      intro k hk h hc
      cases k with
      | zero =>
        show (if chkU x = 0 then errL l else chkU x) = chkU x
        have hc' : ¬ chkU x = 0 := hc
        rw [if_neg hc']
      | succ k =>
        rw [List.take_succ_cons] at h
        by_cases e : chkU x = 0
        · have h2 : errL (l.take k) = 0 := by
            have h3 : errL (x :: l.take k) = errL (l.take k) := by show (if chkU x = 0 then _ else _) = _; rw [if_pos e]
            rw [← h3]; exact h
          show (if chkU x = 0 then errL l else chkU x) = _
          rw [if_pos e]
          exact ih k (by simpa using hk) h2 hc
        · have h3 : errL (x :: l.take k) = chkU x := by show (if chkU x = 0 then _ else _) = _; rw [if_neg e]
          rw [h3] at h; exact absurd h e
  exact this l k hk h hc
theorem getD_toNat {b : Int} (h0 : 0 ≤ b) (h1 : b ≤ 255) : ((UInt8.ofNat b.toNat).toNat : Int) = b := by rw [ofNat_small (by omega)]; omega
theorem conv1 (w : World) (b1 : Int) (h1 : 0 ≤ b1) (h2 : b1 ≤ 255) : (convert 44 9 (.slice (some ⟨w.heap.size, 0, none⟩) 1 1)).run Tryz.prog (w.alloc (.cells #[.int .u8 b1] 5)) = .ok (.string (Lend.strOf [UInt8.ofNat b1.toNat])) (w.alloc (.cells #[.int .u8 b1] 5)) := by
  refine run_string_brow _ w.heap.size 1 1 [UInt8.ofNat b1.toNat] ⟨fun j hj => ?_, fun j hj => ?_⟩ rfl
  · have h := (Has.new w [.int .u8 b1] 5).cell j
    match j, hj with
    | 0, _ => rw [show (([UInt8.ofNat b1.toNat].getD 0 0).toNat : Int) = b1 from getD_toNat h1 h2]; exact h
  · exact (Has.new w [.int .u8 b1] 5).frozen j
theorem sapp (a b : List UInt8) : Lend.strOf a ++ Lend.strOf b = Lend.strOf (a ++ b) := by
  apply ByteArray.ext
  simp [Lend.strOf]
theorem ssize (a : List UInt8) : (Lend.strOf a).size = a.length := by simp [Lend.strOf, ByteArray.size]
/-- what Text answers -/
def txT (l : List Up) : List UInt8 := if errL l = 0 then txL l else []
end Go.Proofs.YtflanjcfkdjpjaaGreatDoor.Rec


/- Contracts of layer 1 (lend): Join; and the statements' own sign of life. -/
namespace Go.Proofs.YtflanjcfkdjpjaaGreatDoor.Lend
open Go.RowKit Go.Proofs.YtflanjcfkdjpjaaGreatDoor
set_option linter.unusedVariables false

def jnB (l : List UInt8) : Bool := decide (l.length ≤ 255)
def jnS (l : List UInt8) : List UInt8 := if l.length ≤ 255 then UInt8.ofNat l.length :: l else []

set_option maxRecDepth 100000 in
theorem join_any (s : ByteArray) (w : World) (hs : s.size ≤ 1000000) :
    Calls Tryz.prog 103 #[.string s] w fun e w' => e = .returned (.tuple #[.string (strOf (jnS s.data.toList)), .bool (jnB s.data.toList)]) ∧ Below w.heap.size w w' := by
  by_cases h : s.size ≤ 255
  · have hcv := run_string_one w s.size
    have hsz : (strOf [UInt8.ofNat s.size]).size ≤ 1 := Nat.le_refl _
    go_enter Tryz.func103, Tryz.ntmps103
    go_wp2
    go_ret2
    refine ⟨ret_wr (strOf_ext ?_) ?_, (Below.refl _ _).alloc (Nat.le_refl _) _⟩
    · rw [jnS, if_pos (by rw [bytes_length]; exact h), bytes_length]
      simp [strOf]
    · simp [jnB, h]
  · go_enter Tryz.func103, Tryz.ntmps103
    go_wp2
    go_ret2
    exact ⟨ret_wr (by rw [jnS, if_neg (by rw [bytes_length]; exact h)]; rfl) (by simp [jnB]; omega), Below.refl _ _⟩

end Go.Proofs.YtflanjcfkdjpjaaGreatDoor.Lend


/- Layer 12 (rec): an update's bytes, its size. -/
namespace Go.Proofs.YtflanjcfkdjpjaaGreatDoor
open Go.RowKit
theorem Row.oneAt (kd : IntKind) (w : World) (a : Int) (e : TypeId) (n : Nat) (h : n = w.heap.size) : Row kd (w.alloc (.cells #[.int kd a] e)) (some ⟨n, 0, none⟩) 1 [a] := by
  subst h
  refine ⟨rfl, fun _ => ⟨w.heap.size, 0, rfl, fun i hi => ?_⟩⟩
  match i, hi with
  | 0, _ => simp
end Go.Proofs.YtflanjcfkdjpjaaGreatDoor
namespace Go.Proofs.YtflanjcfkdjpjaaGreatDoor.Rec
open Go Go.RowKit Go.Proofs.YtflanjcfkdjpjaaGreatDoor Go.Proofs.YtflanjcfkdjpjaaGreatDoor.Lend
set_option linter.unusedVariables false

theorem keep1 {w1 w2 : World} {p : Addr} {x : Value} (h : w1.cell? p = some x) (hb : Below w1.heap.size w1 w2) : w2.cell? p = some x := by rw [hb.cell (World.block_lt_of_cell? _ _ h)]; exact h
theorem keep3 {w1 w2 : World} {p q r : Addr} {x y z : Value} (h : w1.cell? p = some x ∧ w1.cell? q = some y ∧ w1.cell? r = some z) (hb : Below w1.heap.size w1 w2) :
    w2.cell? p = some x ∧ w2.cell? q = some y ∧ w2.cell? r = some z := ⟨keep1 h.1 hb, keep1 h.2.1 hb, keep1 h.2.2 hb⟩
theorem below_new (w : World) (o : Obj) : Below w.heap.size w (w.alloc o) := (Below.refl _ _).alloc (Nat.le_refl _) _
theorem below_on {w w1 w2 : World} (h : Below w.heap.size w w1) (k : Below w1.heap.size w1 w2) : Below w.heap.size w w2 := h.trans (k.mono h.size)
theorem below_nw {w w1 : World} (h : Below w.heap.size w w1) (o : Obj) : Below w.heap.size w (w1.alloc o) := h.alloc h.size o
theorem below_dr {w w1 : World} (h : Below w.heap.size w w1) : Below w.heap.size w w1.drew := h.drew
theorem ret_str {a b : ByteArray} (h : a = b) : Ending.returned (.string a) = .returned (.string b) := by rw [h]
theorem ret_i64 {a b : Int} (h : a = b) : Ending.returned (.int .i64 a) = .returned (.int .i64 b) := by rw [h]
theorem deltaW_any (w : World) : Calls Tryz.prog 104 #[] w fun e w' => ∃ b, e = .returned (.slice (some ⟨b, 0, none⟩) 1 1) ∧ Row .i64 w' (some ⟨b, 0, none⟩) 1 [8] ∧ Below w.heap.size w w' := by
  go_enter Tryz.func104, Tryz.ntmps104
  go_wp2
  go_ret
  exact ⟨_, rfl, Row.oneAt .i64 w 8 _ _ rfl, below_new _ _⟩
theorem recW_any (w : World) : Calls Tryz.prog 72 #[] w fun e w' => ∃ b, e = .returned (.slice (some ⟨b, 0, none⟩) 3 3) ∧ Row .i64 w' (some ⟨b, 0, none⟩) 3 [8, 4, 2] ∧ Below w.heap.size w w' := by
  go_enter Tryz.func72, Tryz.ntmps72
  go_wp2
  go_ret
  exact ⟨_, rfl, Row.threeAt .i64 w 8 4 2 _ _ rfl, below_new _ _⟩
theorem wr8 {d : Int} (h0 : 0 ≤ d) (h1 : d < 18446744073709551616) : wrS [8] [d] = Lend.strOf (encN d 8) ∧ wrB [8] [d] = true := by
  have h := wr_ok (ws := [8]) (ns := [d]) rfl rfl (by simp [fitsL, fitsB_8 d h1])
  refine ⟨?_, h.1⟩
  rw [h.2]
  simp [encL]
/-- a text, with its length ahead -/
theorem join_len (l : List UInt8) (w : World) (h : l.length ≤ 255) : Calls Tryz.prog 103 #[.string (Lend.strOf l)] w fun e w' => e = .returned (.tuple #[.string (Lend.strOf (len8 l)), .bool true]) ∧ Below w.heap.size w w' := by
  refine (join_any (Lend.strOf l) w (by rw [ssize]; omega)).mono ?_
  rintro e w' ⟨rfl, hb⟩
  refine ⟨?_, hb⟩
  rw [Lend.strOf_data, show jnS l = len8 l by unfold jnS len8; rw [if_pos h], show jnB l = true by simp [jnB, h]]
theorem txU_le {u : Up} (h : chkU u = 0) : (txU u).length ≤ 51 := by
  obtain ⟨p1, p2, p3, p4, p5, p6, p7⟩ := chkU_ok h
  rw [txU_length h]
  split <;> split <;> omega
set_option maxRecDepth 100000 in
set_option maxHeartbeats 4000000 in
theorem text_any (u : Up) (w : World) (hc : chkU u = 0) (h0 : 0 ≤ u.delta) (h1 : u.delta < 18446744073709551616) : Calls Tryz.prog 70 #[.agg #[.int .u8 u.kind, .string (Lend.strOf u.key), .string (Lend.strOf u.val), .int .u64 u.delta]] w fun e w' => e = .returned (.string (Lend.strOf (txU u))) ∧ Below w.heap.size w w' := by
  obtain ⟨p1, p2, p3, p4, p5, p6, p7⟩ := chkU_ok hc
  have HJK := Lib.hid (fun W => join_len u.key W (by omega))
  have HJV := Lib.hid (fun W => join_len u.val W (by omega))
  have HWR := Lib.hid (wr8 h0 h1)
  have HDN := Lib.hid (show ∀ n ∈ [u.delta], 0 ≤ n ∧ n < 18446744073709551616 from fun n hn => by rw [List.mem_singleton] at hn; subst hn; exact ⟨h0, h1⟩)
  have HTX : Hid (txU u = [UInt8.ofNat u.kind.toNat] ++ len8 u.key ++ ((if u.kind = 1 then len8 u.val else []) ++ (if u.kind = 3 then encN u.delta 8 else []))) := Lib.hid (by unfold txU; simp)
  obtain ⟨D, hD⟩ : ∃ D, D = Lend.strOf (encN u.delta 8) := ⟨_, rfl⟩
  have hds : D.size ≤ 8 := by rw [hD, ssize, encN_length]; omega
  rw [← hD] at HWR
  have HD := Lib.hid hD
  obtain ⟨J, hJ⟩ : ∃ D, D = Lend.strOf (len8 u.key) := ⟨_, rfl⟩
  have hjs : J.size ≤ 17 := by rw [hJ, ssize]; simp [len8]; omega
  rw [← hJ] at HJK
  have HJ := Lib.hid hJ
  obtain ⟨V, hV⟩ : ∃ D, D = Lend.strOf (len8 u.val) := ⟨_, rfl⟩
  have hvs : V.size ≤ 33 := by rw [hV, ssize]; simp [len8]; omega
  rw [← hV] at HJV
  have HV := Lib.hid hV
  obtain ⟨kd, hkd⟩ : ∃ x, x = u.kind := ⟨_, rfl⟩
  obtain ⟨dl, hdl⟩ : ∃ x, x = u.delta := ⟨_, rfl⟩
  obtain ⟨k, hk⟩ : ∃ x, x = Lend.strOf u.key := ⟨_, rfl⟩
  obtain ⟨v, hv⟩ : ∃ x, x = Lend.strOf u.val := ⟨_, rfl⟩
  rw [← hk] at HJK
  rw [← hv] at HJV
  rw [← hkd] at p4 p5 HTX
  rw [← hdl] at HWR HDN HTX
  rw [← hkd, ← hdl, ← hk, ← hv]
  have HDL := Lib.hid hdl
  clear hc h0 h1 p1 p2 p3 p6 p7 hD hJ hV hkd hdl hk hv
  obtain ⟨w0, hw0⟩ : ∃ x, x = w.alloc (.cells #[.int .u8 kd, .string k, .string v, .int .u64 dl] 67) := ⟨_, rfl⟩
  have HB0 := Lib.hid (show Below w.heap.size w w0 by rw [hw0]; exact below_new _ _)
  have HX := Lib.hid (show Has w0 w.heap.size 67 [.int .u8 kd, .string k, .string v, .int .u64 dl] by rw [hw0]; exact Has.new _ _ _)
  rcases (show kd = 1 ∨ kd = 2 ∨ kd = 3 by omega) with rfl | rfl | rfl
  all_goals
    clear p4 p5
    go_enter Tryz.func70, Tryz.ntmps70
    go_wp2_with fail
    rw [← hw0]
    refine (HJK.out _).mono ?_
    rintro e w1 ⟨rfl, hb1⟩
    have hx1 := HX.out.below hb1 HX.out.lt
    have HB1 := Lib.hid (below_on HB0.out hb1)
    have HX1 := Lib.hid hx1
    have hxl := hx1.lt
    have y0 := hx1.cell 0
    have y1 := hx1.cell 1
    have y2 := hx1.cell 2
    have y3 := hx1.cell 3
    simp only [List.getElem?_cons_zero, List.getElem?_cons_succ] at y0 y1 y2 y3
    clear hx1 hb1 hw0
  · have hcv := conv1 w1 1 (by decide) (by decide)
    obtain ⟨P, hP⟩ : ∃ P, P = Lend.strOf [UInt8.ofNat (1 : Int).toNat] := ⟨_, rfl⟩
    rw [← hP] at hcv
    have hps : P.size ≤ 1 := by rw [hP]; exact Nat.le_refl _
    have HP := Lib.hid hP
    clear hP
    go_wp2_with fail
    refine (HJV.out _).mono ?_
    rintro e w2 ⟨rfl, hb2⟩
    have HB2 := Lib.hid (below_on (below_nw HB1.out (.cells #[.int .u8 1] 5)) hb2)
    clear hb2 y0 y1 y2 y3 hcv
    go_wp2_with fail
    go_ret
    exact ⟨ret_str (by rw [HP.out, HJ.out, HV.out, sapp, sapp, HTX.out]; simp), HB2.out⟩
  · have hcv := conv1 w1 2 (by decide) (by decide)
    obtain ⟨P, hP⟩ : ∃ P, P = Lend.strOf [UInt8.ofNat (2 : Int).toNat] := ⟨_, rfl⟩
    rw [← hP] at hcv
    have hps : P.size ≤ 1 := by rw [hP]; exact Nat.le_refl _
    have HP := Lib.hid hP
    clear hP
    go_wp2_with fail
    go_ret
    exact ⟨ret_str (by rw [HP.out, HJ.out, sapp, HTX.out]; simp), below_nw HB1.out _⟩
  · have hcv := conv1 w1 3 (by decide) (by decide)
    obtain ⟨P, hP⟩ : ∃ P, P = Lend.strOf [UInt8.ofNat (3 : Int).toNat] := ⟨_, rfl⟩
    rw [← hP] at hcv
    have hps : P.size ≤ 1 := by rw [hP]; exact Nat.le_refl _
    have HP := Lib.hid hP
    clear hP
    go_wp2_with fail
    go_upto_region 8 with fail
    go_cut [8] (fun s wx => s = .string D ∧ Below w.heap.size w wx)
    case first =>
      go_region_held3 (fun W => W.cell? ⟨w.heap.size, 3, none⟩ = some (.int .u64 dl))
        (first
          | with_reducible exact keep1 (by assumption) (by assumption)
          | with_reducible exact keep1 (by assumption) (below_new _ _)
          | go_keep)
        (first
          | (go_at_call 104; refine (deltaW_any _).mono ?_; rintro e wm ⟨bm, rfl, hrow, hbel⟩)
          | (go_at_call 71
             refine (write_any _ _ 1 1 1 1 [8] [dl] _ ?_ ?_ (by decide) (by decide) HDN.out).mono ?_
             · repeat (first | assumption | apply Row.drw | apply Row.new | refine Row.later ?_ (by assumption))
             · repeat (first | (refine Row.oneAt _ _ _ _ _ ?_; first | rfl | (simp; done)) | apply Row.drw | apply Row.new | refine Row.later ?_ (by assumption))
             rintro e wo ⟨rfl, hbel2⟩
             rw [HWR.out.1, HWR.out.2]))
      all_goals (go_wp2_with fail; go_meet; exact ⟨rfl, by repeat (first | exact HB1.out | exact Below.refl _ _ | apply below_nw | apply below_dr | refine below_on ?_ (by assumption))⟩)
    case rest =>
      obtain ⟨rfl, hbc⟩ := hcut
      clear y0 y1 y2 y3 hcv
      go_wp2_with fail
      go_ret
      exact ⟨ret_str (by rw [HP.out, HJ.out, HD.out, sapp, sapp, HTX.out]; simp [HDL.out]), hbc⟩
end Go.Proofs.YtflanjcfkdjpjaaGreatDoor.Rec


/- Layer 12 (rec): Text. -/
namespace Go.Proofs.YtflanjcfkdjpjaaGreatDoor.Rec
open Go Go.RowKit Go.Proofs.YtflanjcfkdjpjaaGreatDoor Go.Proofs.YtflanjcfkdjpjaaGreatDoor.Lend
set_option linter.unusedVariables false

theorem own_bel {w w' : World} {B : Nat} {e : TypeId} {k : Nat} {v : Value} {n : Nat} {xs : List Value} (h : w.ownsRow B e k v n xs) (hb : Below w.heap.size w w') : w'.ownsRow B e k v n xs := owns_same h fun k e => hb.block k (h.lt k e).2
/-- numbers of an update that are in their kinds -/
def WfU (u : Up) : Prop := 0 ≤ u.kind ∧ u.kind ≤ 255 ∧ 0 ≤ u.delta ∧ u.delta < 18446744073709551616
theorem info8 : (Tryz.prog.info? 5).map (fun i => (i.zero, i.size, i.bytes)) = some (some (.int .u8 0), 1, 1) := by kernel_rfl
theorem strCells_strOf (l : List UInt8) : Lib.strCells (Lend.strOf l) = l.map Lend.u8V := rfl
theorem ret_te {a b : ByteArray} {c d : Int} (h : a = b) (h' : c = d) : Ending.returned (.tuple #[.string a, .int .i64 c]) = .returned (.tuple #[.string b, .int .i64 d]) := by rw [h, h']
set_option maxRecDepth 100000 in
set_option maxHeartbeats 4000000 in
theorem Text_any {v : Value} {l : List Up} {w : World} (h : UR w v l) (hl : l.length ≤ 1000) (hwf : ∀ u ∈ l, WfU u) : Calls Tryz.prog 38 #[v] w fun e w' => e = .returned (.tuple #[.string (Lend.strOf (txT l)), .int .i64 (errL l)]) ∧ Below w.heap.size w w' := by
  obtain ⟨i0, hi, hz0, hz1, hz2⟩ := info_parts info8
  obtain ⟨a, cap, rfl, hcell⟩ := h.form
  obtain ⟨n, hn⟩ : ∃ n, n = l.length := ⟨_, rfl⟩
  have HN := Lib.hid hn
  have HW := Lib.hid hwf
  have HC := Lib.hid hcell
  rw [← hn] at hl ⊢
  clear hn h hwf hcell
  go_enter Tryz.func38, Tryz.ntmps38
  go_wp2_with fail
  go_loopw [4, 10] (fun v i wr => ∃ k : Nat, k ≤ n ∧ i = .int .i64 k ∧ wr.ownsRow w.heap.size 5 1 v (txL (l.take k)).length ((txL (l.take k)).map Lend.u8V) ∧ errL (l.take k) = 0 ∧ (txL (l.take k)).length ≤ 51 * k ∧ Below w.heap.size w wr) (fun _ i _ => n - (intOf i).toNat)
  case atStart => exact ⟨0, Nat.zero_le _, rfl, World.ownsRow_nil _ _ _ _, rfl, Nat.zero_le _, Below.refl _ _⟩
  case round =>
    obtain ⟨k, hk, rfl, hown, her, hln, hb⟩ := hrel
    by_cases hlt : k < n
    · have hke : k < l.length := by rw [← HN.out]; exact hlt
      have hki : (k : Int) < (n : Int) := by omega
      obtain ⟨g, off, rfl, hc⟩ := HC.out (by omega)
      have hc := fun j hj => hc k hke j hj
      have hmem := List.getElem_mem hke
      have hts := txL_step hke
      have hes := errL_step hke her
      have hat := errL_at hke her
      obtain ⟨u, hu⟩ : ∃ u, u = l[k] := ⟨_, rfl⟩
      rw [← hu] at hc hmem hts hes hat
      have hbc : ∀ j x, j < 4 → (encU u)[j]? = some x → wr.cell? ⟨g, off + k * 4 + j, none⟩ = some x := fun j x hj hx => by
        have h1 := (hc j hj).trans hx
        rw [hb.cell (World.block_lt_of_cell? _ _ h1)]; exact h1
      have c0 : wr.cell? ⟨g, off + k * 4, none⟩ = some (.int .u8 u.kind) := hbc 0 _ (by omega) rfl
      have c1 : wr.cell? ⟨g, off + k * 4 + 1, none⟩ = some (.string (Lend.strOf u.key)) := hbc 1 _ (by omega) rfl
      have c2 : wr.cell? ⟨g, off + k * 4 + 2, none⟩ = some (.string (Lend.strOf u.val)) := hbc 2 _ (by omega) rfl
      have c3 : wr.cell? ⟨g, off + k * 4 + 3, none⟩ = some (.int .u64 u.delta) := hbc 3 _ (by omega) rfl
      obtain ⟨w1, hw1⟩ : ∃ w1, w1 = wr.alloc (.cells #[.int .u8 u.kind, .string (Lend.strOf u.key), .string (Lend.strOf u.val), .int .u64 u.delta] 67) := ⟨_, rfl⟩
      have HX := Lib.hid (show Has w1 wr.heap.size 67 (encU u) by rw [hw1]; exact Has.new wr _ _)
      have HB1 := Lib.hid (show Below w.heap.size w w1 by rw [hw1]; exact hb.alloc hb.size _)
      obtain ⟨vo, vc, rfl, hvc⟩ := own_shape hown
      have HOW := Lib.hid (show w1.ownsRow w.heap.size 5 1 (.slice vo (txL (l.take k)).length vc) (txL (l.take k)).length ((txL (l.take k)).map Lend.u8V) by rw [hw1]; exact hown.alloc _)
      have HTS := Lib.hid hts
      have HES := Lib.hid hes
      have HAT := Lib.hid hat
      have HLN := Lib.hid hln
      have HU := Lib.hid (HW.out u hmem)
      clear hu hke hc hbc hmem hts hes hat hb hown her hln hvc
      go_wp2_with fail
      rw [← hw1]
      clear c0 c1 c2 c3
      refine (check_any u w1 HU.out.1 HU.out.2.1).mono ?_
      rintro e w2 ⟨rfl, hb2⟩
      have HX2 := Lib.hid (HX.out.below hb2 HX.out.lt)
      have HB2 := Lib.hid (below_on HB1.out hb2)
      have HOW2 := Lib.hid (own_bel HOW.out hb2)
      by_cases hck : chkU u = 0
      · rw [hck]
        have y0 := HX2.out.cell 0
        have y1 := HX2.out.cell 1
        have y2 := HX2.out.cell 2
        have y3 := HX2.out.cell 3
        have hxl := HX2.out.lt
        simp only [encU, List.getElem?_cons_zero, List.getElem?_cons_succ] at y0 y1 y2 y3
        have HCK := Lib.hid hck
        have HLE := Lib.hid (txU_le hck)
        have hw12 := HB2.out.size
        clear hb2 hck HX HB1 HOW hw1
        go_wp2_with fail
        refine (text_any u w2 HCK.out HU.out.2.2.1 HU.out.2.2.2).mono ?_
        rintro e w3 ⟨rfl, hb3⟩
        have HB3 := Lib.hid (below_on HB2.out hb3)
        have HOW3 := Lib.hid (own_bel HOW2.out hb3)
        clear hb3 y0 y1 y2 y3
        go_wp2_with (at_builtin; refine Lib.wpList_append_own_string _ rfl _ _ 44 9 rfl w.heap.size 5 i0 Tryz.underlying44 Tryz.underlying9 hi hz0 hz1 hz2 _ _ _ rfl HOW3.out (Lend.strOf (txU u)) rfl ?c1 ?c2 ?c3 ?_)
        case c1 => unfold maxLen; rw [ssize]; have := HLN.out; have := HLE.out; omega
        case c2 => rw [ssize]; have := HLN.out; have := HLE.out; omega
        case c3 => exact HB3.out.size
        intro v' w4 hown4 hgr _
        have HB4 := Lib.hid (HB3.out.grown hgr HB3.out.size (fun q hq => (HOW3.out.lt q hq).1))
        have HOW4 := Lib.hid (show w4.ownsRow w.heap.size 5 1 v' (txL (l.take (k + 1))).length ((txL (l.take (k + 1))).map Lend.u8V) by
          rw [HTS.out, List.map_append, List.length_append, ← ssize (txU u), ← strCells_strOf]; exact hown4)
        have HLN4 := Lib.hid (show (txL (l.take (k + 1))).length ≤ 51 * (k + 1) by rw [HTS.out, List.length_append]; have := HLN.out; have := HLE.out; omega)
        clear hown4 hgr
        go_wp2_with fail
        go_roundw
        case rel => exact ⟨k + 1, by omega, by go_num, HOW4.out, by rw [HES.out]; exact HCK.out, HLN4.out, HB4.out⟩
        case measure => simp [intOf]; omega
      · have hne : (chkU u == 0) = false := by simpa using hck
        have HF := Lib.hid (show txT l = [] ∧ errL l = chkU u from ⟨by unfold txT; rw [if_neg (by rw [HAT.out hck]; exact hck)], HAT.out hck⟩)
        clear hb2
        go_wp2_with fail
        go_ret2
        exact ⟨ret_te (by rw [HF.out.1]; rfl) HF.out.2.symm, HB2.out⟩
    · have hkn : k = n := by omega
      subst hkn
      have hki : ¬ (k : Int) < (k : Int) := by omega
      have htk : l.take k = l := List.take_of_length_le (by rw [← HN.out]; exact Nat.le_refl _)
      rw [htk] at her hln hown
      have HF := Lib.hid (show txT l = txL l from by unfold txT; rw [if_pos her])
      have HE := Lib.hid her
      have HB := Lib.hid hb
      have hcv := run_string_own wr w.heap.size _ _ _ hown
      clear hb her hln htk hown
      go_wp2
      go_ret2
      exact ⟨ret_te (by rw [HF.out]) (by rw [HE.out]), HB.out⟩
end Go.Proofs.YtflanjcfkdjpjaaGreatDoor.Rec


/- Layer 12 (rec): parse. -/
namespace Go.Proofs.YtflanjcfkdjpjaaGreatDoor.Rec
open Go Go.RowKit Go.Proofs.YtflanjcfkdjpjaaGreatDoor Go.Proofs.YtflanjcfkdjpjaaGreatDoor.Lend
set_option linter.unusedVariables false

def dlB (l : List UInt8) : Bool := decide (8 ≤ l.length)
def dlN (l : List UInt8) : Int := if 8 ≤ l.length then (getL (l.take 8) : Int) else 0
def dlR (l : List UInt8) : List UInt8 := if 8 ≤ l.length then l.drop 8 else []
theorem ret_dl {a b : Int} {s t : ByteArray} {c d : Bool} (h : a = b) (h1 : s = t) (h' : c = d) : Ending.returned (.tuple #[.int .u64 a, .string s, .bool c]) = .returned (.tuple #[.int .u64 b, .string t, .bool d]) := by rw [h, h1, h']
set_option maxRecDepth 100000 in
set_option maxHeartbeats 4000000 in
theorem parseDelta_any (l : List UInt8) (w : World) (hs : l.length ≤ 1000000) : Calls Tryz.prog 150 #[.string (Lend.strOf l)] w fun e w' => e = .returned (.tuple #[.int .u64 (dlN l), .string (Lend.strOf (dlR l)), .bool (dlB l)]) ∧ Below w.heap.size w w' := by
  have HSZ := Lib.hid (show (Lend.strOf l).size ≤ 1000000 by rw [ssize]; exact hs)
  by_cases h : 8 ≤ l.length
  · have hr := rd_ok (ws := [8]) (l := l) rfl (by show (8 : Int) ≤ _; omega)
    have HR := Lib.hid (show rdB [8] l = true ∧ rdN [8] l = [dlN l] ∧ rdS [8] l = dlR l from ⟨hr.1, by rw [hr.2.1]; simp [rdL, dlN, h], by rw [hr.2.2]; simp [sumW, dlR, h]⟩)
    have HB := Lib.hid (show dlB l = true by simp [dlB, h])
    obtain ⟨d, hd⟩ : ∃ x, x = dlN l := ⟨_, rfl⟩
    have HD := Lib.hid hd
    rw [← hd] at HR ⊢
    clear hr hd h hs
    go_enter Tryz.func150, Tryz.ntmps150
    go_wp2_with fail
    refine (deltaW_any _).mono ?_
    rintro e w1 ⟨b, rfl, hrow, hb1⟩
    have HROW := Lib.hid hrow
    have HB1 := Lib.hid hb1
    clear hrow hb1
    go_wp2_with fail
    refine (read_any _ 1 1 [8] _ _ HROW.out (by decide) HSZ.out).mono ?_
    rintro e w2 ⟨bo, n, cap, rfl, hown, hb2⟩
    have HB2 := Lib.hid (below_on HB1.out hb2)
    have hr := Row.own hown
    rw [Lend.strOf_data, HR.out.2.1] at hr
    obtain rfl : 1 = n := hr.len_eq
    rw [Lend.strOf_data, HR.out.1, HR.out.2.2]
    obtain ⟨g, off, rfl, hc⟩ := hr.at_ (by decide)
    have c0 : w2.cell? ⟨g, off, none⟩ = some (.int .u64 d) := hc 0 (by decide)
    clear hown hr hc hb2
    go_wp2_with fail
    go_ret3
    exact ⟨ret_dl rfl rfl HB.out.symm, HB2.out⟩
  · have hr := rd_no (ws := [8]) (l := l) (.inr (by show ¬ (8 : Int) ≤ _; omega))
    have HR := Lib.hid hr
    have HN := Lib.hid (show dlN l = 0 ∧ dlR l = [] ∧ dlB l = false from ⟨by simp [dlN, h], by simp [dlR, h], by simp [dlB, h]⟩)
    clear hr h hs
    rw [HN.out.1, HN.out.2.1, HN.out.2.2]
    go_enter Tryz.func150, Tryz.ntmps150
    go_wp2_with fail
    refine (deltaW_any _).mono ?_
    rintro e w1 ⟨b, rfl, hrow, hb1⟩
    have HROW := Lib.hid hrow
    have HB1 := Lib.hid hb1
    clear hrow hb1
    go_wp2_with fail
    refine (read_any _ 1 1 [8] _ _ HROW.out (by decide) HSZ.out).mono ?_
    rintro e w2 ⟨bo, n, cap, rfl, hown, hb2⟩
    have HB2 := Lib.hid (below_on HB1.out hb2)
    rw [Lend.strOf_data, HR.out.1, HR.out.2.2]
    clear hown hb2
    go_wp2_with fail
    go_ret3
    exact ⟨ret_dl rfl rfl rfl, HB2.out⟩
/-- Split, of a text told by its bytes -/
theorem split_at (l : List UInt8) (w : World) (h : l.length ≤ 1000000) : Calls Tryz.prog 149 #[.string (Lend.strOf l)] w fun e w' => e = .returned (.tuple #[.string (Lend.strOf (splT l)), .string (Lend.strOf (splR l)), .bool (splB l)]) ∧ Below w.heap.size w w' := by
  have := split_any (Lend.strOf l) w (by rw [ssize]; exact h)
  rwa [Lend.strOf_data] at this
theorem splE (l : List UInt8) : spl2 l = if Lend.splB l = true then some (Lend.splT l, Lend.splR l) else none := by
  cases l with
  | nil => rfl
  | cons n l =>
    show (if l.length < n.toNat then none else some (l.take n.toNat, l.drop n.toNat)) = _
    by_cases h : l.length < n.toNat
    · rw [if_pos h]
      have : Lend.splB (n :: l) = false := by simp [Lend.splB]; omega
      rw [this]; rfl
    · rw [if_neg h]
      have : Lend.splB (n :: l) = true := by simp [Lend.splB]; omega
      rw [this, if_pos rfl]
      have h2 : n.toNat ≤ l.length := by omega
      simp [Lend.splT, Lend.splR, h2]
theorem splR_le (l : List UInt8) : (Lend.splR l).length ≤ l.length := by
  cases l with
  | nil => simp [Lend.splR]
  | cons n l => simp only [Lend.splR]; split <;> simp <;> omega
/-- par1, way by way -/
theorem par1_no {b : UInt8} {r : List UInt8} (h : splB r = false) : par1 (b :: r) = none := by
  show (match spl2 r with | none => none | some (key, rest) => _) = _
  rw [splE, h]; rfl
theorem par1_put {r : List UInt8} (h : splB r = true) : par1 (1 :: r) = if splB (splR r) = true then fin1 ⟨1, splT r, splT (splR r), 0⟩ (splR (splR r)) else none := by
  show (match spl2 r with | none => none | some (key, rest) => _) = _
  rw [splE, h]
  show (match spl2 (splR r) with | none => none | some (v, more) => fin1 ⟨1, splT r, v, 0⟩ more) = _
  rw [splE]
  cases splB (splR r) <;> rfl
theorem par1_add {r : List UInt8} (h : splB r = true) : par1 (3 :: r) = if dlB (splR r) = true then fin1 ⟨3, splT r, [], dlN (splR r)⟩ (dlR (splR r)) else none := by
  show (match spl2 r with | none => none | some (key, rest) => _) = _
  rw [splE, h]
  show (if (splR r).length < 8 then none else fin1 ⟨3, splT r, [], getL ((splR r).take 8)⟩ ((splR r).drop 8)) = _
  unfold dlB dlN dlR
  by_cases h8 : 8 ≤ (splR r).length
  · rw [if_neg (by omega), if_pos h8, if_pos h8, if_pos (by simpa using h8)]
  · rw [if_pos (by omega), if_neg (by simpa using h8)]
theorem par1_oth {b : UInt8} {r : List UInt8} (h : splB r = true) (h1 : ¬ b = 1) (h3 : ¬ b = 3) : par1 (b :: r) = fin1 ⟨b.toNat, splT r, [], 0⟩ (splR r) := by
  show (match spl2 r with | none => none | some (key, rest) => _) = _
  rw [splE, h]
  show (if b = 1 then _ else if b = 3 then _ else _) = _
  rw [if_neg h1, if_neg h3]
theorem strOf0 : Lend.strOf [] = ⟨#[]⟩ := rfl
/-- what parse answers -/
def PuP (w : World) (s : List UInt8) (e : Ending) (w' : World) : Prop :=
  (∃ u r, par1 s = some (u, r) ∧ e = .returned (.tuple #[.agg #[.int .u8 u.kind, .string (Lend.strOf u.key), .string (Lend.strOf u.val), .int .u64 u.delta], .string (Lend.strOf r), .bool true]) ∧ Below w.heap.size w w') ∨
  (par1 s = none ∧ e = .returned (.tuple #[.agg #[.int .u8 0, .string ⟨#[]⟩, .string ⟨#[]⟩, .int .u64 0], .string ⟨#[]⟩, .bool false]) ∧ Below w.heap.size w w')
theorem PuP.yes {w w' : World} {s r : List UInt8} {e : Ending} {u : Up} (h : par1 s = some (u, r)) (he : e = .returned (.tuple #[.agg #[.int .u8 u.kind, .string (Lend.strOf u.key), .string (Lend.strOf u.val), .int .u64 u.delta], .string (Lend.strOf r), .bool true])) (h2 : Below w.heap.size w w') : PuP w s e w' := .inl ⟨u, r, h, he, h2⟩
theorem PuP.no {w w' : World} {s : List UInt8} {e : Ending} (h : par1 s = none) (he : e = .returned (.tuple #[.agg #[.int .u8 0, .string ⟨#[]⟩, .string ⟨#[]⟩, .int .u64 0], .string ⟨#[]⟩, .bool false])) (h2 : Below w.heap.size w w') : PuP w s e w' := .inr ⟨h, he, h2⟩
theorem bel_res {w w' : World} (h : Below w.heap.size w w') (i : Nat) (v : Value) : Below w.heap.size w (w'.setCell ⟨w.heap.size, i, none⟩ v) := h.setCell (Nat.le_refl _) v
/-- the two boxes of parse: its result's, and u -/
structure Bx (w0 : World) (cs : List Value) (w : World) : Prop where
  res : Has w w0.heap.size 67 [.int .u8 0, .string ⟨#[]⟩, .string ⟨#[]⟩, .int .u64 0]
  u : Has w (w0.heap.size + 1) 67 cs
  bel : Below w0.heap.size w0 w
theorem Bx.on {w0 w w' : World} {cs : List Value} (h : Bx w0 cs w) (hb : Below w.heap.size w w') : Bx w0 cs w' := ⟨h.res.below hb h.res.lt, h.u.below hb h.u.lt, below_on h.bel hb⟩
theorem Bx.set {w0 w : World} {cs : List Value} (h : Bx w0 cs w) (i : Nat) (v : Value) : Bx w0 (cs.set i v) (w.setCell ⟨w0.heap.size + 1, i, none⟩ v) := ⟨h.res.setOther (show w0.heap.size + 1 ≠ w0.heap.size by omega) v, h.u.set i v, h.bel.setCell (show w0.heap.size ≤ w0.heap.size + 1 by omega) v⟩
set_option maxRecDepth 100000 in
set_option maxHeartbeats 8000000 in
theorem parse_any (s : List UInt8) (w : World) (hs : s.length ≤ 100000) (hne : s ≠ []) : Calls Tryz.prog 140 #[.string (Lend.strOf s)] w (PuP w s) := by
  cases s with
  | nil => exact absurd rfl hne
  | cons b r =>
    have hsz := ssize (b :: r)
    rw [List.length_cons] at hsz hs
    have hb255 := b.toNat_lt
    obtain ⟨T, hT⟩ : ∃ T, T = Lend.strOf (b :: r) := ⟨_, rfl⟩
    rw [← hT] at hsz ⊢
    have hp0 : 0 < T.size := by omega
    have hp1 : 1 ≤ T.size := by omega
    have HT := Lib.hid hT
    have HR := Lib.hid (show r.length ≤ 1000000 by omega)
    have HEX := Lib.hid (show T.extract 1 (r.length + 1) = Lend.strOf r from by
      apply Lend.strOf_ext
      rw [Lib.extract_data, HT.out, Lend.strOf_data, List.drop_succ_cons, List.drop_zero]
      exact List.take_of_length_le (by omega))
    have hT0 : T.get! 0 = b := by rw [HT.out]; rfl
    clear hT hne hs
    go_enter Tryz.func140, Tryz.ntmps140
    go_wp2_with fail
    have e0 : T[0] = b := by have := HT.out; subst this; rfl
    rw [e0, HEX.out]
    obtain ⟨kd, hkd⟩ : ∃ x : Int, x = (b.toNat : Int) := ⟨_, rfl⟩
    rw [← hkd]
    have hk0 : 0 ≤ kd := by omega
    have hk1 : kd ≤ 255 := by omega
    have HKD := Lib.hid hkd
    refine (split_at r _ HR.out).mono ?_
    rintro e w1 ⟨rfl, hb1⟩
    have HBX := Lib.hid (Bx.on (w0 := w) (cs := [.int .u8 kd, .string ⟨#[]⟩, .string ⟨#[]⟩, .int .u64 0]) ⟨(Has.new w _ _).alloc _, by have := Has.new (w.alloc (.cells #[.int .u8 0, .string ⟨#[]⟩, .string ⟨#[]⟩, .int .u64 0] 67)) [.int .u8 kd, .string ⟨#[]⟩, .string ⟨#[]⟩, .int .u64 0] 67; rwa [World.size_alloc] at this, below_nw (below_new _ _) _⟩ hb1)
    clear hb1 hkd e0 hT0 hb255 hsz hp0 hp1
    have r0 := HBX.out.res.cell 0
    have r1 := HBX.out.res.cell 1
    have r2 := HBX.out.res.cell 2
    have r3 := HBX.out.res.cell 3
    have q0 := HBX.out.res.frozen 0
    have q1 := HBX.out.res.frozen 1
    have q2 := HBX.out.res.frozen 2
    have q3 := HBX.out.res.frozen 3
    simp only [List.getElem?_cons_zero, List.getElem?_cons_succ] at r0 r1 r2 r3
    cases hs1 : Lend.splB r with
    | false =>
      have HN := Lib.hid (par1_no (b := b) hs1)
      clear hs1
      go_wp2_with fail
      refine bodyPost_ret (v := .tuple #[.agg #[.int .u8 0, .string ⟨#[]⟩, .string ⟨#[]⟩, .int .u64 0], .string ⟨#[]⟩, .bool false]) (by simp [results, Tryz.results140, go_sem, r0, r1, r2, r3]) rfl (PuP.no HN.out rfl ?_)
      exact bel_res (bel_res (bel_res (bel_res HBX.out.bel _ _) _ _) _ _) _ _
    | true =>
      have HS1 := Lib.hid hs1
      have HL2 := Lib.hid (show (splR r).length ≤ 1000000 by have := splR_le r; have := HR.out; omega)
      obtain ⟨w2, hw2⟩ : ∃ x, x = w1.setCell ⟨w.heap.size + 1, 1, none⟩ (.string (Lend.strOf (splT r))) := ⟨_, rfl⟩
      have HB2 := Lib.hid (show Bx w [.int .u8 kd, .string (Lend.strOf (splT r)), .string ⟨#[]⟩, .int .u64 0] w2 by rw [hw2]; exact HBX.out.set 1 _)
      have y0 := HBX.out.u.cell 0
      have y1 := HBX.out.u.cell 1
      have y2 := HBX.out.u.cell 2
      have y3 := HBX.out.u.cell 3
      have z1 := HBX.out.u.frozen 1
      simp only [List.getElem?_cons_zero, List.getElem?_cons_succ] at y0 y1 y2 y3
      clear hs1
      by_cases hA : b = 1
      · subst hA
        have HPR := Lib.hid (par1_put HS1.out)
        obtain rfl : kd = 1 := HKD.out
        go_wp2_with fail
        rw [← hw2]
        refine (split_at _ _ HL2.out).mono ?_
        rintro e w3 ⟨rfl, hb3⟩
        have HB3 := Lib.hid (HB2.out.on hb3)
        clear hb3 hw2 z1 y0 y1 y2 y3 r0 r1 r2 r3 q0 q1 q2 q3
        have y0 := HB3.out.u.cell 0
        have y1 := HB3.out.u.cell 1
        have y2 := HB3.out.u.cell 2
        have y3 := HB3.out.u.cell 3
        have r0 := HB3.out.res.cell 0
        have q0 := HB3.out.res.frozen 0
        have r1 := HB3.out.res.cell 1
        have q1 := HB3.out.res.frozen 1
        have r2 := HB3.out.res.cell 2
        have q2 := HB3.out.res.frozen 2
        have r3 := HB3.out.res.cell 3
        have q3 := HB3.out.res.frozen 3
        simp only [List.getElem?_cons_zero, List.getElem?_cons_succ] at y0 y1 y2 y3 r0 r1 r2 r3
        have z2 := HB3.out.u.frozen 2
        cases hs2 : Lend.splB (splR r) with
        | false =>
          have HT2 := Lib.hid (show splT (splR r) = [] from (spl_no hs2).1)
          have HPN := Lib.hid (show par1 (1 :: r) = none by rw [HPR.out, if_neg (by rw [hs2]; decide)])
          have HBQ := Lib.hid (HB3.out.set 2 (.string (Lend.strOf [])))
          rw [HT2.out]
          clear hs2
          go_wp2_with fail
          refine bodyPost_ret (v := .tuple #[.agg #[.int .u8 0, .string ⟨#[]⟩, .string ⟨#[]⟩, .int .u64 0], .string ⟨#[]⟩, .bool false]) (by simp [results, Tryz.results140, go_sem, r0, r1, r2, r3]) rfl (PuP.no HPN.out rfl ?_)
          exact bel_res (bel_res (bel_res (bel_res HBQ.out.bel _ _) _ _) _ _) _ _
        | true =>
          have HPR := Lib.hid (show par1 (1 :: r) = fin1 ⟨1, splT r, splT (splR r), 0⟩ (splR (splR r)) by rw [HPR.out, if_pos hs2])
          clear hs2
          obtain ⟨w4, hw4⟩ : ∃ x, x = w3.setCell ⟨w.heap.size + 1, 2, none⟩ (.string (Lend.strOf (splT (splR r)))) := ⟨_, rfl⟩
          have HB4 := Lib.hid (show Bx w [.int .u8 1, .string (Lend.strOf (splT r)), .string (Lend.strOf (splT (splR r))), .int .u64 0] w4 by rw [hw4]; exact HB3.out.set 2 _)
          obtain ⟨u, hu⟩ : ∃ u : Up, u = ⟨1, splT r, splT (splR r), 0⟩ := ⟨_, rfl⟩
          have HCK := Lib.hid (show ∀ W, Calls Tryz.prog 69 #[.agg #[.int .u8 1, .string (Lend.strOf (splT r)), .string (Lend.strOf (splT (splR r))), .int .u64 0]] W fun e w' => e = .returned (.int .i64 (chkU u)) ∧ Below W.heap.size W w' from fun W => by subst hu; exact check_any _ W (by simp only; omega) (by simp only; omega))
          rw [← hu] at HPR
          have HU := Lib.hid hu
          clear hu
          go_wp2_with fail
          rw [← hw4]
          refine (HCK.out _).mono ?_
          rintro e w9 ⟨rfl, hb9⟩
          have HB9 := Lib.hid (HB4.out.on hb9)
          clear hb9 hw4 y0 y1 y2 y3 r0 r1 r2 r3 q0 q1 q2 q3
          have y0 := HB9.out.u.cell 0
          have y1 := HB9.out.u.cell 1
          have y2 := HB9.out.u.cell 2
          have y3 := HB9.out.u.cell 3
          have r0 := HB9.out.res.cell 0
          have q0 := HB9.out.res.frozen 0
          have r1 := HB9.out.res.cell 1
          have q1 := HB9.out.res.frozen 1
          have r2 := HB9.out.res.cell 2
          have q2 := HB9.out.res.frozen 2
          have r3 := HB9.out.res.cell 3
          have q3 := HB9.out.res.frozen 3
          simp only [List.getElem?_cons_zero, List.getElem?_cons_succ] at y0 y1 y2 y3 r0 r1 r2 r3
          by_cases hck : chkU u = 0
          · rw [hck]
            have HP := Lib.hid (show par1 (_ :: r) = some (u, splR (splR r)) by rw [HPR.out]; unfold fin1; rw [if_pos hck])
            clear hck
            go_wp2_with fail
            refine bodyPost_ret (v := .tuple #[.agg #[.int .u8 u.kind, .string (Lend.strOf u.key), .string (Lend.strOf u.val), .int .u64 u.delta], .string (Lend.strOf (splR (splR r))), .bool true]) (by simp [results, Tryz.results140, go_sem, r0, r1, r2, r3, HU.out]) rfl (PuP.yes HP.out rfl ?_)
            exact bel_res (bel_res (bel_res (bel_res HB9.out.bel _ _) _ _) _ _) _ _
          · have hne : (chkU u == 0) = false := by simpa using hck
            have HP := Lib.hid (show par1 (_ :: r) = none by rw [HPR.out]; unfold fin1; rw [if_neg hck])
            clear hck
            go_wp2_with fail
            refine bodyPost_ret (v := .tuple #[.agg #[.int .u8 0, .string ⟨#[]⟩, .string ⟨#[]⟩, .int .u64 0], .string ⟨#[]⟩, .bool false]) (by simp [results, Tryz.results140, go_sem, r0, r1, r2, r3]) rfl (PuP.no HP.out rfl ?_)
            exact bel_res (bel_res (bel_res (bel_res HB9.out.bel _ _) _ _) _ _) _ _
      · by_cases hC : b = 3
        · subst hC
          have HPR := Lib.hid (par1_add HS1.out)
          obtain rfl : kd = 3 := HKD.out
          go_wp2_with fail
          rw [← hw2]
          refine (parseDelta_any _ _ HL2.out).mono ?_
          rintro e w3 ⟨rfl, hb3⟩
          have HB3 := Lib.hid (HB2.out.on hb3)
          clear hb3 hw2 z1 y0 y1 y2 y3 r0 r1 r2 r3 q0 q1 q2 q3
          have y0 := HB3.out.u.cell 0
          have y1 := HB3.out.u.cell 1
          have y2 := HB3.out.u.cell 2
          have y3 := HB3.out.u.cell 3
          have r0 := HB3.out.res.cell 0
          have q0 := HB3.out.res.frozen 0
          have r1 := HB3.out.res.cell 1
          have q1 := HB3.out.res.frozen 1
          have r2 := HB3.out.res.cell 2
          have q2 := HB3.out.res.frozen 2
          have r3 := HB3.out.res.cell 3
          have q3 := HB3.out.res.frozen 3
          simp only [List.getElem?_cons_zero, List.getElem?_cons_succ] at y0 y1 y2 y3 r0 r1 r2 r3
          have z3 := HB3.out.u.frozen 3
          cases hs2 : dlB (splR r) with
          | false =>
            have HPN := Lib.hid (show par1 (3 :: r) = none by rw [HPR.out, if_neg (by rw [hs2]; decide)])
            have HBQ := Lib.hid (HB3.out.set 3 (.int .u64 (dlN (splR r))))
            clear hs2
            go_wp2_with fail
            refine bodyPost_ret (v := .tuple #[.agg #[.int .u8 0, .string ⟨#[]⟩, .string ⟨#[]⟩, .int .u64 0], .string ⟨#[]⟩, .bool false]) (by simp [results, Tryz.results140, go_sem, r0, r1, r2, r3]) rfl (PuP.no HPN.out rfl ?_)
            exact bel_res (bel_res (bel_res (bel_res HBQ.out.bel _ _) _ _) _ _) _ _
          | true =>
            have HPR := Lib.hid (show par1 (3 :: r) = fin1 ⟨3, splT r, [], dlN (splR r)⟩ (dlR (splR r)) by rw [HPR.out, if_pos hs2])
            clear hs2
            obtain ⟨w4, hw4⟩ : ∃ x, x = w3.setCell ⟨w.heap.size + 1, 3, none⟩ (.int .u64 (dlN (splR r))) := ⟨_, rfl⟩
            have HB4 := Lib.hid (show Bx w [.int .u8 3, .string (Lend.strOf (splT r)), .string ⟨#[]⟩, .int .u64 (dlN (splR r))] w4 by rw [hw4]; exact HB3.out.set 3 _)
            obtain ⟨u, hu⟩ : ∃ u : Up, u = ⟨3, splT r, [], dlN (splR r)⟩ := ⟨_, rfl⟩
            have HCK := Lib.hid (show ∀ W, Calls Tryz.prog 69 #[.agg #[.int .u8 3, .string (Lend.strOf (splT r)), .string ⟨#[]⟩, .int .u64 (dlN (splR r))]] W fun e w' => e = .returned (.int .i64 (chkU u)) ∧ Below W.heap.size W w' from fun W => by subst hu; exact check_any _ W (by simp only; omega) (by simp only; omega))
            rw [← hu] at HPR
            have HU := Lib.hid hu
            clear hu
            go_wp2_with fail
            rw [← hw4]
            refine (HCK.out _).mono ?_
            rintro e w9 ⟨rfl, hb9⟩
            have HB9 := Lib.hid (HB4.out.on hb9)
            clear hb9 hw4 y0 y1 y2 y3 r0 r1 r2 r3 q0 q1 q2 q3
            have y0 := HB9.out.u.cell 0
            have y1 := HB9.out.u.cell 1
            have y2 := HB9.out.u.cell 2
            have y3 := HB9.out.u.cell 3
            have r0 := HB9.out.res.cell 0
            have q0 := HB9.out.res.frozen 0
            have r1 := HB9.out.res.cell 1
            have q1 := HB9.out.res.frozen 1
            have r2 := HB9.out.res.cell 2
            have q2 := HB9.out.res.frozen 2
            have r3 := HB9.out.res.cell 3
            have q3 := HB9.out.res.frozen 3
            simp only [List.getElem?_cons_zero, List.getElem?_cons_succ] at y0 y1 y2 y3 r0 r1 r2 r3
            by_cases hck : chkU u = 0
            · rw [hck]
              have HP := Lib.hid (show par1 (_ :: r) = some (u, dlR (splR r)) by rw [HPR.out]; unfold fin1; rw [if_pos hck])
              clear hck
              go_wp2_with fail
              refine bodyPost_ret (v := .tuple #[.agg #[.int .u8 u.kind, .string (Lend.strOf u.key), .string (Lend.strOf u.val), .int .u64 u.delta], .string (Lend.strOf (dlR (splR r))), .bool true]) (by simp [results, Tryz.results140, go_sem, r0, r1, r2, r3, HU.out, strOf0]) rfl (PuP.yes HP.out rfl ?_)
              exact bel_res (bel_res (bel_res (bel_res HB9.out.bel _ _) _ _) _ _) _ _
            · have hne : (chkU u == 0) = false := by simpa using hck
              have HP := Lib.hid (show par1 (_ :: r) = none by rw [HPR.out]; unfold fin1; rw [if_neg hck])
              clear hck
              go_wp2_with fail
              refine bodyPost_ret (v := .tuple #[.agg #[.int .u8 0, .string ⟨#[]⟩, .string ⟨#[]⟩, .int .u64 0], .string ⟨#[]⟩, .bool false]) (by simp [results, Tryz.results140, go_sem, r0, r1, r2, r3]) rfl (PuP.no HP.out rfl ?_)
              exact bel_res (bel_res (bel_res (bel_res HB9.out.bel _ _) _ _) _ _) _ _
        · have HPR := Lib.hid (show par1 (b :: r) = fin1 ⟨kd, splT r, [], 0⟩ (splR r) by rw [par1_oth HS1.out hA hC, HKD.out])
          have hn1 : (kd == 1) = false := by
            have : ¬ kd = 1 := fun e => hA (UInt8.toNat_inj.1 (by have := HKD.out; show b.toNat = 1; omega))
            simpa using this
          have hn3 : (kd == 3) = false := by
            have : ¬ kd = 3 := fun e => hC (UInt8.toNat_inj.1 (by have := HKD.out; show b.toNat = 3; omega))
            simpa using this
          clear hA hC
          obtain ⟨u, hu⟩ : ∃ u : Up, u = ⟨kd, splT r, [], 0⟩ := ⟨_, rfl⟩
          have HCK := Lib.hid (show ∀ W, Calls Tryz.prog 69 #[.agg #[.int .u8 kd, .string (Lend.strOf (splT r)), .string ⟨#[]⟩, .int .u64 0]] W fun e w' => e = .returned (.int .i64 (chkU u)) ∧ Below W.heap.size W w' from fun W => by subst hu; exact check_any _ W (by simp only; omega) (by simp only; omega))
          rw [← hu] at HPR
          have HU := Lib.hid hu
          clear hu
          go_wp2_with fail
          rw [← hw2]
          refine (HCK.out _).mono ?_
          rintro e w9 ⟨rfl, hb9⟩
          have HB9 := Lib.hid (HB2.out.on hb9)
          clear hb9 hw2 y0 y1 y2 y3 r0 r1 r2 r3 q0 q1 q2 q3
          have y0 := HB9.out.u.cell 0
          have y1 := HB9.out.u.cell 1
          have y2 := HB9.out.u.cell 2
          have y3 := HB9.out.u.cell 3
          have r0 := HB9.out.res.cell 0
          have q0 := HB9.out.res.frozen 0
          have r1 := HB9.out.res.cell 1
          have q1 := HB9.out.res.frozen 1
          have r2 := HB9.out.res.cell 2
          have q2 := HB9.out.res.frozen 2
          have r3 := HB9.out.res.cell 3
          have q3 := HB9.out.res.frozen 3
          simp only [List.getElem?_cons_zero, List.getElem?_cons_succ] at y0 y1 y2 y3 r0 r1 r2 r3
          by_cases hck : chkU u = 0
          · rw [hck]
            have HP := Lib.hid (show par1 (_ :: r) = some (u, splR r) by rw [HPR.out]; unfold fin1; rw [if_pos hck])
            clear hck
            go_wp2_with fail
            refine bodyPost_ret (v := .tuple #[.agg #[.int .u8 u.kind, .string (Lend.strOf u.key), .string (Lend.strOf u.val), .int .u64 u.delta], .string (Lend.strOf (splR r)), .bool true]) (by simp [results, Tryz.results140, go_sem, r0, r1, r2, r3, HU.out, strOf0]) rfl (PuP.yes HP.out rfl ?_)
            exact bel_res (bel_res (bel_res (bel_res HB9.out.bel _ _) _ _) _ _) _ _
          · have hne : (chkU u == 0) = false := by simpa using hck
            have HP := Lib.hid (show par1 (_ :: r) = none by rw [HPR.out]; unfold fin1; rw [if_neg hck])
            clear hck
            go_wp2_with fail
            refine bodyPost_ret (v := .tuple #[.agg #[.int .u8 0, .string ⟨#[]⟩, .string ⟨#[]⟩, .int .u64 0], .string ⟨#[]⟩, .bool false]) (by simp [results, Tryz.results140, go_sem, r0, r1, r2, r3]) rfl (PuP.no HP.out rfl ?_)
            exact bel_res (bel_res (bel_res (bel_res HB9.out.bel _ _) _ _) _ _) _ _
end Go.Proofs.YtflanjcfkdjpjaaGreatDoor.Rec


/- Layer 12 (rec): Parse. -/
namespace Go.Proofs.YtflanjcfkdjpjaaGreatDoor.Rec
open Go Go.RowKit Go.Proofs.YtflanjcfkdjpjaaGreatDoor Go.Proofs.YtflanjcfkdjpjaaGreatDoor.Lend
set_option linter.unusedVariables false

def flatU (l : List Up) : List Value := l.flatMap encU
theorem flatU_length (l : List Up) : (flatU l).length = l.length * 4 := by
  unfold flatU
  induction l with
  | nil => rfl
  | cons u l ih => rw [List.flatMap_cons, List.length_append, ih]; simp [encU]; omega
theorem flatU_snoc (l : List Up) (u : Up) : flatU (l ++ [u]) = flatU l ++ encU u := by unfold flatU; simp
/-- a row of the program's updates -/
abbrev RA (w : World) (base : Nat) (v : Value) (l : List Up) : Prop := w.ownsRow base 67 4 v l.length (flatU l)
def lenOf : Value → Nat
  | .string b => b.size
  | _ => 0
theorem flatU_get : ∀ (l : List Up) (i : Nat) (hi : i < l.length) (j : Nat), j < 4 → (flatU l)[i * 4 + j]? = (encU l[i])[j]?
  | [], i, hi, _, _ => by cases hi
  | u :: l, 0, _, j, hj => by
    unfold flatU
    rw [List.flatMap_cons, List.getElem?_append_left (by simp [encU]; omega)]
    simp
  | u :: l, i + 1, hi, j, hj => by
    have e : flatU (u :: l) = encU u ++ flatU l := by unfold flatU; simp
    rw [e, List.getElem?_append_right (by simp [encU]; omega), show (i + 1) * 4 + j - (encU u).length = i * 4 + j by simp [encU]; omega]
    exact flatU_get l i (by simpa using hi) j hj
theorem UR.of_own {w : World} {base : Nat} {e : TypeId} {v : Value} {l : List Up} (h : w.ownsRow base e 4 v l.length (flatU l)) : UR w v l := by
  rcases h.2 with ⟨hv, h0⟩ | ⟨g, cap, cur, hv, hb, hg, hn, hm, hs, ht⟩
  · exact ⟨none, 0, by rw [hv, h0], fun hp => by omega⟩
  · refine ⟨some ⟨g, 0, none⟩, cap, hv, fun _ => ⟨g, 0, rfl, fun i hi j hj => ?_⟩⟩
    rw [← flatU_get l i hi j hj, ← ht, List.getElem?_take, if_pos (by omega)]
    unfold World.cell?
    simp only [hg]
    simp
/-- what Parse answers -/
def PaQ (w : World) (s : List UInt8) (e : Ending) (w' : World) : Prop :=
  (∃ l v', parL s = some l ∧ e = .returned (.tuple #[v', .int .i64 0]) ∧ RA w' w.heap.size v' l ∧ Below w.heap.size w w') ∨
  (parL s = none ∧ e = .returned (.tuple #[.slice none 0 0, .int .i64 4]) ∧ Below w.heap.size w w')
theorem PaQ.yes {w w' : World} {s : List UInt8} {e : Ending} (l : List Up) (v' : Value) (h : parL s = some l) (he : e = .returned (.tuple #[v', .int .i64 0])) (h1 : RA w' w.heap.size v' l) (h2 : Below w.heap.size w w') : PaQ w s e w' := .inl ⟨l, v', h, he, h1, h2⟩
theorem PaQ.no {w w' : World} {s : List UInt8} {e : Ending} (h : parL s = none) (he : e = .returned (.tuple #[.slice none 0 0, .int .i64 4])) (h2 : Below w.heap.size w w') : PaQ w s e w' := .inr ⟨h, he, h2⟩
theorem info_up : (Tryz.prog.info? 67).map (fun i => (i.zero, i.size, i.bytes)) = some (some (.agg #[.int .u8 0, .string ⟨#[]⟩, .string ⟨#[]⟩, .int .u64 0]), 4, 48) := by kernel_rfl
theorem enc_one (u : Up) : ∀ x ∈ encU u, x.oneCell' = true := by
  intro x hx
  simp only [encU, List.mem_cons, List.mem_nil_iff, or_false] at hx
  rcases hx with rfl | rfl | rfl | rfl <;> rfl
theorem has_news {w : World} {b : Nat} {t : TypeId} {cs : List Value} (h : Has w b t cs) : ∀ j u, cs[j]? = some u → w.cell? ((⟨b, 0, none⟩ : Addr).add j) = some u := fun j u hu => by rw [Addr.add_lit, Nat.zero_add, h.cell]; exact hu
set_option maxRecDepth 100000 in
set_option maxHeartbeats 4000000 in
theorem Parse_any (s : List UInt8) (w : World) (hs : s.length ≤ 100000) : Calls Tryz.prog 123 #[.string (Lend.strOf s)] w (PaQ w s) := by
  obtain ⟨i0, hi, hz0, hz1, hz2⟩ := info_parts info_up
  go_enter Tryz.func123, Tryz.ntmps123
  go_wp2_with fail
  go_loopw [0, 4] (fun sv ov wr => ∃ (r : List UInt8) (m : List Up) (v : Value), v = ov ∧ sv = .string (Lend.strOf r) ∧ RA wr w.heap.size v m ∧ parL s = (parL r).map (m ++ ·) ∧ m.length + r.length ≤ s.length ∧ Below w.heap.size w wr) (fun sv _ _ => lenOf sv)
  case atStart => exact ⟨s, [], _, rfl, rfl, World.ownsRow_nil _ _ _ _, by cases parL s <;> rfl, by simp, Below.refl _ _⟩
  case round =>
    obtain ⟨r, m, v, rfl, rfl, hrow, hpl, hln, hb⟩ := hrel
    cases r with
    | nil =>
      have HP := Lib.hid (show parL s = some m by rw [hpl, parL_nil]; simp)
      have HR := Lib.hid hrow
      have HB := Lib.hid hb
      clear hrow hpl hln hb
      rw [strOf0]
      go_wp2_with fail
      go_ret2
      exact PaQ.yes m _ HP.out rfl HR.out HB.out
    | cons b r =>
      have ha0 := str_ne (l := b :: r) (by simp)
      have ha1 := str_ne' (l := b :: r) (by simp)
      have HROW := Lib.hid hrow
      have HPL := Lib.hid hpl
      have HLN := Lib.hid hln
      have HB := Lib.hid hb
      have HPA := Lib.hid (parse_any (b :: r) wr (by omega) (by simp))
      have HSZ := Lib.hid (ssize (b :: r))
      obtain ⟨T, hT⟩ : ∃ T, T = Lend.strOf (b :: r) := ⟨_, rfl⟩
      rw [← hT] at ha0 ha1 HPA HSZ ⊢
      clear hrow hpl hln hb hT
      go_wp2_with fail
      refine HPA.out.mono ?_
      rintro e w1 (⟨u, r', hpu, rfl, hb1⟩ | ⟨hpu, rfl, hb1⟩)
      · have HPU := Lib.hid hpu
        have HB1 := Lib.hid (below_on HB.out hb1)
        have HR1 := Lib.hid (own_bel HROW.out hb1)
        have HNW := Lib.hid (show ∀ j x, (encU u)[j]? = some x → ((w1.alloc (.cells #[.int .u8 u.kind, .string (Lend.strOf u.key), .string (Lend.strOf u.val), .int .u64 u.delta] 67)).alloc (.cells #[.int .u8 u.kind, .string (Lend.strOf u.key), .string (Lend.strOf u.val), .int .u64 u.delta] 67)).cell? ((⟨w1.heap.size + 1, 0, none⟩ : Addr).add j) = some x from by
          have h := Has.new (w1.alloc (.cells #[.int .u8 u.kind, .string (Lend.strOf u.key), .string (Lend.strOf u.val), .int .u64 u.delta] 67)) (encU u) 67
          rw [World.size_alloc] at h
          exact has_news h)
        have HB2 := Lib.hid (below_nw (below_nw HB1.out (.cells #[.int .u8 u.kind, .string (Lend.strOf u.key), .string (Lend.strOf u.val), .int .u64 u.delta] 67)) (.cells #[.int .u8 u.kind, .string (Lend.strOf u.key), .string (Lend.strOf u.val), .int .u64 u.delta] 67))
        clear hpu hb1
        go_wp2_with (at_builtin; refine wpList_append_own _ rfl _ _ 39 rfl w.heap.size 67 i0 _ 4 48 Tryz.underlying39 hi hz0 hz1 hz2 rfl (by decide) _ m.length (flatU m) rfl ((HR1.out.alloc _).alloc _) ⟨w1.heap.size + 1, 0, none⟩ 1 1 (encU u) rfl rfl HNW.out (enc_one u) ?c1 ?c2 ?c3 ?_)
        case c1 => unfold maxLen; have := HLN.out; rw [List.length_cons] at this; omega
        case c2 => have := HLN.out; rw [List.length_cons] at this; omega
        case c3 => exact HB2.out.size
        intro v' w4 hown4 hgr _
        have HB4 := Lib.hid (HB2.out.grown hgr HB2.out.size (fun q hq => (HROW.out.lt q hq).1))
        have HOW4 := Lib.hid (show RA w4 w.heap.size v' (m ++ [u]) by unfold RA; rw [flatU_snoc, List.length_append]; exact hown4)
        have HPL2 := Lib.hid (show parL s = (parL r').map ((m ++ [u]) ++ ·) by
          rw [HPL.out, parL_some HPU.out]
          cases parL r' <;> simp)
        have HLN2 := Lib.hid (show (m ++ [u]).length + r'.length ≤ s.length ∧ r'.length < (b :: r).length by
          have h1 := (par1_some HPU.out).1
          have h2 := HLN.out
          rw [List.length_append]
          rw [List.length_cons] at h1 h2
          simp only [List.length_cons, List.length_nil]
          omega)
        clear hown4 hgr
        go_wp2_with fail
        go_roundw
        case rel => exact ⟨r', m ++ [u], _, rfl, rfl, HOW4.out, HPL2.out, HLN2.out.1, HB4.out⟩
        case measure => simp only [lenOf]; rw [HSZ.out, ssize]; exact HLN2.out.2
      · have HN := Lib.hid (show parL s = none by rw [HPL.out, parL_none (by simp) hpu]; rfl)
        have HB1 := Lib.hid (below_on HB.out hb1)
        clear hpu hb1
        go_wp2_with fail
        go_ret2
        exact PaQ.no HN.out rfl (below_nw HB1.out _)
end Go.Proofs.YtflanjcfkdjpjaaGreatDoor.Rec


/- Contracts for layer 2's laws: wakes. -/
namespace Go.Proofs.YtflanjcfkdjpjaaGreatDoor.Sum
open Go.RowKit Go.Proofs.YtflanjcfkdjpjaaGreatDoor
set_option linter.unusedVariables false

end Go.Proofs.YtflanjcfkdjpjaaGreatDoor.Sum


/- Layer 12 (rec): Payload, Link. -/
namespace Go.Proofs.YtflanjcfkdjpjaaGreatDoor.Rec
open Go Go.RowKit Go.Proofs.YtflanjcfkdjpjaaGreatDoor Go.Proofs.YtflanjcfkdjpjaaGreatDoor.Lend
set_option linter.unusedVariables false

/-- a record's first bytes -/
def hd3 (s c : Int) (n : Nat) : List UInt8 := encL [8, 4, 2] [s, c, (n : Int)]
theorem hd3_length (s c : Int) (n : Nat) : (hd3 s c n).length = 14 := by simp [hd3, encL, encN_length]
/-- a record's bytes -/
def pyT (s c : Int) (l : List Up) : List UInt8 := if errL l = 0 then hd3 s c l.length ++ txL l else []
structure Wf3 (s c : Int) (n : Nat) : Prop where
  s0 : 0 ≤ s
  s1 : s < 18446744073709551616
  c0 : 0 ≤ c
  c1 : c < 4294967296
  n1 : n ≤ 1000
theorem Wf3.wr {s c : Int} {n : Nat} (h : Wf3 s c n) : wrS [8, 4, 2] [s, c, (n : Int)] = Lend.strOf (hd3 s c n) ∧ wrB [8, 4, 2] [s, c, (n : Int)] = true := by
  have h4 : fitsB c 4 = true := by unfold fitsB; rw [decide_eq_true_eq]; exact h.c1
  have h2 : fitsB (n : Int) 2 = true := by unfold fitsB; rw [decide_eq_true_eq]; have := h.n1; show (n : Int) < 65536; omega
  have h := wr_ok (ws := [8, 4, 2]) (ns := [s, c, (n : Int)]) rfl rfl (by simp [fitsL, fitsB_8 s h.s1, h4, h2])
  exact ⟨h.2, h.1⟩
theorem Wf3.ns {s c : Int} {n : Nat} (h : Wf3 s c n) : ∀ x ∈ [s, c, (n : Int)], 0 ≤ x ∧ x < 18446744073709551616 := by
  have := h.s0; have := h.s1; have := h.c0; have := h.c1; have := h.n1
  intro x hx
  simp only [List.mem_cons, List.mem_nil_iff, or_false] at hx
  omega
theorem txL_le : ∀ (l : List Up), errL l = 0 → (txL l).length ≤ 51 * l.length
  | [], _ => by unfold txL; simp
  | u :: l, h => by
    have e : txL (u :: l) = txU u ++ txL l := by unfold txL; rfl
    rw [e, List.length_append, List.length_cons]
    have h : (if chkU u = 0 then errL l else chkU u) = 0 := h
    by_cases hc : chkU u = 0
    · rw [if_pos hc] at h
      have := txL_le l h
      have := txU_le hc
      omega
    · rw [if_neg hc] at h; exact absurd h hc
theorem txT_le (l : List Up) : (txT l).length ≤ 51 * l.length := by
  unfold txT
  split
  · rename_i h; exact txL_le l h
  · simp
theorem UR.slice {w : World} {v : Value} {l : List Up} (h : UR w v l) : ∃ a cap, v = .slice a l.length cap := by obtain ⟨a, cap, hv, _⟩ := h.form; exact ⟨a, cap, hv⟩
set_option maxHeartbeats 4000000 in
set_option maxRecDepth 100000 in
theorem Payload_any {v : Value} {l : List Up} {w : World} (s c : Int) (h : UR w v l) (hf : Wf3 s c l.length) (hwf : ∀ u ∈ l, WfU u) :
    Calls Tryz.prog 39 #[.agg #[.int .u64 s, .int .u32 c, v]] w fun e w' => e = .returned (.tuple #[.string (Lend.strOf (pyT s c l)), .int .i64 (errL l)]) ∧ Below w.heap.size w w' := by
  obtain ⟨a, cap, rfl⟩ := h.slice
  obtain ⟨n, hn⟩ : ∃ n, n = l.length := ⟨_, rfl⟩
  have HN := Lib.hid hf.ns
  have HW := Lib.hid hf.wr
  have HLE := Lib.hid (txT_le l)
  have hs0 := hf.s0; have hs1 : s ≤ 18446744073709551615 := by have := hf.s1; omega
  have hc0 := hf.c0; have hc1 : c ≤ 4294967295 := by have := hf.c1; omega
  have hn1 := hf.n1
  have HTX := Lib.hid (fun W (hb : Below w.heap.size w W) => Text_any (h.below hb) hf.n1 hwf)
  have HPY : Hid (pyT s c l = if errL l = 0 then hd3 s c n ++ txL l else []) := Lib.hid (by rw [hn]; rfl)
  have HTT : Hid (txT l = if errL l = 0 then txL l else []) := Lib.hid rfl
  rw [← hn] at HN HW HTX HLE hn1 ⊢
  clear hf h hwf hn
  have wc : IntKind.u64.wrap c = c := by rw [wrap_u64]; omega
  have wn : IntKind.u64.wrap (n : Int) = (n : Int) := by rw [wrap_u64]; omega
  obtain ⟨T, hT⟩ : ∃ x, x = Lend.strOf (txT l) := ⟨_, rfl⟩
  have hts : T.size ≤ 51000 := by rw [hT, ssize]; have := HLE.out; omega
  rw [← hT] at HTX
  obtain ⟨er, her⟩ : ∃ x, x = errL l := ⟨_, rfl⟩
  rw [← her] at HTX HPY HTT ⊢
  obtain ⟨P, hP⟩ : ∃ x, x = pyT s c l := ⟨_, rfl⟩
  rw [← hP] at HPY ⊢
  have HT := Lib.hid hT
  obtain ⟨H, hH⟩ : ∃ x, x = Lend.strOf (hd3 s c n) := ⟨_, rfl⟩
  rw [← hH] at HW
  have hhs : H.size ≤ 14 := by rw [hH, ssize, hd3_length]; exact Nat.le_refl _
  have HH := Lib.hid hH
  clear hT her hP hH
  obtain ⟨w0, hw0⟩ : ∃ x, x = w.alloc (.cells #[.int .u64 s, .int .u32 c, .slice a n cap] 59) := ⟨_, rfl⟩
  have HB0 := Lib.hid (show Below w.heap.size w w0 by rw [hw0]; exact below_new _ _)
  have HX := Lib.hid (show Has w0 w.heap.size 59 [.int .u64 s, .int .u32 c, .slice a n cap] by rw [hw0]; exact Has.new _ _ _)
  have HT0 := Lib.hid (HTX.out w0 HB0.out)
  clear HTX
  go_enter Tryz.func39, Tryz.ntmps39
  go_wp2_with fail
  rw [← hw0]
  refine HT0.out.mono ?_
  rintro e w1 ⟨rfl, hb1⟩
  have HB1 := Lib.hid (below_on HB0.out hb1)
  have hx1 := HX.out.below hb1 HX.out.lt
  have hxl := hx1.lt
  have y0 := hx1.cell 0
  have y1 := hx1.cell 1
  have y2 := hx1.cell 2
  simp only [List.getElem?_cons_zero, List.getElem?_cons_succ] at y0 y1 y2
  clear hx1 hb1 hw0
  by_cases hz : er = 0
  · subst hz
    have HPY := Lib.hid (show P = hd3 s c n ++ txL l by rw [HPY.out]; rfl)
    have HTT := Lib.hid (show txT l = txL l by rw [HTT.out]; rfl)
    go_wp2_with fail
    go_region_held3 (fun W => W.cell? ⟨w.heap.size, 0, none⟩ = some (.int .u64 s) ∧ W.cell? ⟨w.heap.size, 1, none⟩ = some (.int .u32 c) ∧ W.cell? ⟨w.heap.size, 2, none⟩ = some (.slice a n cap))
      (first
        | with_reducible exact keep3 (by assumption) (by assumption)
        | with_reducible exact keep3 (by assumption) (below_new _ _)
        | go_keep)
      (first
        | (go_at_call 72; refine (recW_any _).mono ?_; rintro e wm ⟨bm, rfl, hrow, hbel⟩)
        | (go_at_call 71
           refine (write_any _ _ 3 3 3 3 [8, 4, 2] [s, c, (n : Int)] _ ?_ ?_ (by decide) (by decide) HN.out).mono ?_
           · repeat (first | assumption | apply Row.drw | apply Row.new | refine Row.later ?_ (by assumption))
           · repeat (first | (refine Row.threeAt _ _ _ _ _ _ _ ?_; first | rfl | (simp; done)) | apply Row.drw | apply Row.new | refine Row.later ?_ (by assumption))
           rintro e wo ⟨rfl, hbel2⟩
           rw [HW.out.1, HW.out.2]))
    all_goals
      rename_i hend
      clear hend wc wn y0 y1 y2
      go_wp2_with fail
      go_ret2
      refine ⟨ret_te (by rw [HPY.out, HH.out, HT.out, HTT.out, sapp]; simp) rfl, ?_⟩
      repeat (first | exact HB1.out | apply below_nw | apply below_dr | refine below_on ?_ (by assumption))
  · have hne : (er == 0) = false := by simpa using hz
    have HPY := Lib.hid (show P = [] by rw [HPY.out, if_neg hz])
    clear wc wn
    go_wp2_with fail
    go_ret2
    exact ⟨ret_te (by rw [HPY.out]; rfl) rfl, HB1.out⟩
end Go.Proofs.YtflanjcfkdjpjaaGreatDoor.Rec


