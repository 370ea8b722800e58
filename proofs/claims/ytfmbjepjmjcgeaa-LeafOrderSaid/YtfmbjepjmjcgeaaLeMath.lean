/- Layer 16 (leaf): entries by rising keys, as lists. -/
import Derived.Test.YtfmbjepjmjcgeaaBufMath
import Derived.Test.YtfmbjepjmjcgeaaLendR
namespace Go.Proofs.Ytfmbjepjmjcgeaa.Leaf
open Go Go.RowKit Go.Proofs.Ytfmbjepjmjcgeaa Go.Proofs.Ytfmbjepjmjcgeaa.Lend Go.Proofs.Ytfmbjepjmjcgeaa.Rec Go.Proofs.Ytfmbjepjmjcgeaa.Msg Go.Proofs.Ytfmbjepjmjcgeaa.Buf
set_option linter.unusedVariables false

/-- an entry, as an update of which key and value count -/
def enU (k v : List UInt8) : Up := ⟨0, k, v, 0⟩
/-- what is there of a key -/
def svK (L : List Up) (k : List UInt8) : Sv := match getO L k with | some x => (x.val, true) | none => ([], false)
theorem svK_yes {L : List Up} {k : List UInt8} (h : thK L k = true) : svK L k = ((L[plK L k]'(thK_yes h).1).val, true) := by unfold svK; rw [getO_yes h]
theorem svK_no {L : List Up} {k : List UInt8} (h : thK L k = false) : svK L k = ([], false) := by unfold svK; rw [getO_no h]
/-- what an update leaves of its key -/
def nwK (L : List Up) (u : Up) : List Up := if (onU (svK L u.key) u).2 = true then [enU u.key (onU (svK L u.key) u).1] else []
theorem nwK_yes {L : List Up} {u : Up} (h : (onU (svK L u.key) u).2 = true) : nwK L u = [enU u.key (onU (svK L u.key) u).1] := if_pos h
theorem nwK_no {L : List Up} {u : Up} (h : (onU (svK L u.key) u).2 = false) : nwK L u = [] := if_neg (by rw [h]; simp)
theorem nwK_key {L : List Up} {u x : Up} (h : x ∈ nwK L u) : x.key = u.key := by
  unfold nwK at h
  split at h
  · rw [List.mem_singleton] at h; rw [h]; rfl
  · cases h
/-- one, or none -/
def t1 (b : Bool) : Nat := if b = true then 1 else 0
/-- what an update makes of the entries -/
def putE (L : List Up) (u : Up) : List Up := L.take (plK L u.key) ++ (nwK L u ++ L.drop (plK L u.key + t1 (thK L u.key)))
def upE (L : List Up) (u : Up) : List Up := if chkU u = 0 then putE L u else L
def onL (L : List Up) (us : List Up) : List Up := us.foldl upE L
theorem upE_yes {L : List Up} {u : Up} (h : chkU u = 0) : upE L u = putE L u := if_pos h
theorem upE_no {L : List Up} {u : Up} (h : ¬ chkU u = 0) : upE L u = L := if_neg h
theorem onL_snoc (L l : List Up) (u : Up) : onL L (l ++ [u]) = upE (onL L l) u := by unfold onL; rw [List.foldl_append]; rfl
theorem onL_cons (L : List Up) (u : Up) (l : List Up) : onL L (u :: l) = onL (upE L u) l := rfl
theorem onL_one (L : List Up) (u : Up) : onL L [u] = upE L u := rfl
theorem take_lt {L : List Up} (hs : Srt L) (k : List UInt8) : ∀ x ∈ L.take (plK L k), kLt x.key k = true := by
  intro x hx
  rw [← below_take k hs] at hx
  exact (List.mem_filter.1 hx).2
theorem drop_ge {L : List Up} (hs : Srt L) (k : List UInt8) : ∀ x ∈ L.drop (plK L k), kLt x.key k = false := by
  intro x hx
  rw [← above_drop k hs] at hx
  simpa using (List.mem_filter.1 hx).2
theorem drop_gt {L : List Up} (hs : Srt L) (k : List UInt8) : ∀ x ∈ L.drop (plK L k + t1 (thK L k)), kLt k x.key = true := by
  intro x hx
  unfold t1 at hx
  cases ht : thK L k with
  | true =>
    rw [ht, if_pos rfl] at hx
    obtain ⟨hp, hk⟩ := thK_yes ht
    have hd := List.drop_eq_getElem_cons hp
    have hsd : Srt (L.drop (plK L k)) := List.Pairwise.sublist (List.drop_sublist _ _) hs
    rw [hd] at hsd
    have := (srt_cons.1 hsd).1 x hx
    rwa [hk] at this
  | false =>
    rw [ht, if_neg (by simp), Nat.add_zero] at hx
    have h1 := drop_ge hs k x hx
    cases h2 : kLt k x.key with
    | true => rfl
    | false =>
      have e := kLt_tri h1 h2
      have := (thK_iff hs k).2 ⟨x, List.mem_of_mem_drop hx, e⟩
      rw [ht] at this; cases this
theorem putE_mem {L : List Up} (hs : Srt L) (u x : Up) : x ∈ putE L u ↔ x ∈ nwK L u ∨ (x ∈ L ∧ x.key ≠ u.key) := by
  unfold putE
  rw [List.mem_append, List.mem_append]
  constructor
  · rintro (h | h | h)
    · exact .inr ⟨List.mem_of_mem_take h, kLt_ne (take_lt hs _ x h)⟩
    · exact .inl h
    · exact .inr ⟨List.mem_of_mem_drop h, (kLt_ne (drop_gt hs _ x h)).symm⟩
  · rintro (h | ⟨h, hn⟩)
    · exact .inr (.inl h)
    · rw [← List.take_append_drop (plK L u.key) L, List.mem_append] at h
      rcases h with h | h
      · exact .inl h
      · refine .inr (.inr ?_)
        unfold t1
        cases ht : thK L u.key with
        | false => rw [if_neg (by simp)]; exact h
        | true =>
          obtain ⟨hp, hk⟩ := thK_yes ht
          rw [List.drop_eq_getElem_cons hp] at h
          rw [if_pos rfl]
          rcases List.mem_cons.1 h with e | h
          · rw [e, hk] at hn; exact absurd rfl hn
          · exact h
theorem nwK_srt (L : List Up) (u : Up) : Srt (nwK L u) := by
  unfold nwK
  split
  · exact srt_cons.2 ⟨(fun y hy => by cases hy), srt_nil⟩
  · exact srt_nil
theorem putE_srt {L : List Up} (hs : Srt L) (u : Up) : Srt (putE L u) := by
  unfold putE
  refine srt_app.2 ⟨List.Pairwise.sublist (List.take_sublist _ _) hs, srt_app.2 ⟨nwK_srt L u, List.Pairwise.sublist (List.drop_sublist _ _) hs, fun x hx y hy => ?_⟩, fun x hx y hy => ?_⟩
  · rw [nwK_key hx]; exact drop_gt hs _ y hy
  · have h1 := take_lt hs _ x hx
    rcases List.mem_append.1 hy with hy | hy
    · rw [nwK_key hy]; exact h1
    · exact kLt_trans h1 (drop_gt hs _ y hy)
theorem upE_srt {L : List Up} (hs : Srt L) (u : Up) : Srt (upE L u) := by
  unfold upE
  split
  · exact putE_srt hs u
  · exact hs
theorem nwK_len (L : List Up) (u : Up) : (nwK L u).length ≤ 1 := by unfold nwK; split <;> simp
theorem putE_len (L : List Up) (u : Up) : (putE L u).length ≤ L.length + 1 := by
  unfold putE
  have := nwK_len L u
  rw [List.length_append, List.length_append, List.length_take, List.length_drop]
  omega
theorem upE_len (L : List Up) (u : Up) : (upE L u).length ≤ L.length + 1 := by
  unfold upE
  split
  · exact putE_len L u
  · omega
/-- entries as they may be -/
def OkE (x : Up) : Prop := x.key ≠ [] ∧ x.key.length ≤ 16 ∧ x.val.length ≤ 32
structure Ge (L : List Up) (k : Nat) : Prop where
  srt : Srt L
  ok : ∀ x ∈ L, OkE x
  len : L.length ≤ k
theorem ge_nil : Ge [] 0 := ⟨srt_nil, (fun x hx => by cases hx), Nat.le_refl _⟩
theorem Ge.up {L : List Up} {k : Nat} (h : Ge L k) (u : Up) : Ge (upE L u) (k + 1) := by
  refine ⟨upE_srt h.srt u, fun x hx => ?_, Nat.le_trans (upE_len L u) (by have := h.len; omega)⟩
  by_cases hc : chkU u = 0
  · rw [upE_yes hc, putE_mem h.srt] at hx
    rcases hx with hx | hx
    · obtain ⟨k1, k2, k3, _⟩ := chkU_ok hc
      have hk := nwK_key hx
      refine ⟨fun e => by rw [hk] at e; rw [e] at k1; simp at k1, by rw [hk]; exact k2, ?_⟩
      unfold nwK at hx
      split at hx
      · rw [List.mem_singleton] at hx
        rw [hx]
        refine on_len (by omega) ?_ k3
        unfold svK
        split
        · rename_i y hy; exact (h.ok y ((getO_iff h.srt _ _).1 hy).1).2.2
        · simp
      · cases hx
    · exact h.ok x hx.1
  · rw [upE_no hc] at hx; exact h.ok x hx
theorem Ge.on {L : List Up} {k : Nat} (h : Ge L k) (us : List Up) : Ge (onL L us) (k + us.length) := by
  induction us generalizing L k with
  | nil => exact h
  | cons u us ih =>
    rw [onL_cons, List.length_cons, show k + (us.length + 1) = k + 1 + us.length by omega]
    exact ih (h.up u)
theorem svK_len {L : List Up} {k : Nat} (h : Ge L k) (key : List UInt8) : (svK L key).1.length ≤ 32 := by
  unfold svK
  split
  · rename_i y hy; exact (h.ok y ((getO_iff h.srt _ _).1 hy).1).2.2
  · simp
/-- in place, another value -/
theorem putE_set {L : List Up} {u : Up} (h : thK L u.key = true) (h2 : (onU (svK L u.key) u).2 = true) : putE L u = L.set (plK L u.key) (enU u.key (onU (svK L u.key) u).1) := by
  have hp := (thK_yes h).1
  unfold putE t1
  rw [nwK_yes h2, h, if_pos rfl, List.set_eq_take_append_cons_drop, if_pos hp]
  rfl
/-- one fewer -/
theorem putE_del {L : List Up} {u : Up} (h : thK L u.key = true) (h2 : (onU (svK L u.key) u).2 = false) : putE L u = L.take (plK L u.key) ++ L.drop (plK L u.key + 1) := by
  unfold putE t1
  rw [nwK_no h2, h, if_pos rfl]; rfl
/-- one more -/
theorem putE_ins {L : List Up} {u : Up} (h : thK L u.key = false) (h2 : (onU (svK L u.key) u).2 = true) : putE L u = L.take (plK L u.key) ++ enU u.key (onU (svK L u.key) u).1 :: L.drop (plK L u.key) := by
  unfold putE t1
  rw [nwK_yes h2, h, if_neg (by simp)]; rfl
theorem putE_same {L : List Up} {u : Up} (h : thK L u.key = false) (h2 : (onU (svK L u.key) u).2 = false) : putE L u = L := by
  unfold putE t1
  rw [nwK_no h2, h, if_neg (by simp), Nat.add_zero, List.nil_append, List.take_append_drop]
/-- how far the document's On has come -/
structure Wo (L : List Up) (u : Up) (i : Nat) (d : Bool) (o : List Up) : Prop where
  d : d = (!(onU (svK L u.key) u).2 || decide (plK L u.key < i))
  o : o = if i ≤ plK L u.key then L.take i else L.take (plK L u.key) ++ (nwK L u ++ (L.take i).drop (plK L u.key + t1 (thK L u.key)))
theorem wo_start (L : List Up) (u : Up) : Wo L u 0 (!(onU (svK L u.key) u).2) [] := ⟨by simp, by rw [if_pos (Nat.zero_le _)]; simp⟩
theorem wo_len {L : List Up} {u : Up} {i : Nat} {d : Bool} {o : List Up} (h : Wo L u i d o) : o.length ≤ L.length + 1 := by
  rw [h.o]
  split
  · rw [List.length_take]; omega
  · have := nwK_len L u
    rw [List.length_append, List.length_append, List.length_take, List.length_drop, List.length_take]; omega
/-- ahead of the place -/
theorem wo_lo {L : List Up} {u : Up} {i : Nat} {d : Bool} {o : List Up} (hs : Srt L) (hi : i < L.length) (h : Wo L u i d o) (hk : kLt L[i].key u.key = true) : L[i].key ≠ u.key ∧ Wo L u (i + 1) d (o ++ [L[i]]) := by
  have hp := plK_get (k := u.key) hs i hi
  rw [hk] at hp
  have hp : i < plK L u.key := by simpa using hp.symm
  refine ⟨kLt_ne hk, ?_, ?_⟩
  · rw [h.d]
    congr 1
    rw [Bool.eq_iff_iff]; simp; omega
  · rw [h.o, if_pos (by omega), if_pos (by omega), List.take_succ_eq_append_getElem hi]
theorem wo_drop {L : List Up} {i q : Nat} (hi : i < L.length) (hq : q ≤ i) : (L.take (i + 1)).drop q = (L.take i).drop q ++ [L[i]] := by
  rw [List.take_succ_eq_append_getElem hi, List.drop_append_of_le_length (by rw [List.length_take]; omega)]
/-- at the place: what is new stands ahead -/
theorem wo_at {L : List Up} {u : Up} {i : Nat} {o : List Up} (hs : Srt L) (hi : i < L.length) (h : Wo L u i false o) (hk : kLt L[i].key u.key = false) :
    (onU (svK L u.key) u).2 = true ∧ (L[i].key = u.key → Wo L u (i + 1) true (o ++ [enU u.key (onU (svK L u.key) u).1])) ∧ (L[i].key ≠ u.key → Wo L u (i + 1) true ((o ++ [enU u.key (onU (svK L u.key) u).1]) ++ [L[i]])) := by
  have hd := h.d
  have ho := h.o
  have hp := plK_get (k := u.key) hs i hi
  rw [hk] at hp
  have hp : ¬ i < plK L u.key := by simpa using hp.symm
  have h2 : (onU (svK L u.key) u).2 = true ∧ ¬ plK L u.key < i := by
    cases h2 : (onU (svK L u.key) u).2 with
    | false => rw [h2] at hd; simp at hd
    | true => rw [h2] at hd; exact ⟨rfl, by simpa using hd.symm⟩
  obtain ⟨h2, h3⟩ := h2
  have e : i = plK L u.key := by omega
  have ht : thK L u.key = (L[i].key == u.key) := by
    unfold thK
    rw [← e, List.getElem?_eq_getElem hi]
  rw [if_pos (by omega)] at ho
  refine ⟨h2, fun he => ⟨by rw [h2]; simp; omega, ?_⟩, fun he => ⟨by rw [h2]; simp; omega, ?_⟩⟩
  · rw [if_neg (by omega), ho, nwK_yes h2, ht, he, ← e]
    unfold t1
    simp
  · rw [if_neg (by omega), ho, nwK_yes h2, ht, ← e, show (L[i].key == u.key) = false by simpa using he]
    unfold t1
    rw [if_neg (by simp), Nat.add_zero, wo_drop hi (Nat.le_refl _)]
    simp
/-- behind it -/
theorem wo_hi {L : List Up} {u : Up} {i : Nat} {o : List Up} (hs : Srt L) (hi : i < L.length) (h : Wo L u i true o) (hk : kLt L[i].key u.key = false) :
    (L[i].key = u.key → Wo L u (i + 1) true o) ∧ (L[i].key ≠ u.key → Wo L u (i + 1) true (o ++ [L[i]])) := by
  have hd := h.d
  have ho := h.o
  have hp := plK_get (k := u.key) hs i hi
  rw [hk] at hp
  have hp : ¬ i < plK L u.key := by simpa using hp.symm
  have hd2 : (!(onU (svK L u.key) u).2 || decide (plK L u.key < i + 1)) = true := by
    rw [show decide (plK L u.key < i + 1) = true by simpa using (by omega : plK L u.key < i + 1)]; simp
  by_cases e : plK L u.key = i
  · have h2 : (onU (svK L u.key) u).2 = false := by
      rw [e] at hd
      cases h2 : (onU (svK L u.key) u).2 with
      | false => rfl
      | true => rw [h2] at hd; simp at hd
    have ht : thK L u.key = (L[i].key == u.key) := by
      unfold thK
      rw [e, List.getElem?_eq_getElem hi]
    rw [if_pos (by omega)] at ho
    refine ⟨fun he => ⟨hd2.symm, ?_⟩, fun he => ⟨hd2.symm, ?_⟩⟩
    · rw [if_neg (by omega), ho, nwK_no h2, ht, he, e]
      unfold t1
      simp
    · rw [if_neg (by omega), ho, nwK_no h2, ht, e, show (L[i].key == u.key) = false by simpa using he]
      unfold t1
      rw [if_neg (by simp), Nat.add_zero, wo_drop hi (Nat.le_refl _)]
      simp
  · have hlt : plK L u.key < i := by omega
    have hne : L[i].key ≠ u.key := by
      intro he
      have := (plK_self hs i hi).1
      rw [he] at this
      omega
    refine ⟨fun he => absurd he hne, fun _ => ⟨hd2.symm, ?_⟩⟩
    rw [if_neg (by omega), ho, if_neg (by omega), wo_drop hi (by unfold t1; split <;> omega)]
    simp
theorem wo_end {L : List Up} {u : Up} {d : Bool} {o : List Up} (h : Wo L u L.length d o) : putE L u = if d = true then o else o ++ [enU u.key (onU (svK L u.key) u).1] := by
  have hd := h.d
  have ho := h.o
  have hpl := plK_le L u.key
  by_cases e : plK L u.key < L.length
  · rw [show decide (plK L u.key < L.length) = true by simpa using e] at hd
    rw [hd, if_pos (by simp), ho, if_neg (by omega), List.take_length]; rfl
  · have e2 : plK L u.key = L.length := by omega
    have ht : thK L u.key = false := by unfold thK; rw [e2, List.getElem?_eq_none (Nat.le_refl _)]
    rw [e2, if_pos (Nat.le_refl _), List.take_length] at ho
    unfold putE t1
    rw [ht, if_neg (by simp), Nat.add_zero, e2, List.take_length, List.drop_length, List.append_nil]
    cases h2 : (onU (svK L u.key) u).2 with
    | true =>
      rw [h2, e2] at hd
      simp at hd
      rw [hd, if_neg (by simp), nwK_yes h2, ho]
    | false =>
      rw [h2] at hd
      simp at hd
      rw [hd, if_pos rfl, nwK_no h2, ho, List.append_nil]
/-- an entry's bytes -/
def txe (x : Up) : List UInt8 := len8 x.key ++ len8 x.val
def txE (L : List Up) : List UInt8 := L.flatMap txe
theorem txE_snoc (L : List Up) (x : Up) : txE (L ++ [x]) = txE L ++ txe x := by unfold txE; simp
theorem txE_len {L : List Up} {m : Nat} (h : ∀ x ∈ L, x.key.length ≤ m ∧ x.val.length ≤ m) : (txE L).length ≤ L.length * (2 * m + 2) := by
  unfold txE
  induction L with
  | nil => simp
  | cons x L ih =>
    have h1 := h x (by simp)
    have h2 := ih fun y hy => h y (by simp [hy])
    have e : (txe x).length = x.key.length + 1 + (x.val.length + 1) := by unfold txe len8; simp; omega
    rw [List.flatMap_cons, List.length_append, List.length_cons, Nat.succ_mul, e]
    omega
/-- the first entry of these bytes, and what stands behind it -/
def pre1 (s : List UInt8) : Option (Up × List UInt8) := if splB s = true then (if splB (splR s) = true then some (enU (splT s) (splT (splR s)), splR (splR s)) else none) else none
def preN : Nat → List UInt8 → Option (List Up)
  | _, [] => some []
  | 0, _ :: _ => none
  | n + 1, s => match pre1 s with
    | none => none
    | some (u, r) => match preN n r with
      | none => none
      | some l => some (u :: l)
def preL (s : List UInt8) : Option (List Up) := preN s.length s
theorem preN_cons (n : Nat) (s : List UInt8) (hs : s ≠ []) : preN (n + 1) s = match pre1 s with
    | none => none
    | some (u, r) => match preN n r with
      | none => none
      | some l => some (u :: l) := by
  cases s with
  | nil => exact absurd rfl hs
  | cons x s => rfl
theorem splR_lt {s : List UInt8} (h : splB s = true) : (splR s).length < s.length := by
  cases s with
  | nil => cases h
  | cons b r =>
    unfold splB at h
    unfold splR
    simp only [decide_eq_true_eq] at h ⊢
    rw [if_pos h, List.length_drop, List.length_cons]; omega
theorem pre1_lt {s r : List UInt8} {u : Up} (h : pre1 s = some (u, r)) : r.length + 2 ≤ s.length := by
  unfold pre1 at h
  split at h
  · rename_i h1
    split at h
    · rename_i h2
      injection h with h
      injection h with _ h
      have a := splR_lt h1
      have b := splR_lt h2
      rw [h] at b
      omega
    · cases h
  · cases h
theorem preN_more : ∀ (n m : Nat) (s : List UInt8), s.length ≤ n → s.length ≤ m → preN n s = preN m s
  | n, m, [], _, _ => by cases n <;> cases m <;> rfl
  | 0, _, _ :: _, h, _ => by simp at h
  | _, 0, _ :: _, _, h => by simp at h
  | n + 1, m + 1, x :: s, h1, h2 => by
    rw [preN_cons _ _ (by simp), preN_cons _ _ (by simp)]
    cases hp : pre1 (x :: s) with
    | none => rfl
    | some p =>
      obtain ⟨u, r⟩ := p
      have := pre1_lt hp
      simp only
      rw [preN_more n m r (by omega) (by omega)]
theorem preL_nil : preL [] = some [] := rfl
theorem preL_no {s : List UInt8} (hs : s ≠ []) (h : pre1 s = none) : preL s = none := by
  unfold preL
  cases s with
  | nil => exact absurd rfl hs
  | cons x s => rw [List.length_cons, preN_cons _ _ hs, h]
theorem preL_yes {s r : List UInt8} {u : Up} (hs : s ≠ []) (h : pre1 s = some (u, r)) : preL s = (preL r).map (u :: ·) := by
  unfold preL
  cases s with
  | nil => exact absurd rfl hs
  | cons x s =>
    have := pre1_lt h
    rw [List.length_cons] at this ⊢
    rw [preN_cons _ _ hs, h]
    simp only
    rw [preN_more s.length r.length r (by omega) (Nat.le_refl _)]
    cases preN r.length r <;> rfl
theorem preL_le : ∀ {n : Nat} {s : List UInt8} {l : List Up}, s.length ≤ n → preL s = some l → l.length ≤ s.length
  | n, [], l, _, h => by rw [preL_nil] at h; injection h with h; rw [← h]; simp
  | 0, _ :: _, _, hn, _ => by simp at hn
  | n + 1, x :: s, l, hn, h => by
    cases hp : pre1 (x :: s) with
    | none => rw [preL_no (by simp) hp] at h; cases h
    | some p =>
      obtain ⟨u, r⟩ := p
      have hl := pre1_lt hp
      rw [preL_yes (by simp) hp] at h
      cases hr : preL r with
      | none => rw [hr] at h; cases h
      | some m =>
        rw [hr] at h
        simp only [Option.map_some, Option.some.injEq] at h
        simp only [List.length_cons] at hn hl
        have := preL_le (n := n) (by omega) hr
        rw [← h]
        simp only [List.length_cons]
        omega
/-- as a leaf's are -/
def okB (x : Up) : Bool := decide (1 ≤ x.key.length ∧ x.key.length ≤ 16 ∧ x.val.length ≤ 32)
def riB (L : List Up) : Bool := L.all okB && risB L
theorem riB_srt {L : List Up} (h : riB L = true) : Srt L := by
  unfold riB at h
  rw [Bool.and_eq_true] at h
  exact (ris_iff L).1 h.2
theorem riB_no1 {L : List Up} {i : Nat} (hi : i < L.length) (h : okB L[i] = false) : riB L = false := by
  unfold riB
  have : L.all okB = false := by
    rw [List.all_eq_false]
    exact ⟨L[i], List.getElem_mem hi, by simp [h]⟩
  rw [this]; rfl
theorem riB_no2 {L : List Up} {k : Nat} (hk : k + 1 < L.length) (h : kLt L[k].key L[k + 1].key = false) : riB L = false := by
  unfold riB
  rw [ris_no hk h]; simp
/-- the first ones are -/
structure RiTo (L : List Up) (j : Nat) : Prop where
  ok : ∀ i (hi : i < L.length), i < j → okB L[i] = true
  up : ∀ i (hi : i + 1 < L.length), i + 1 < j → kLt L[i].key L[i + 1].key = true
theorem RiTo.all {L : List Up} {j : Nat} (h : RiTo L j) (hj : L.length ≤ j) : riB L = true := by
  unfold riB
  rw [Bool.and_eq_true]
  refine ⟨List.all_eq_true.2 fun x hx => ?_, ris_yes fun k hk => h.up k hk (by omega)⟩
  obtain ⟨i, hi, rfl⟩ := List.mem_iff_getElem.1 hx
  exact h.ok i hi (by omega)
theorem RiTo.snoc {L : List Up} {j : Nat} (h : RiTo L j) (hj : j < L.length) (h1 : okB L[j] = true) (h2 : ∀ (h0 : 0 < j), kLt (L[j - 1]'(by omega)).key L[j].key = true) : RiTo L (j + 1) := by
  refine ⟨fun i hi hij => ?_, fun i hi hij => ?_⟩
  · by_cases e : i = j
    · subst e; exact h1
    · exact h.ok i hi (by omega)
  · by_cases e : i + 1 = j
    · have := h2 (by omega)
      simp only [show j - 1 = i by omega] at this
      simp only [e]
      exact this
    · exact h.up i hi (by omega)
/-- what Of answers; what Parse answers -/
def ofN (L : List Up) : Int := if riB L = true then 0 else 2
def ofE (L : List Up) : List Up := if riB L = true then L else []
def paN (s : List UInt8) : Int := match preL s with | some l => if riB l = true then 0 else 4 | none => 4
def paE (s : List UInt8) : List Up := match preL s with | some l => if riB l = true then l else [] | none => []
theorem ofE_srt (L : List Up) : Srt (ofE L) := by
  unfold ofE
  split
  · rename_i h; exact riB_srt h
  · exact srt_nil
theorem paE_srt (s : List UInt8) : Srt (paE s) := by
  unfold paE
  split
  · split
    · rename_i h; exact riB_srt h
    · exact srt_nil
  · exact srt_nil
theorem paE_len (s : List UInt8) : (paE s).length ≤ s.length := by
  unfold paE
  split
  · rename_i h
    split
    · exact preL_le (Nat.le_refl _) h
    · simp
  · simp
end Go.Proofs.Ytfmbjepjmjcgeaa.Leaf
