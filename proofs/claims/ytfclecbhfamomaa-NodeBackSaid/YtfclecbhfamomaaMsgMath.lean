/- Layer 14 (msg): what updates make of values, as lists of bytes. -/
import Derived.Test.YtfclecbhfamomaaUps
namespace Go.Proofs.Ytfclecbhfamomaa.Msg
open Go Go.RowKit Go.Proofs.Ytfclecbhfamomaa Go.Proofs.Ytfclecbhfamomaa.Lend Go.Proofs.Ytfclecbhfamomaa.Rec
set_option linter.unusedVariables false

def numB (l : List UInt8) : Bool := decide (l.length = 8)
def numN (l : List UInt8) : Int := if l.length = 8 then (getL l : Int) else 0
def addN (a b : Int) : Int := (a + b) % 18446744073709551616
theorem addN_bd (a b : Int) : 0 ≤ addN a b ∧ addN a b < 18446744073709551616 := by unfold addN; omega
theorem numN_bd (l : List UInt8) : 0 ≤ numN l ∧ numN l < 18446744073709551616 := by
  unfold numN
  split
  · rename_i h
    have hb := getL_bd l
    rw [h] at hb
    have : getL l < 18446744073709551616 := hb
    omega
  · omega
theorem numN_enc {n : Int} (h0 : 0 ≤ n) (h1 : n < 18446744073709551616) : numN (encN n 8) = n := by
  unfold numN
  rw [if_pos (encN_length n 8)]
  exact getL_encN n 8 h0 h1
theorem numB_enc (n : Int) : numB (encN n 8) = true := by simp [numB, encN_length]
/-- eight bytes are the bytes of their number -/
theorem byteAt_zero (n : Int) : byteAt n 0 = n % 256 := by
  unfold byteAt
  rw [Nat.mul_zero, Int.pow_zero, Int.ediv_one]
theorem byteAt_succ (b m : Nat) (hb : b < 256) (i : Nat) : byteAt ((b + 256 * m : Nat) : Int) (i + 1) = byteAt (m : Int) i := by
  rw [byteAt_nat, byteAt_nat]
  congr 2
  rw [show 8 * (i + 1) = 8 + 8 * i by omega, Nat.pow_add, ← Nat.div_div_eq_div_mul]
  congr 1
  omega
theorem encN_getL : ∀ l : List UInt8, encN (getL l : Nat) l.length = l
  | [] => rfl
  | b :: l => by
    have ih := encN_getL l
    unfold encN at ih ⊢
    rw [List.length_cons, List.range_succ_eq_map, List.map_cons, List.map_map]
    have hb := b.toNat_lt
    have e0 : byteAt ((getL (b :: l) : Nat) : Int) 0 = (b.toNat : Int) := by
      rw [byteAt_zero]
      simp only [getL]
      omega
    rw [e0, Int.toNat_natCast]
    congr 1
    · simp
    · rw [← ih]
      rw [List.length_map, List.length_range]
      apply List.map_congr_left
      intro i _
      simp only [Function.comp]
      rw [show getL (b :: ((List.range l.length).map fun i => UInt8.ofNat (byteAt ((getL l : Nat) : Int) i).toNat)) = b.toNat + 256 * getL l by rw [ih]; rfl, byteAt_succ _ _ hb]
theorem enc_numN {l : List UInt8} (h : l.length = 8) : encN (numN l) 8 = l := by
  have := encN_getL l
  unfold numN
  rw [if_pos h]
  rwa [h] at this
/-- a value, and whether it is there -/
abbrev Sv := List UInt8 × Bool
def stU (s : Sv) : Sv := (if s.2 = true then s.1 else [], s.2)
/-- what an Add makes -/
def adV (s : Sv) (d : Int) : List UInt8 := if s.2 = true then (if s.1.length = 8 then encN (addN (numN s.1) d) 8 else s.1) else encN d 8
def onU (s : Sv) (u : Up) : Sv :=
  if u.kind = 1 then (u.val, true)
  else if u.kind = 2 then ([], false)
  else if u.kind = 3 then (adV s u.delta, true)
  else stU s
def foU (s : Sv) (l : List Up) : Sv := l.foldl onU s
def allU (s : Sv) (l : List Up) : Sv := foU (stU s) l
/-- one of the three kinds -/
structure Tm (u : Up) : Prop where
  k0 : 1 ≤ u.kind
  k1 : u.kind ≤ 3
  d0 : 0 ≤ u.delta
  d1 : u.delta < 18446744073709551616
  pd : u.kind = 1 → u.delta = 0
  len : u.val.length ≤ 40
theorem Tm.wf {u : Up} (h : Tm u) : WfU u := ⟨by have := h.k0; omega, by have := h.k1; omega, h.d0, h.d1⟩
def joU (a b : Up) : Up :=
  if b.kind = 3 then
    (if a.kind = 1 then ⟨1, b.key, if a.val.length = 8 then encN (addN (numN a.val) b.delta) 8 else a.val, 0⟩
    else if a.kind = 2 then ⟨1, b.key, encN b.delta 8, 0⟩
    else ⟨3, b.key, [], addN a.delta b.delta⟩)
  else b
theorem jo_oth {a b : Up} (h : ¬ b.kind = 3) : joU a b = b := by unfold joU; rw [if_neg h]
theorem jo_put {a b : Up} (h : b.kind = 3) (ha : a.kind = 1) : joU a b = ⟨1, b.key, if a.val.length = 8 then encN (addN (numN a.val) b.delta) 8 else a.val, 0⟩ := by unfold joU; rw [if_pos h, if_pos ha]
theorem jo_del {a b : Up} (h : b.kind = 3) (ha : a.kind = 2) : joU a b = ⟨1, b.key, encN b.delta 8, 0⟩ := by unfold joU; rw [if_pos h, if_neg (by omega), if_pos ha]
theorem jo_add {a b : Up} (h : b.kind = 3) (ha : a.kind = 3) : joU a b = ⟨3, b.key, [], addN a.delta b.delta⟩ := by unfold joU; rw [if_pos h, if_neg (by omega), if_neg (by omega)]
theorem jo_tm {a b : Up} (ha : Tm a) (hb : Tm b) : Tm (joU a b) := by
  by_cases h : b.kind = 3
  · have := ha.k0; have := ha.k1
    rcases (show a.kind = 1 ∨ a.kind = 2 ∨ a.kind = 3 by omega) with h1 | h1 | h1
    · rw [jo_put h h1]
      refine ⟨by show (1 : Int) ≤ 1; omega, by show (1 : Int) ≤ 3; omega, by show (0 : Int) ≤ 0; omega, by show (0 : Int) < 18446744073709551616; omega, fun _ => rfl, ?_⟩
      show (if a.val.length = 8 then encN (addN (numN a.val) b.delta) 8 else a.val).length ≤ 40
      split
      · rw [encN_length]; omega
      · exact ha.len
    · rw [jo_del h h1]
      exact ⟨by show (1 : Int) ≤ 1; omega, by show (1 : Int) ≤ 3; omega, by show (0 : Int) ≤ 0; omega, by show (0 : Int) < 18446744073709551616; omega, fun _ => rfl, by show (encN b.delta 8).length ≤ 40; rw [encN_length]; omega⟩
    · rw [jo_add h h1]
      have hb := addN_bd a.delta b.delta
      exact ⟨by show (1 : Int) ≤ 3; omega, by show (3 : Int) ≤ 3; omega, hb.1, hb.2, fun h => by have h3 : (3 : Int) = 1 := h; omega, by show ([] : List UInt8).length ≤ 40; simp⟩
  · rw [jo_oth h]; exact hb
theorem on_put (s : Sv) {u : Up} (h : u.kind = 1) : onU s u = (u.val, true) := by unfold onU; rw [if_pos h]
theorem on_del (s : Sv) {u : Up} (h : u.kind = 2) : onU s u = ([], false) := by unfold onU; rw [if_neg (by omega), if_pos h]
theorem on_add (s : Sv) {u : Up} (h : u.kind = 3) : onU s u = (adV s u.delta, true) := by unfold onU; rw [if_neg (by omega), if_neg (by omega), if_pos h]
theorem on_oth (s : Sv) {u : Up} (h1 : ¬ u.kind = 1) (h2 : ¬ u.kind = 2) (h3 : ¬ u.kind = 3) : onU s u = stU s := by unfold onU; rw [if_neg h1, if_neg h2, if_neg h3]
/-- the joined one does what both do -/
theorem on_join (s : Sv) {a b : Up} (ha : Tm a) (hb : Tm b) : onU s (joU a b) = onU (onU s a) b := by
  by_cases h : b.kind = 3
  · have := ha.k0; have := ha.k1
    rw [on_add _ h]
    rcases (show a.kind = 1 ∨ a.kind = 2 ∨ a.kind = 3 by omega) with h1 | h1 | h1
    · rw [jo_put h h1, on_put _ (by rfl), on_put _ h1]
      simp only [adV, if_true]
    · rw [jo_del h h1, on_put _ (by rfl), on_del _ h1]
      simp [adV]
    · rw [jo_add h h1, on_add _ (by rfl), on_add _ h1]
      simp only [adV, if_true]
      congr 1
      by_cases hs : s.2 = true
      · simp only [if_pos hs]
        by_cases h8 : s.1.length = 8
        · simp only [if_pos h8, encN_length, if_true]
          rw [numN_enc (addN_bd _ _).1 (addN_bd _ _).2]
          congr 1
          unfold addN
          omega
        · simp only [if_neg h8]
      · simp only [if_neg hs, encN_length, if_true]
        rw [numN_enc ha.d0 ha.d1]
  · rw [jo_oth h]
    have := hb.k0; have := hb.k1
    rcases (show b.kind = 1 ∨ b.kind = 2 by omega) with h1 | h1
    · rw [on_put _ h1, on_put _ h1]
    · rw [on_del _ h1, on_del _ h1]
/-- what stays is told once -/
theorem on_st (s : Sv) (u : Up) : onU (stU s) u = onU s u := by
  unfold onU stU adV
  cases s.2 <;> simp
theorem fo_nil (s : Sv) : foU s [] = s := rfl
theorem fo_cons (s : Sv) (u : Up) (l : List Up) : foU s (u :: l) = foU (onU s u) l := rfl
theorem fo_snoc (s : Sv) (l : List Up) (u : Up) : foU s (l ++ [u]) = onU (foU s l) u := by unfold foU; rw [List.foldl_append]; rfl
theorem fo_app (s : Sv) (l m : List Up) : foU s (l ++ m) = foU (foU s l) m := by unfold foU; rw [List.foldl_append]
theorem all_cons (s : Sv) (u : Up) (l : List Up) : allU s (u :: l) = foU s (u :: l) := by unfold allU; rw [fo_cons, fo_cons, on_st]
theorem all_one (s : Sv) (u : Up) : allU s [u] = onU s u := by rw [all_cons, fo_cons, fo_nil]
/-- joined from the left -/
def jlU (u : Up) (l : List Up) : Up := l.foldl joU u
theorem jl_tm {u : Up} {l : List Up} (hu : Tm u) (hl : ∀ x ∈ l, Tm x) : Tm (jlU u l) := by
  induction l generalizing u with
  | nil => exact hu
  | cons x l ih => exact ih (jo_tm hu (hl x (by simp))) (fun y hy => hl y (by simp [hy]))
theorem on_jl (s : Sv) {u : Up} {l : List Up} (hu : Tm u) (hl : ∀ x ∈ l, Tm x) : onU s (jlU u l) = foU s (u :: l) := by
  induction l generalizing u with
  | nil => rfl
  | cons x l ih =>
    show onU s (jlU (joU u x) l) = _
    rw [ih (jo_tm hu (hl x (by simp))) (fun y hy => hl y (by simp [hy])), fo_cons, on_join s hu (hl x (by simp))]; rfl
/-- joined from the right -/
def jrU : List Up → Up → Up
  | [], z => z
  | x :: l, z => joU x (jrU l z)
theorem jr_tm {z : Up} {l : List Up} (hz : Tm z) (hl : ∀ x ∈ l, Tm x) : Tm (jrU l z) := by
  induction l with
  | nil => exact hz
  | cons x l ih => exact jo_tm (hl x (by simp)) (ih fun y hy => hl y (by simp [hy]))
theorem on_jr (s : Sv) {z : Up} {l : List Up} (hz : Tm z) (hl : ∀ x ∈ l, Tm x) : onU s (jrU l z) = foU s (l ++ [z]) := by
  induction l generalizing s with
  | nil => rfl
  | cons x l ih =>
    have hl' : ∀ y ∈ l, Tm y := fun y hy => hl y (by simp [hy])
    show onU s (joU x (jrU l z)) = _
    rw [on_join s (hl x (by simp)) (jr_tm hz hl'), ih _ hl']; rfl
/-- values stay short -/
theorem on_len {s : Sv} {u : Up} {n : Nat} (hn : 8 ≤ n) (hs : s.1.length ≤ n) (hu : u.val.length ≤ n) : (onU s u).1.length ≤ n := by
  unfold onU stU adV
  split
  · exact hu
  · split
    · simp
    · split
      · show (if s.2 = true then _ else _ : List UInt8).length ≤ n
        split
        · split
          · rw [encN_length]; omega
          · exact hs
        · rw [encN_length]; omega
      · show (if s.2 = true then s.1 else [] : List UInt8).length ≤ n
        split
        · exact hs
        · simp
theorem st_len {s : Sv} {n : Nat} (hs : s.1.length ≤ n) : (stU s).1.length ≤ n := by
  unfold stU
  show (if s.2 = true then s.1 else [] : List UInt8).length ≤ n
  split
  · exact hs
  · simp
theorem fo_len {s : Sv} {n : Nat} (hn : 8 ≤ n) (hs : s.1.length ≤ n) {l : List Up} (hl : ∀ u ∈ l, u.val.length ≤ n) : (foU s l).1.length ≤ n := by
  induction l generalizing s with
  | nil => exact hs
  | cons u l ih => exact ih (on_len hn hs (hl u (by simp))) (fun y hy => hl y (by simp [hy]))
end Go.Proofs.Ytfclecbhfamomaa.Msg
