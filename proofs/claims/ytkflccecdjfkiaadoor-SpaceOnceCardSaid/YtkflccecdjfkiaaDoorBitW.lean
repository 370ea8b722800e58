/- Plain mathematics of layer 9 (bits): a list of bools as 64 words of 64 bits. -/
import Derived.Test.YtkflccecdjfkiaaDoorBitMath
import Derived.Test.YtkflccecdjfkiaaDoorBitPop
import Derived.Laws.BitsAllLaws
namespace Go.Proofs.YtkflccecdjfkiaaDoor.Bit
open Go.RowKit Go.Proofs.YtkflccecdjfkiaaDoor
set_option linter.unusedVariables false

def wg (ws : List Nat) (j : Nat) : Nat := ws.getD j 0
/-- the words that stand for a list -/
structure WS (ws : List Nat) (l : List Bool) : Prop where
  len : ws.length = 64
  lt : ∀ j, wg ws j < 18446744073709551616
  bit : ∀ j i, j < 64 → i < 64 → (wg ws j).testBit i = bg l (64 * j + i)
theorem bg_out {l : List Bool} {i : Nat} (h : l.length ≤ i) : bg l i = false := by
  rw [bg, List.getD_eq_getElem?_getD, List.getElem?_eq_none h]; rfl
theorem wg_set (ws : List Nat) (j i x : Nat) (hj : j < ws.length) : wg (ws.set j x) i = if i = j then x else wg ws i := by
  unfold wg
  rw [List.getD_eq_getElem?_getD, List.getD_eq_getElem?_getD]
  by_cases e : i = j
  · subst e; rw [if_pos rfl, List.getElem?_set_self hj]; rfl
  · rw [if_neg e, List.getElem?_set_ne (fun h => e h.symm)]
theorem WS.new (n : Nat) : WS (List.replicate 64 0) (List.replicate n false) := by
  have z : ∀ j, wg (List.replicate 64 0) j = 0 := by
    intro j; unfold wg; rw [List.getD_eq_getElem?_getD, List.getElem?_replicate]; split <;> rfl
  refine ⟨by simp, fun j => by rw [z]; decide, fun j i _ _ => ?_⟩
  rw [z, Nat.zero_testBit, bg, List.getD_eq_getElem?_getD, List.getElem?_replicate]; split <;> rfl
/-- a word with one bit put, or taken out -/
def pw (x i : Nat) (is : Bool) : Nat := if is = true then x ||| 2 ^ i else x &&& (18446744073709551615 - 2 ^ i)
theorem pow_lt64 {i : Nat} (h : i < 64) : 2 ^ i < 18446744073709551616 := Nat.lt_of_lt_of_eq (Nat.pow_lt_pow_right (by decide) h) rfl
theorem pow_pos2 (i : Nat) : 0 < 2 ^ i := Nat.pow_pos (by decide)
theorem pw_lt {x i : Nat} (hx : x < 18446744073709551616) (hi : i < 64) (is : Bool) : pw x i is < 18446744073709551616 := by
  unfold pw; split
  · exact Nat.or_lt_two_pow (n := 64) hx (pow_lt64 hi)
  · exact Nat.lt_of_le_of_lt Nat.and_le_left hx
theorem not_bit (i j : Nat) (hi : i < 64) (hj : j < 64) : (18446744073709551615 - 2 ^ i).testBit j = decide (j ≠ i) := by
  have h := Nat.testBit_two_pow_sub_succ (n := 64) (x := 2 ^ i) (pow_lt64 hi) j
  rw [show 2 ^ 64 - (2 ^ i + 1) = 18446744073709551615 - 2 ^ i by have := pow_pos2 i; omega] at h
  rw [h, Nat.testBit_two_pow]
  by_cases e : i = j
  · subst e; simp
  · have e2 : j ≠ i := fun h => e h.symm
    simp [hj, e, e2]
theorem pw_bit (x i j : Nat) (is : Bool) (hi : i < 64) (hj : j < 64) : (pw x i is).testBit j = if j = i then is else x.testBit j := by
  unfold pw
  cases is with
  | true =>
    rw [if_pos rfl, Nat.testBit_or, Nat.testBit_two_pow]
    by_cases e : j = i
    · subst e; simp
    · have e2 : i ≠ j := fun h => e h.symm
      simp [e, e2]
  | false =>
    rw [if_neg (by decide), Nat.testBit_and, not_bit i j hi hj]
    by_cases e : j = i
    · subst e; simp
    · simp [e]
theorem WS.put {ws : List Nat} {l : List Bool} (h : WS ws l) {k : Nat} (hk : k < l.length) (hl : l.length ≤ 4096) (is : Bool) : WS (ws.set (k / 64) (pw (wg ws (k / 64)) (k % 64) is)) (l.set k is) := by
  have hk2 : k / 64 < ws.length := by rw [h.len]; omega
  have hb : ∀ i, bg (l.set k is) i = if i = k then is else bg l i := by
    intro i
    unfold bg
    rw [List.getD_eq_getElem?_getD, List.getD_eq_getElem?_getD]
    by_cases e : i = k
    · subst e; rw [if_pos rfl, List.getElem?_set_self hk]; rfl
    · rw [if_neg e, List.getElem?_set_ne (fun h => e h.symm)]
  refine ⟨by rw [List.length_set, h.len], fun j => ?_, fun j i hj hi => ?_⟩
  · rw [wg_set _ _ _ _ hk2]; split
    · exact pw_lt (h.lt _) (by omega) is
    · exact h.lt j
  · rw [wg_set _ _ _ _ hk2, hb]
    by_cases e : j = k / 64
    · subst e
      rw [if_pos rfl, pw_bit _ _ _ _ (by omega) hi, h.bit _ _ (by omega) hi]
      by_cases e2 : i = k % 64
      · rw [if_pos e2, if_pos (by omega)]
      · rw [if_neg e2, if_neg (by omega)]
    · rw [if_neg e, if_neg (by omega), h.bit j i hj hi]
/-- is a number of it? -/
theorem WS.has {ws : List Nat} {l : List Bool} (h : WS ws l) {k : Nat} (hk : k < l.length) (hl : l.length ≤ 4096) : ((wg ws (k / 64) &&& 2 ^ (k % 64) : Nat) != 0) = bg l k := by
  have hb := h.bit (k / 64) (k % 64) (by omega) (by omega)
  rw [show 64 * (k / 64) + k % 64 = k by omega] at hb
  rw [nat_bit, ← hb, Nat.testBit_eq_decide_div_mod_eq]
  have hp := pow_pos2 (k % 64)
  have hm : wg ws (k / 64) / 2 ^ (k % 64) % 2 = 0 ∨ wg ws (k / 64) / 2 ^ (k % 64) % 2 = 1 := by omega
  rcases hm with e | e
  · rw [e]; simp
  · rw [e]; simp
/-! ### how many -/
def cntN (l : List Bool) : Nat → Nat
  | 0 => 0
  | j + 1 => cntN l j + (bg l j).toNat
theorem cntN_lst (l : List Bool) : ∀ j, cntN l j = (lstL j l).length
  | 0 => rfl
  | j + 1 => by
    rw [lst_succ, cntN, cntN_lst l j]
    cases h : bg l j <;> simp
theorem cntN_far (l : List Bool) : ∀ c, cntN l (l.length + c) = cntN l l.length
  | 0 => rfl
  | c + 1 => by rw [← Nat.add_assoc, cntN, cntN_far l c, bg_out (by omega)]; rfl
theorem cntN_all {l : List Bool} {j : Nat} (h : l.length ≤ j) : cntN l j = cntL l := by
  obtain ⟨c, rfl⟩ : ∃ c, j = l.length + c := ⟨j - l.length, by omega⟩
  rw [cntN_far, cntN_lst]; rfl
theorem WS.pop {ws : List Nat} {l : List Bool} (h : WS ws l) {j : Nat} (hj : j < 64) : ∀ n, n ≤ 64 → cntN l (64 * j + n) = cntN l (64 * j) + popN n (wg ws j)
  | 0, _ => rfl
  | n + 1, hn => by rw [← Nat.add_assoc, cntN, WS.pop h hj n (by omega), popN, h.bit j n hj (by omega), Nat.add_assoc]
theorem WS.turn {ws : List Nat} {l : List Bool} (h : WS ws l) {j : Nat} (hj : j < 64) : cntN l (64 * (j + 1)) = cntN l (64 * j) + popN 64 (wg ws j) := h.pop hj 64 (Nat.le_refl _)
theorem cntN_le (l : List Bool) (j : Nat) : cntN l j ≤ j := by rw [cntN_lst]; exact lst_le j l
/-! ### the next one -/
theorem ctz_spec {x : Nat} (h0 : x ≠ 0) (h : x < 18446744073709551616) : Lib.ctz 64 x < 64 ∧ x.testBit (Lib.ctz 64 x) = true ∧ ∀ j, j < Lib.ctz 64 x → x.testBit j = false := by
  obtain ⟨m, hm, hk⟩ := Lib.ctzFrom_spec 64 x (by omega) h
  have e : Lib.ctz 64 x = Lib.ctzFrom 64 x := by simp [Lib.ctz, h0]
  rw [e]
  generalize Lib.ctzFrom 64 x = c at *
  subst hm
  refine ⟨hk, ?_, fun j hj => ?_⟩
  · rw [Nat.mul_comm (2 ^ c), Nat.testBit_mul_two_pow]; simp
  · rw [Nat.mul_comm (2 ^ c), Nat.testBit_mul_two_pow]; simp; omega
/-- from a number on, in its word -/
def fw (ws : List Nat) (k : Nat) (is : Bool) : Nat := (if is = true then wg ws (k / 64) else 18446744073709551615 - wg ws (k / 64)) / 2 ^ (k % 64)
theorem fw_lt {ws : List Nat} {l : List Bool} (h : WS ws l) (k : Nat) (is : Bool) : fw ws k is < 18446744073709551616 := by
  unfold fw
  refine Nat.lt_of_le_of_lt (Nat.div_le_self _ _) ?_
  split
  · exact h.lt _
  · omega
theorem fw_bit {ws : List Nat} {l : List Bool} (h : WS ws l) {k : Nat} (hk : k < 4096) (is : Bool) {i : Nat} : (fw ws k is).testBit i = (decide (k % 64 + i < 64) && (bg l (k + i) == is)) := by
  unfold fw
  rw [Nat.testBit_div_two_pow, Nat.add_comm i]
  by_cases hi : k % 64 + i < 64
  · have hb := h.bit (k / 64) (k % 64 + i) (by omega) hi
    rw [show 64 * (k / 64) + (k % 64 + i) = k + i by omega] at hb
    cases is with
    | true => rw [if_pos rfl, hb]; simp [hi]
    | false =>
      rw [if_neg (by decide)]
      have h2 := Nat.testBit_two_pow_sub_succ (n := 64) (x := wg ws (k / 64)) (h.lt _) (k % 64 + i)
      rw [show 2 ^ 64 - (wg ws (k / 64) + 1) = 18446744073709551615 - wg ws (k / 64) by have := h.lt (k / 64); omega] at h2
      rw [h2, hb]; simp [hi]
  · have hx : ∀ y : Nat, y < 18446744073709551616 → y.testBit (k % 64 + i) = false := fun y hy =>
      Nat.testBit_lt_two_pow (Nat.lt_of_lt_of_le hy (Nat.le_trans (by decide : 18446744073709551616 ≤ 2 ^ 64) (Nat.pow_le_pow_right (by decide) (by omega))))
    rw [hx]
    · simp [hi]
    · split
      · exact h.lt _
      · omega
/-- none in the word: go on behind it -/
theorem WS.none {ws : List Nat} {l : List Bool} (h : WS ws l) {k : Nat} (hk : k < 4096) {is : Bool} (hz : fw ws k is = 0) : nextO l (k : Nat) is = nextO l ((k + (64 - k % 64) : Nat) : Int) is := by
  have hn : ∀ j : Nat, k ≤ j → j < k + (64 - k % 64) → bg l j ≠ is := by
    intro j h1 h2 e
    have hb := fw_bit h hk is (i := j - k)
    rw [hz, Nat.zero_testBit, show k + (j - k) = j by omega, e] at hb
    simp at hb; omega
  cases hx : nextO l ((k + (64 - k % 64) : Nat) : Int) is with
  | none =>
    have h4 := next_isn hx
    refine next_none fun j hj hf => ?_
    by_cases hj2 : j < k + (64 - k % 64)
    · exact hn j (by omega) hj2
    · exact h4 j hj (by omega)
  | some i =>
    obtain ⟨h1, h2, h3, h4⟩ := next_is hx
    refine next_some h1 (by omega) h3 fun j hj hf => ?_
    by_cases hj2 : j < k + (64 - k % 64)
    · exact hn j (by omega) hj2
    · exact h4 j hj (by omega)
/-- the first one in the word; it may be beyond the set's end -/
theorem WS.some {ws : List Nat} {l : List Bool} (h : WS ws l) {k : Nat} (hk : k < 4096) {is : Bool} (hz : fw ws k is ≠ 0) :
    k % 64 + Lib.ctz 64 (fw ws k is) < 64 ∧ nextO l (k : Nat) is = if k + Lib.ctz 64 (fw ws k is) < l.length then Option.some (k + Lib.ctz 64 (fw ws k is)) else Option.none := by
  obtain ⟨h1, h2, h3⟩ := ctz_spec hz (fw_lt h k is)
  generalize Lib.ctz 64 (fw ws k is) = c at *
  rw [fw_bit h hk is] at h2
  simp only [Bool.and_eq_true, decide_eq_true_eq, beq_iff_eq] at h2
  have hn : ∀ j : Nat, k ≤ j → j < k + c → bg l j ≠ is := by
    intro j h4 h5 e
    have hb := h3 (j - k) (by omega)
    rw [fw_bit h hk is, show k + (j - k) = j by omega, e] at hb
    simp at hb; omega
  refine ⟨h2.1, ?_⟩
  split
  · rename_i hlt
    exact next_some hlt (by omega) h2.2 fun j hj hf => hn j (by omega) hj
  · rename_i hlt
    exact next_none fun j hj hf => hn j (by omega) (by omega)
theorem ctz_zero : Lib.ctz 64 0 = 64 := rfl
/-- from a negative number on, or from 0 on -/
theorem next_neg {l : List Bool} {f : Int} (hf : f ≤ 0) (is : Bool) : nextO l f is = nextO l ((0 : Nat) : Int) is := by
  unfold nextO
  congr 1; funext i
  have h1 : decide (f ≤ (i : Int)) = true := decide_eq_true (by omega)
  have h2 : decide (((0 : Nat) : Int) ≤ (i : Int)) = true := decide_eq_true (by omega)
  rw [h1, h2]
theorem next_far {l : List Bool} {f : Int} (hf : (l.length : Int) ≤ f) (is : Bool) : nextO l f is = Option.none := next_none fun j hj h => by omega
/-! ### all that are -/
theorem lst_next {l : List Bool} {a i : Nat} (h : nextO l (a : Nat) true = Option.some i) : lstL (i + 1) l = lstL a l ++ [(i : Int)] := by
  obtain ⟨h1, h2, h3, h4⟩ := next_is h
  have gap : ∀ c, a + c ≤ i → lstL (a + c) l = lstL a l := by
    intro c
    induction c with
    | zero => intro _; rfl
    | succ c ih => intro hc; rw [← Nat.add_assoc, lst_succ, if_neg (h4 (a + c) (by omega) (by omega)), ih (by omega)]
  have := gap (i - a) (by omega)
  rw [show a + (i - a) = i by omega] at this
  rw [lst_succ, if_pos h3, this]
theorem lst_end {l : List Bool} {a : Nat} (ha : a ≤ l.length) (h : nextO l (a : Nat) true = Option.none) : lstL l.length l = lstL a l := by
  have h4 := next_isn h
  have gap : ∀ c, a + c ≤ l.length → lstL (a + c) l = lstL a l := by
    intro c
    induction c with
    | zero => intro _; rfl
    | succ c ih => intro hc; rw [← Nat.add_assoc, lst_succ, if_neg (h4 (a + c) (by omega) (by omega)), ih (by omega)]
  have := gap (l.length - a) (by omega)
  rwa [show a + (l.length - a) = l.length by omega] at this
end Go.Proofs.YtkflccecdjfkiaaDoor.Bit
