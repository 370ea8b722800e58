/- Contracts of the document's own answers for layer 1: Put, Get, Write, Read. -/
import Derived.Test.YtfmbjepjmjcgeaaLendR
import Derived.Test.YtfmbjepjmjcgeaaLendK
import Derived.Test.YtfmbjepjmjcgeaaLendBackMath
namespace Go.Proofs.Ytfmbjepjmjcgeaa.Lend
open Go.RowKit Go.Proofs.Ytfmbjepjmjcgeaa
set_option linter.unusedVariables false

/-- a number's bytes in a width that may be none, and whether it fits -/
def putB (n x : Int) : Bool := decide (1 ≤ x) && (decide (x ≤ 8) && fitsB n x)
def putS (n x : Int) : ByteArray := if 1 ≤ x ∧ x ≤ 8 then strOf (encN n x.toNat) else ⟨#[]⟩
theorem put_ok {n x : Int} (h1 : 1 ≤ x) (h8 : x ≤ 8) : putB n x = fitsB n x ∧ putS n x = strOf (encN n x.toNat) := by
  refine ⟨by simp [putB, h1, h8], by rw [putS, if_pos ⟨h1, h8⟩]⟩
theorem put_no {n x : Int} (h : ¬ (1 ≤ x ∧ x ≤ 8)) : putB n x = false ∧ putS n x = ⟨#[]⟩ := by
  refine ⟨?_, by rw [putS, if_neg h]⟩
  by_cases h1 : 1 ≤ x
  · have : ¬ x ≤ 8 := fun h8 => h ⟨h1, h8⟩
    simp [putB, this]
  · simp [putB, h1]
theorem encN_succ (n : Int) (k : Nat) : strOf (encN n (k + 1)) = strOf (encN n k) ++ strOf [UInt8.ofNat (n / 2 ^ (8 * k) % 256).toNat] := by
  have e : encN n (k + 1) = encN n k ++ [UInt8.ofNat (byteAt n k).toNat] := by simp [encN, List.range_succ]
  symm
  apply strOf_ext
  rw [e]
  simp [strOf, byteAt]
set_option maxHeartbeats 1000000 in
set_option maxRecDepth 100000 in
theorem refput_any (n x : Int) (w : World) (h0 : 0 ≤ n) (h1 : n < 18446744073709551616) :
    Calls Try.prog 52 #[.int .u64 n, .int .i64 x] w fun e w' => e = .returned (.tuple #[.string (putS n x), .bool (putB n x)]) ∧ Below w.heap.size w w' := by
  by_cases hx : 1 ≤ x ∧ x ≤ 8
  · obtain ⟨hx1, hx8⟩ := hx
    have hy := put_ok (n := n) hx1 hx8
    have HY := Lib.hid hy
    have H1 := Lib.hid h1
    obtain ⟨xn, rfl⟩ := Int.eq_ofNat_of_zero_le (show 0 ≤ x by omega)
    clear hy h1
    go_enter Try.func52, Try.ntmps52
    go_wp2
    go_loopw [0, 6, 7] (fun m s i wr => ∃ k : Nat, k ≤ xn ∧ i = .int .i64 k ∧ s = .string (strOf (encN n k)) ∧ m = .int .u64 (n / 2 ^ (8 * k)) ∧ Below w.heap.size w wr) (fun _ _ i _ => xn - (intOf i).toNat)
    case atStart => exact ⟨0, Nat.zero_le _, rfl, rfl, by simp, Below.refl _ _⟩
    case round =>
      obtain ⟨k, hk, rfl, rfl, rfl, hb⟩ := hrel
      have hsz := hb.size
      have hq0 : 0 ≤ n / 2 ^ (8 * k) := Int.ediv_nonneg h0 (Int.pow_nonneg (by decide))
      by_cases hlt : k < xn
      · have hq1 : n / 2 ^ (8 * k) < 18446744073709551616 := Int.lt_of_le_of_lt (Int.ediv_le_self _ h0) H1.out
        have hcv := run_string_one wr (n / 2 ^ (8 * k) % 256)
        have hs1 : (strOf (encN n k)).size ≤ 8 := by show (encN n k).length ≤ 8; rw [encN_length]; omega
        have hs2 : (strOf [UInt8.ofNat (n / 2 ^ (8 * k) % 256).toNat]).size ≤ 1 := Nat.le_refl _
        have HS := Lib.hid (encN_succ n k)
        have HSH := Lib.hid (shift_on n k)
        go_wp2
        go_roundw
        case rel => exact ⟨k + 1, by omega, by go_num, by rw [HS.out], by rw [← HSH.out], hb.alloc hsz _⟩
        case measure => simp [intOf]; omega
      · obtain rfl : k = xn := by omega
        have hfit := fitsB_walk n (k : Int) h0
        rw [show (8 * (k : Int)).toNat = 8 * k by omega] at hfit
        have HF := Lib.hid hfit
        clear hfit
        go_wp2
        go_ret2
        exact ⟨ret_wr (by rw [HY.out.2]; simp) (by rw [HY.out.1, ← HF.out]), hb⟩
  · have hn := put_no (n := n) hx
    have HN := Lib.hid hn
    by_cases hx1 : x < 1
    · clear hx hn
      go_enter Try.func52, Try.ntmps52
      go_wp2
      go_ret2
      exact ⟨ret_wr HN.out.2.symm HN.out.1.symm, Below.refl _ _⟩
    · have hx8 : 8 < x := by omega
      have hx1' : 1 ≤ x := by omega
      clear hx hn hx1
      go_enter Try.func52, Try.ntmps52
      go_wp2
      go_ret2
      exact ⟨ret_wr HN.out.2.symm HN.out.1.symm, Below.refl _ _⟩

theorem getL_drop (s : ByteArray) (k : Nat) (h : k < s.size) : getL (s.data.toList.drop k) = s[k].toNat + 256 * getL (s.data.toList.drop (k + 1)) := by
  have e : s.data.toList.drop k = s[k] :: s.data.toList.drop (k + 1) := by
    rw [List.drop_eq_getElem_cons (by rw [bytes_length]; exact h)]; rfl
  rw [e]; rfl
set_option maxHeartbeats 1000000 in
set_option maxRecDepth 100000 in
theorem refget_any (s : ByteArray) (w : World) (hs : s.size ≤ 8) :
    Calls Try.prog 51 #[.string s] w fun e w' => e = .returned (.int .u64 (getL s.data.toList : Nat)) ∧ w = w' := by
  go_enter Try.func51, Try.ntmps51
  go_wp2
  go_loop [3, 4] (fun t i => ∃ k : Nat, k ≤ s.size ∧ i = .int .i64 ((k : Int) - 1) ∧ t = .int .u64 (getL (s.data.toList.drop k) : Nat)) (fun _ i => (intOf i + 1).toNat)
  case atStart => exact ⟨s.size, Nat.le_refl _, rfl, by rw [List.drop_of_length_le (by rw [bytes_length]; omega)]; rfl⟩
  case round =>
    obtain ⟨k, hk, rfl, rfl⟩ := hrel
    cases k with
    | zero =>
      go_wp2
      go_ret
      exact ⟨rfl, rfl⟩
    | succ k =>
      have hks : k < s.size := hk
      have hb := getL_bd (s.data.toList.drop (k + 1))
      have hl : (s.data.toList.drop (k + 1)).length ≤ 7 := by rw [List.length_drop, bytes_length]; omega
      have hb2 : getL (s.data.toList.drop (k + 1)) < 2 ^ 56 := Nat.lt_of_lt_of_le hb (Nat.pow_le_pow_right (by decide) (by omega))
      have hb3 : (getL (s.data.toList.drop (k + 1)) : Int) < 72057594037927936 := by omega
      have hc0 : (s[k].toNat : Int) ≤ 255 := by have := s[k].toNat_lt; omega
      have HG := Lib.hid (getL_drop s k hks)
      have hki : ((k + 1 : Nat) : Int) - 1 = (k : Int) := by omega
      rw [hki]
      clear hb hl hb2 hki
      go_wp2
      go_round
      case rel => exact ⟨k, by omega, rfl, by rw [HG.out]; go_num⟩
      case measure => simp [intOf]

end Go.Proofs.Ytfmbjepjmjcgeaa.Lend
