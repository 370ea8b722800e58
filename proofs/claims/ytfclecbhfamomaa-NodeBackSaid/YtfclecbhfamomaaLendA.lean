/- Contracts of layer 1 (lend): measure, Size, fits, appendNumber. -/
import Derived.Test.YtfclecbhfamomaaChecked
import Derived.WalkKit
import Derived.WalkLawsBesides
import Derived.WalkSpells
import Derived.Lib.Hide
import Derived.Outline
import Derived.Deep.DeepCutAuto
import Derived.Deep.RegionWith
import Derived.OpenShut
import Derived.Deep.QuietTactic
import Derived.BigQuiet
import Derived.Test.YtfclecbhfamomaaLendMath
import Derived.Test.YtfclecbhfamomaaBase
namespace Go.Proofs.Ytfclecbhfamomaa.Lend
open Go.RowKit Go.Proofs.Ytfclecbhfamomaa
set_option linter.unusedVariables false


theorem row_len {kd : IntKind} {w : World} {ao : Option Addr} {len : Nat} {xs : List Int} (h : Row kd w ao len xs) : xs.length = len := h.len_eq
theorem ret_meas {a b : Int} {c d : Bool} (h : a = b) (h' : c = d) : Ending.returned (.tuple #[.int .i64 a, .bool c]) = .returned (.tuple #[.int .i64 b, .bool d]) := by rw [h, h']

set_option maxHeartbeats 400000 in
theorem measure_any (ao : Option Addr) (len cap : Nat) (ws : List Int) (w : World) (hr : Row .i64 w ao len ws) (hl : len ≤ 1000000) :
    Calls Try.prog 43 #[.slice ao len cap] w fun e w' => e = .returned (.tuple #[.int .i64 (measN ws), .bool (okW ws)]) ∧ w = w' := by
  obtain ⟨hlen, hat⟩ := hr
  have HL := Lib.hid hlen
  clear hlen
  have HAT := Lib.hid hat
  clear hat
  go_enter Try.func43, Try.ntmps43
  go_wp2
  go_loop [4, 9] (fun t i => ∃ k : Nat, k ≤ len ∧ i = .int .i64 k ∧ t = .int .i64 (sumW (ws.take k)) ∧ okW (ws.take k) = true) (fun _ i => len - (intOf i).toNat)
  case atStart => exact ⟨0, Nat.zero_le _, rfl, rfl, rfl⟩
  case round =>
    obtain ⟨k, hk, rfl, rfl, hok⟩ := hrel
    have hbd := sumW_bd _ hok
    have hlk : (ws.take k).length ≤ k := List.length_take_le _ _
    have HOK := Lib.hid hok
    clear hok
    by_cases hlt : k < len
    · obtain ⟨b, off, rfl, hc⟩ := HAT.out (by omega)
      have hck := hc k hlt
      clear hc
      obtain ⟨x, hx⟩ : ∃ x, x = ws.getD k 0 := ⟨_, rfl⟩
      rw [← hx] at hck
      have HX := Lib.hid hx
      clear hx
      by_cases h1 : 1 ≤ x
      · by_cases h8 : x ≤ 8
        · go_wp2
          go_round
          case rel =>
            have e := take_snoc' ws k (by have := HL.out; omega)
            rw [← HX.out] at e
            exact ⟨k + 1, by omega, by go_num, by rw [e, sumW_snoc], by rw [e, okW_snoc, HOK.out]; simp; omega⟩
          case measure => simp [intOf]; omega
        · have hno := okW_getD (ws := ws) (k := k) (by have := HL.out; omega) (by rw [← HX.out]; omega)
          have HN := Lib.hid hno
          clear hno
          go_wp2
          go_ret2
          exact ⟨ret_meas (measN_no HN.out).symm HN.out.symm, rfl⟩
      · have hno := okW_getD (ws := ws) (k := k) (by have := HL.out; omega) (by rw [← HX.out]; omega)
        have HN := Lib.hid hno
        clear hno
        go_wp2
        go_ret2
        exact ⟨ret_meas (measN_no HN.out).symm HN.out.symm, rfl⟩
    · have e : ws.take k = ws := List.take_of_length_le (by have := HL.out; omega)
      have HE := Lib.hid e
      clear e
      go_wp2
      go_ret2
      have hw : okW ws = true := by have := HOK.out; rwa [HE.out] at this
      exact ⟨ret_meas (by rw [HE.out, measN_yes hw]) hw.symm, rfl⟩
theorem ret_bool {a b : Bool} (h : a = b) : Ending.returned (.bool a) = .returned (.bool b) := by rw [h]
theorem fits_any (n : Int) (x : Int) (w : World) (h0 : 0 ≤ n) (_h1 : n < 18446744073709551616) (hx1 : 1 ≤ x) (hx8 : x ≤ 8) :
    Calls Try.prog 44 #[.int .u64 n, .int .i64 x] w fun e w' => e = .returned (.bool (fitsB n x)) ∧ w = w' := by
  go_enter Try.func44, Try.ntmps44
  go_wp2
  go_ret
  exact ⟨ret_bool (fitsB_walk n x h0), rfl⟩

theorem info_u8 : (Try.prog.info? 5).map (fun i => (i.zero, i.size, i.bytes)) = some (some (.int .u8 0), 1, 1) := by kernel_rfl

set_option maxHeartbeats 400000 in
theorem appendNumber_any (B : Nat) (v : Value) (m : Nat) (xs : List Value) (n : Int) (x : Int) (w : World) (hown : w.ownsRow B 5 1 v m xs) (hB : B ≤ w.heap.size) (hm : m ≤ 1000000)
    (h0 : 0 ≤ n) (h1 : n < 18446744073709551616) (hx1 : 1 ≤ x) (hx8 : x ≤ 8) :
    Calls Try.prog 45 #[v, .int .u64 n, .int .i64 x] w fun e w' => ∃ v', e = .returned v' ∧ w'.ownsRow B 5 1 v' (m + x.toNat) (xs ++ byteVals n x.toNat) ∧ Below B w w' := by
  obtain ⟨i0, hi, hz0, hz1, hz2⟩ := info_parts info_u8
  obtain ⟨kx, rfl⟩ := Int.eq_ofNat_of_zero_le (show 0 ≤ x by omega)
  go_enter Try.func45, Try.ntmps45
  go_wp2
  go_loopw [0, 9] (fun s i wr => ∃ k : Nat, k ≤ kx ∧ i = .int .i64 k ∧ wr.ownsRow B 5 1 s (m + k) (xs ++ byteVals n k) ∧ Below B w wr) (fun _ i _ => kx - (intOf i).toNat)
  case atStart => exact ⟨0, Nat.zero_le _, rfl, by simpa [byteVals] using hown, Below.refl _ _⟩
  case round =>
    obtain ⟨k, hk, rfl, hownr, hbel⟩ := hrel
    have hsz := hbel.size
    by_cases hlt : k < kx
    · go_wp2_with (at_builtin; refine wpList_append_own _ rfl _ _ 54 rfl B 5 i0 (.int .u8 0) 1 1 Try.underlying54 hi hz0 hz1 hz2 rfl (by decide) _ _ _ rfl (hownr.alloc _) ⟨wr.heap.size, 0, none⟩ 1 1 [.int .u8 (byteAt n k)] rfl rfl ?c1 ?c2 ?c3 ?c4 ?c5 ?_)
      case c1 =>
        intro j u hj
        match j, hj with
        | 0, hj => simp at hj; subst hj; simp [Addr.add, byteAt]
      case c2 => intro u hu; simp at hu; subst hu; rfl
      case c3 => unfold maxLen; omega
      case c4 => omega
      case c5 => simp; omega
      intro v' w1 hown' hgrow _
      have hbel' : Below B w w1 := (hbel.alloc (by omega) _).grown hgrow (by simp; omega) (fun q hq => (hownr.lt q hq).1)
      clear hownr hgrow hown
      go_wp2
      go_roundw
      case rel => exact ⟨k + 1, by omega, by go_num, by rw [byteVals_succ, ← Nat.add_assoc]; exact hown', hbel'⟩
      case measure => simp [intOf]; omega
    · obtain rfl : k = kx := by omega
      go_wp2
      go_ret
      exact ⟨_, rfl, hownr, hbel⟩
end Go.Proofs.Ytfclecbhfamomaa.Lend
