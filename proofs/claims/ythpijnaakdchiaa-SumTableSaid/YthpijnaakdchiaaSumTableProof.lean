/-
  The law SumTable holds: each place of the table is what a byte makes of the register 0, and a byte taken in behind a check makes what the table tells. Conditions: none but the row's own.
-/
import Derived.Test.YthpijnaakdchiaaRows
import Derived.Test.YthpijnaakdchiaaSumW
import Derived.Test.YthpijnaakdchiaaBytes
import Derived.WalkKit
import Derived.ProofKit
import Derived.OpenShut
import Derived.ShutString
import Derived.ChangeOld
import Derived.Below
namespace Go.Proofs.Ythpijnaakdchiaa.sumTable
open Go.ChangeShapes Go.WideShapes Go.ChangeAt Go.RowKit
open Go.ChangeMaps (open_string shut_string)
set_option linter.unusedVariables false      -- a walk need not use every 'w<i>' (that an integer argument fits its kind)

theorem own : ownKnob Try.prog.godebug = none := by kernel_rfl

open Go.Proofs.Ythpijnaakdchiaa.Sum

/-! ### STEP 1: THE WALK: the Go text returns true. 'Grown w w'': the world has at most new blocks (Derived/RowKit3.lean). Part the cases AHEAD of 'go_enter' where a test parts the walk; take each callee by a contract of your own. -/
set_option maxHeartbeats 2000000 in
set_option maxRecDepth 100000 in
theorem walk (a0 : Int) (a1 : Int) (w0 : (Lit.int .u32 a0).wf = true) (w1 : (Lit.int .u8 a1).wf = true) (w : World) :
    Calls Try.prog 4 #[.int .u32 a0, .int .u8 a1] w fun e w' => e = .returned (.bool true) ∧ Below w.heap.size w w' := by
  have hb0 := bounds_u32 w0
  have hb1 := bounds_u8 w1
  obtain ⟨c, rfl⟩ := Int.eq_ofNat_of_zero_le hb0.1
  obtain ⟨n, rfl⟩ := Int.eq_ofNat_of_zero_le hb1.1
  have hc : Reg c := by unfold Reg; have := hb0.2; omega
  have hn : n < 256 := by have := hb1.2; omega
  obtain ⟨d, rfl⟩ : ∃ d : UInt8, n = d.toNat := ⟨UInt8.ofNat n, by rw [UInt8.toNat_ofNat']; omega⟩
  have HC := Lib.hid hc
  clear w0 w1 hb0 hb1 hc hn
  go_enter Try.func4, Try.ntmps4
  go_wp2_with fail
  refine (make_any _).mono ?_
  rintro e w1 ⟨b, rfl, hbb, ht, hb1⟩
  have HT1 := Lib.hid ht
  clear hbb ht
  go_wp2_with fail
  go_loopw [10] (fun i wr => ∃ k : Nat, k ≤ 256 ∧ i = .int .i64 k ∧ IsTab wr b ∧ Below w.heap.size w wr) (fun i _ => 256 - (intOf i).toNat)
  case atStart => exact ⟨0, by omega, rfl, HT1.out, hb1⟩
  case round =>
    obtain ⟨k, hk, rfl, ht, hb⟩ := hrel
    have HT := Lib.hid ht
    have HB := Lib.hid hb
    have hs := hb.size
    clear HT1 hb1 ht hb
    by_cases hlt : k < 256
    · have hcell := HT.out k hlt
      obtain ⟨x, hx⟩ : ∃ x, x = tab k := ⟨_, rfl⟩
      have hxr : Reg x := by rw [hx]; exact stps_lt 8 k (by unfold Reg; omega)
      rw [← hx] at hcell
      have HK := Lib.hid (fun wq => take_tab k wq hlt)
      rw [← hx] at HK
      have hxw := u64_reg x hxr
      have hkw : IntKind.u8.wrap (k : Int) = k := by rw [IntKind.wrap_u8']; omega
      clear hx hxr
      go_wp2_with fail
      go_quiet ((go_at_call 13; exact Calls.quiet_of_same (HK.out _)))
      go_wp2_with fail
      go_roundw
      case rel => exact ⟨k + 1, by omega, by go_num, HT.out.drewN _, below_drewN HB.out _⟩
      case measure => simp [intOf]; omega
    · obtain rfl : k = 256 := by omega
      go_wp2_with fail
      refine (wakes_any _).mono ?_
      rintro e w3 ⟨rfl, hb3⟩
      have HT3 := Lib.hid (HT.out.below hb3 (Nat.le_refl _))
      have hb3 : Below w.heap.size w w3 := HB.out.trans (hb3.mono hs)
      have hs3 := hb3.size
      clear HT HB hs
      obtain ⟨y, hy⟩ : ∃ y, y = chk c [d] := ⟨_, rfl⟩
      have hyr : Reg y := by rw [hy]; exact chk_lt _ _
      have HY := Lib.hid (show chk c (strOf [d]).data.toList = y from hy.symm)
      have HE := Lib.hid (show full - y = stps 8 ((full - c) ^^^ d.toNat) by rw [hy]; exact chk_one c d HC.out)
      have hn1 := not_reg y hyr
      have hn2 := not_reg c HC.out
      have hw1 := u64_reg (full - y) (full_lt _)
      have hw2 := u64_reg (full - c) (full_lt _)
      have HN1 := Lib.hid hn1
      have HN2 := Lib.hid hn2
      have HW1 := Lib.hid hw1
      have HW2 := Lib.hid hw2
      have hcv := run_string_brow (w3.alloc (.cells #[.int .u8 d.toNat] 5)) w3.heap.size 1 1 [d] (BRow.one w3 d _) rfl
      have HCV := Lib.hid hcv
      have HT4 := Lib.hid (HT3.out.below ((Below.refl w3.heap.size w3).alloc (Nat.le_refl _) (.cells #[.int .u8 d.toNat] 5)) (Nat.le_refl _))
      have HB4 := Lib.hid (hb3.alloc hs3 (.cells #[.int .u8 d.toNat] 5))
      clear hy hyr hn1 hn2 hw1 hw2 HT3 hb3 hs3
      go_wp2_with fail
      clear hcv
      refine (on1_any b c (strOf [d]) _ HT4.out HC.out (by rw [strOf_size]; simp)).mono ?_
      rintro e w5 ⟨rfl, ht5, hb5⟩
      rw [HY.out]
      have HB5 := Lib.hid (HB4.out.trans (hb5.mono HB4.out.size))
      clear HT4 HB4 ht5 hb5
      have hn1 := HN1.out
      have hn2 := HN2.out
      have hw1 := HW1.out
      have hw2 := HW2.out
      go_wp2_with fail
      clear hn1 hn2 hw1 hw2
      refine (take_any (full - c) d.toNat _ (full_lt _) (u8_lt d)).mono ?_
      rintro e w' ⟨rfl, rfl⟩
      rw [← HE.out]
      go_wp2_with fail
      go_ret
      exact ⟨rfl, HB5.out⟩

/-! ### THE ROW's STEP: WRITTEN OUT: LEAVE IT -/
set_option maxRecDepth 100000 in
theorem lifted (os : Os) (started : os.Started) (H : Type) (enc : TypeId × Value → H) :
    ReturnsInHanded {} Try.checked os 4 .any (Rows.sumTableSpec.pre6 enc Try.prog Try.f4 Rows.sumTableRow.domain false) (Rows.sumTableSpec.post enc Try.prog Try.f4 false true false false) := by
  refine returnsInHanded_of_change (C := Try.checked) own started (by kernel_rfl) Try.func4
    (ChangeSpec.witness6 (enc := enc) (C := Try.checked) false ⟨#[], #[.int .u32 0, .int .u8 0], []⟩ 8 (by kernel_rfl) (by kernel_rfl) (by kernel_rfl) (by kernel_rfl)) ?_
  intro W base args ds gs before hval0 hW hcnd _
  have hval : ∀ (j : Nat) t v, Try.f4.params[j]? = some t → args[j]? = some v → Value.okWide Try.prog W .any base t v := hval0
  have hW' := hW
  obtain ⟨p, q, hA0, hV, rfl, hfz, hnd⟩ := hW
  have hA : DataW.TrodAll enc Try.prog W 0 (fun _ => true) true Try.f4.params.toList args.toList ds p := hA0
  rw [Try.params4] at hA hval
  obtain ⟨v0, vs0, d0, ds0, p0, q0, hargs, rfl, rfl, h0, r0⟩ := trodAll_cons hA
  obtain ⟨v1, vs1, d1, ds1, p1, q1, rfl, rfl, rfl, h1, r1⟩ := trodAll_cons r0
  obtain ⟨rfl, rfl, rfl⟩ := trodAll_nil r1
  obtain rfl : args = #[v0, v1] := by cases args; simp_all
  obtain ⟨rfl, rfl⟩ := trodVars_none hV
  obtain ⟨a0, rfl, rfl, rfl, w0⟩ := open_int Try.underlying26 (hval 0 26 v0 rfl rfl) h0
  obtain ⟨a1, rfl, rfl, rfl, w1⟩ := open_int Try.underlying5 (hval 1 5 v1 rfl rfl) h1
  clear hA0 hval0
  refine (walk a0 a1 w0 w1 W).mono fun e W' ⟨he, hg⟩ => ?_
  subst he
  exact ⟨_, rfl, _, _, _, [], _, [], hW', trodAll_mk1 (shut_bool Try.underlying4 _), (trodAll_cons_mk (shut_int Try.underlying26 w0) (trodAll_cons_mk (shut_int Try.underlying5 w1) trodAll_mk0)), rfl, hg.frame _, fun h => by cases h⟩

theorem over : Rows.sumTableRow.holds Try.pinned (OpenSpec.ofChange Rows.sumTableSpec) :=
  OpenClaim.holds_of_wide 4 Try.f4 rfl rfl rfl rfl rfl rfl rfl ⟨rfl, rfl, rfl, rfl, rfl⟩ rfl rfl rfl rfl rfl (by kernel_rfl) Try.func4 (by kernel_rfl)
    (of_decide_eq_true (by kernel_rfl)) (by unfold Func.isWrapper; first | (rw [if_pos (by decide +kernel)]; kernel_rfl) | (rw [if_neg (by decide +kernel)]; exact ⟨rfl, rfl⟩))
    (fun os started H enc _ => lifted os started H enc)

/-- ████ THE STATEMENT ████ -/
theorem proved : Rows.SumTableSaid :=
  over
#print axioms proved
end Go.Proofs.Ythpijnaakdchiaa.sumTable
