/- Contracts of layer 3 (dev): Stick and Garble of a nil device; the reference's Right. -/
import Derived.Test.YtcaibndlchkecaaDevA
namespace Go.Proofs.Ytcaibndlchkecaa.Dev
open Go.RowKit Go.Proofs.Ytcaibndlchkecaa
set_option linter.unusedVariables false
theorem stick_nil (i : Int) (w : World) :
    Calls Try.prog 17 #[.pointer none, .int .i64 i] w fun e w' => e = .returned (.tuple #[]) ∧ Below w.heap.size w w' := by
  go_enter Try.func17, Try.ntmps17
  go_wp2_with fail
  refine (has_nil i _).mono ?_
  rintro e w' ⟨rfl, rfl⟩
  go_wp2
  refine bodyPost_ret (results_none rfl _ _ _) rfl ?_
  exact ⟨rfl, (Below.refl _ _).alloc (Nat.le_refl _) _⟩
theorem garble_nil (i at_ by_ : Int) (w : World) :
    Calls Try.prog 19 #[.pointer none, .int .i64 i, .int .i64 at_, .int .u8 by_] w fun e w' => e = .returned (.tuple #[]) ∧ w = w' := by
  go_enter Try.func19, Try.ntmps19
  go_wp2_with fail
  refine (has_nil i _).mono ?_
  rintro e w' ⟨rfl, rfl⟩
  go_wp2
  refine bodyPost_ret (results_none rfl _ _ _) rfl ?_
  exact ⟨rfl, rfl⟩
theorem refRight_any (n s : Int) (w : World) :
    Calls Try.prog 30 #[.int .i64 n, .int .i64 s] w fun e w' => e = .returned (.bool (shapeR n s)) ∧ w = w' := by
  have HK := Lib.hid (show shapeR n s = decide (8 ≤ n ∧ n ≤ 4096 ∧ 128 ≤ s ∧ s ≤ 1024 ∧ s % 64 = 0) from rfl)
  go_enter Try.func30, Try.ntmps30
  go_wp2
  all_goals
    go_ret
    refine ⟨ret_b ?_, rfl⟩
    rw [HK.out]
    rw [Bool.eq_iff_iff]
    simp
    try omega
end Go.Proofs.Ytcaibndlchkecaa.Dev
