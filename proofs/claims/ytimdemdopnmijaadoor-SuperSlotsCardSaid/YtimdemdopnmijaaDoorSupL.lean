/- Layer 5's laws: of, tame. -/
import Derived.Test.YtimdemdopnmijaaDoorRefSupO
namespace Go.Proofs.YtimdemdopnmijaaDoor.Sup
open Go.RowKit Go.Proofs.YtimdemdopnmijaaDoor Go.Proofs.YtimdemdopnmijaaDoor.Lend Go.Proofs.YtimdemdopnmijaaDoor.Env
set_option linter.unusedVariables false

set_option maxRecDepth 100000 in
theorem of_any (g a rg c h s ch : Int) (w : World) :
    Calls Tryd.prog 9 #[.agg #[.int .u64 g, .int .i64 a, .int .u64 rg, .int .u32 c, .int .i64 h, .int .u64 s, .int .u32 ch]] w fun e w' => e = .returned (.agg #[.int .u64 g, .int .i64 a, .int .u64 rg, .int .u32 c, .int .i64 h, .int .u64 s, .int .u32 ch]) ∧ Below w.heap.size w w' := by
  go_enter Tryd.func9, Tryd.ntmps9
  go_wp2
  refine bodyPost_ret (v := .agg #[.int .u64 g, .int .i64 a, .int .u64 rg, .int .u32 c, .int .i64 h, .int .u64 s, .int .u32 ch]) (by simp [results, Tryd.results9, go_sem]) rfl ⟨rfl, ?_⟩
  repeat (first | exact Below.refl _ _ | apply below_nw | apply below_dr | refine below_st ?_ (Nat.le_succ _) _)
def tamG (g : Int) : Int := max 1 g
def tamA (a : Int) : Int := max 0 a % 2147483648
def tamR (rg g : Int) : Int := min rg (tamG g)
def tamH (h : Int) : Int := 1 + max 0 h % 32
set_option maxRecDepth 100000 in
theorem tame_any (g a rg c h s ch : Int) (w : World) (hg : 0 ≤ g) :
    Calls Tryd.prog 8 #[.agg #[.int .u64 g, .int .i64 a, .int .u64 rg, .int .u32 c, .int .i64 h, .int .u64 s, .int .u32 ch]] w fun e w' => e = .returned (.agg #[.int .u64 (tamG g), .int .i64 (tamA a), .int .u64 (tamR rg g), .int .u32 c, .int .i64 (tamH h), .int .u64 s, .int .u32 ch]) ∧ Below w.heap.size w w' := by
  go_enter Tryd.func8, Tryd.ntmps8
  go_wp2
  refine bodyPost_ret (v := .agg #[.int .u64 (tamG g), .int .i64 (tamA a), .int .u64 (tamR rg g), .int .u32 c, .int .i64 (tamH h), .int .u64 s, .int .u32 ch]) (by simp [results, Tryd.results8, go_sem, tamG, tamA, tamR, tamH]) rfl ⟨rfl, ?_⟩
  repeat (first | exact Below.refl _ _ | apply below_nw | apply below_dr | refine below_st ?_ (Nat.le_succ _) _ | refine below_st ?_ (Nat.le_refl _) _)
theorem tam_sup (g a rg h : Int) (hr : 0 ≤ rg) : supB (tamG g) (tamA a) (tamR rg g) (tamH h) = true := by
  refine supB_of ?_ ?_ ?_ ?_ ?_ ?_ <;> simp only [tamG, tamA, tamR, tamH] <;> omega
theorem tamR_bd {rg g : Int} (h0 : 0 ≤ rg) (h1 : rg < 18446744073709551616) : 0 ≤ tamR rg g ∧ tamR rg g < 18446744073709551616 := by simp only [tamR, tamG]; omega
theorem tamG_bd {g : Int} (h0 : 0 ≤ g) (h1 : g < 18446744073709551616) : 0 ≤ tamG g ∧ tamG g < 18446744073709551616 := by simp only [tamG]; omega
end Go.Proofs.YtimdemdopnmijaaDoor.Sup
