/- Layer 14 (msg): the document's own answers: On, Join. -/
import Derived.Test.YtiljcfmplbmooaaMsgE
namespace Go.Proofs.Ytiljcfmplbmooaa.Msg
open Go Go.RowKit Go.Proofs.Ytiljcfmplbmooaa Go.Proofs.Ytiljcfmplbmooaa.Lend Go.Proofs.Ytiljcfmplbmooaa.Rec
set_option linter.unusedVariables false

theorem put8 {n : Int} (h0 : 0 ≤ n) (h1 : n < 18446744073709551616) (w : World) : Calls Try.prog 35 #[.int .u64 n, .int .i64 8] w fun e w' => e = .returned (.tuple #[.string (Lend.strOf (encN n 8)), .bool true]) ∧ Below w.heap.size w w' := by
  have h := put_ok (n := n) (x := 8) (by decide) (by decide)
  have hr := refput_any n 8 w h0 h1
  rw [h.1, h.2, fitsB_8 n h1] at hr
  exact hr
theorem get8 (l : List UInt8) (w : World) (hs : l.length = 8) : Calls Try.prog 43 #[.string (Lend.strOf l)] w fun e w' => e = .returned (.int .u64 (numN l)) ∧ w = w' := by
  have hr := refget_any (Lend.strOf l) w (by rw [ssize]; omega)
  rw [Lend.strOf_data] at hr
  unfold numN
  rw [if_pos hs]
  exact hr
end Go.Proofs.Ytiljcfmplbmooaa.Msg
