/- Layer 14 (msg): On, All. -/
import Derived.Test.YtfclecbhfamomaaMsgA
namespace Go.Proofs.Ytfclecbhfamomaa.Msg
open Go Go.RowKit Go.Proofs.Ytfclecbhfamomaa Go.Proofs.Ytfclecbhfamomaa.Lend Go.Proofs.Ytfclecbhfamomaa.Rec
set_option linter.unusedVariables false

/-- an update as a value -/
def agU (u : Up) : Value := .agg #[.int .u8 u.kind, .string (Lend.strOf u.key), .string (Lend.strOf u.val), .int .u64 u.delta]
/-- a value, and whether it is there, as an answer -/
def rtS (s : Sv) : Ending := .returned (.tuple #[.string (Lend.strOf s.1), .bool s.2])
theorem rtS_of {s : Sv} {a : ByteArray} {b : Bool} (h : Lend.strOf s.1 = a) (h' : s.2 = b) : Ending.returned (.tuple #[.string a, .bool b]) = rtS s := by rw [← h, ← h']; rfl
theorem u64_add (a b : Int) : IntKind.u64.wrap (a + b) = addN a b := by rw [wrap_u64]; rfl
end Go.Proofs.Ytfclecbhfamomaa.Msg
