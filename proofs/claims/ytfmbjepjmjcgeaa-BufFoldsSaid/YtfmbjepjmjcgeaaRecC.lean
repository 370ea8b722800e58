/- Layer 12 (rec): Text. -/
import Derived.Lib.AppendStr
import Derived.Test.YtfmbjepjmjcgeaaRecB
namespace Go.Proofs.Ytfmbjepjmjcgeaa.Rec
open Go Go.RowKit Go.Proofs.Ytfmbjepjmjcgeaa Go.Proofs.Ytfmbjepjmjcgeaa.Lend
set_option linter.unusedVariables false

theorem info8 : (Try.prog.info? 5).map (fun i => (i.zero, i.size, i.bytes)) = some (some (.int .u8 0), 1, 1) := by kernel_rfl
theorem strCells_strOf (l : List UInt8) : Lib.strCells (Lend.strOf l) = l.map Lend.u8V := rfl
theorem ret_te {a b : ByteArray} {c d : Int} (h : a = b) (h' : c = d) : Ending.returned (.tuple #[.string a, .int .i64 c]) = .returned (.tuple #[.string b, .int .i64 d]) := by rw [h, h']
end Go.Proofs.Ytfmbjepjmjcgeaa.Rec
