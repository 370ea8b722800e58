/- 'string' of one byte that was just laid. -/
import Derived.Test.YtfclecbhfamomaaLendW
namespace Go.Proofs.Ytfclecbhfamomaa.Lend
open Go.RowKit Go.Proofs.Ytfclecbhfamomaa
set_option linter.unusedVariables false

theorem run_string_one (w : World) (c : Int) :
    (convert 54 9 (.slice (some ⟨w.heap.size, 0, none⟩) 1 1)).run Try.prog (w.alloc (.cells #[.int .u8 c] 5)) = .ok (.string (strOf [UInt8.ofNat c.toNat])) (w.alloc (.cells #[.int .u8 c] 5)) := by
  rw [run_convert_bytes_string _ _ _ _ _ _ _ Try.underlying54 Try.underlying5 Try.underlying9]
  have hc := run_loadCells_list (P := Try.prog) (w := w.alloc (.cells #[.int .u8 c] 5)) ⟨w.heap.size, 0, none⟩ [.int .u8 c] (by
    intro j u hj
    match j, hj with
    | 0, hj => simp at hj; subst hj; simp [Addr.add])
  rw [run_bytesToString _ _ _ _ [c] (by simpa using hc), foldl_push]
  rfl

end Go.Proofs.Ytfclecbhfamomaa.Lend
