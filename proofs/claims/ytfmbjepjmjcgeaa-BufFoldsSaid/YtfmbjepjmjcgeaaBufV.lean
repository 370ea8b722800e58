/- Layer 15 (buf): the law's own same. -/
import Derived.Test.YtfmbjepjmjcgeaaBufE
import Derived.Test.YtfmbjepjmjcgeaaBufR
namespace Go.Proofs.Ytfmbjepjmjcgeaa.Buf
open Go Go.RowKit Go.Proofs.Ytfmbjepjmjcgeaa Go.Proofs.Ytfmbjepjmjcgeaa.Lend Go.Proofs.Ytfmbjepjmjcgeaa.Rec Go.Proofs.Ytfmbjepjmjcgeaa.Msg
set_option linter.unusedVariables false

theorem getO_self {l : List Up} (hs : Srt l) (k : Nat) (hk : k < l.length) : getO l l[k].key = some l[k] := (getO_iff hs _ _).2 ⟨List.getElem_mem hk, rfl⟩
end Go.Proofs.Ytfmbjepjmjcgeaa.Buf
