/- Contracts of the document's own answers for layer 9: May, Put, Next. -/
import Derived.Test.YtkflccecdjfkiaaDoorBitMath
import Derived.Test.YtkflccecdjfkiaaDoorChecked
import Derived.WalkLawsBesides
import Derived.WalkSpells
import Derived.Lib.Hide
import Derived.Outline
import Derived.Deep.DeepCutAuto
import Derived.Deep.RegionWith
import Derived.OpenShut
import Derived.Deep.QuietTactic
import Derived.BigQuiet
namespace Go.Proofs.YtkflccecdjfkiaaDoor.Bit
open Go.RowKit Go.Proofs.YtkflccecdjfkiaaDoor
set_option linter.unusedVariables false

theorem ret_bool {a b : Bool} (h : a = b) : Ending.returned (.bool a) = .returned (.bool b) := by rw [h]
theorem ret_ib {a c : Int} {b d : Bool} (h : a = c) (k : b = d) : Ending.returned (.tuple #[.int .i64 a, .bool b]) = .returned (.tuple #[.int .i64 c, .bool d]) := by rw [h, k]
theorem info_bool9 : (Tryd.prog.info? 4).map (fun i => (i.zero, i.size, i.bytes)) = some (some (.bool false), 1, 1) := by kernel_rfl
theorem bV_snoc (l : List Bool) (x : Bool) : bV (l ++ [x]) = bV l ++ [.bool x] := by simp [bV]
end Go.Proofs.YtkflccecdjfkiaaDoor.Bit
