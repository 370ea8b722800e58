/- Contracts for layer 2's laws: wakes. -/
import Derived.Test.YtomhalcoomdadaaSumR
namespace Go.Proofs.Ytomhalcoomdadaa.Sum
open Go.RowKit Go.Proofs.Ytomhalcoomdadaa
set_option linter.unusedVariables false

theorem wake1 : chk 0 (cat [⟨#[49, 50, 51, 52]⟩, ⟨#[53, 54, 55, 56, 57]⟩]) = 3808858755 := by decide +kernel

end Go.Proofs.Ytomhalcoomdadaa.Sum
