/-
  DERIVED. GIVEN WITH THE SEED: THE CARDS: each row of YtflanjcfkdjpjaaGreatDoorRows.lean that lists a variable, with what it lists TIED to the program's text (the seventh form; the later family's looks); each row that meets fmt, with fmt's text TOLD by the authors' own Lean function (tested against real Go, not proved from fmt's source: count such statements apart). THE CARD IS WHAT COUNTS. Prove the row's statement (the work); the ties are given (YtflanjcfkdjpjaaGreatDoorTie.lean); close each card by the builder's one call (the guide's Derived/Test/ToyasCard.lean, 'card_holds'). Laid BY PROGRAM, IN A SANDBOX (cutbox-door.mjs). By AI agents, Wed Nov 11 2026. No macro, syntax, notation, axiom, sorry.
-/
import Derived.Test.YtflanjcfkdjpjaaGreatDoorRows
import GoSem.ClaimSeven
namespace Go.Proofs.YtflanjcfkdjpjaaGreatDoor
namespace Rows

/-- THE TIED CARD OF 'treenaillaw13.WalPlays'. -/
def walPlaysCard : Claim7 := { stood := { row := walPlaysRow, standIns := [], harness := (true, "41e1d4bc00c052041885ba27916a78aef30fff938bdfdb738f49d55c8684b0de"), looks := false }, kinds := [], alts := [], laidByText := true, laidKinds := [.data, .pinned], laidTests := true, laidLooks := .later }
def WalPlaysCardSaid : Prop := Claim7.holds Tryz.pinned (.plain (OpenSpec.ofChange walPlaysSpec)) walPlaysCard

/-- THE TIED CARD OF 'treenaillaw13.WalHeals'. -/
def walHealsCard : Claim7 := { stood := { row := walHealsRow, standIns := [], harness := (true, "41e1d4bc00c052041885ba27916a78aef30fff938bdfdb738f49d55c8684b0de"), looks := false }, kinds := [], alts := [], laidByText := true, laidKinds := [.data, .pinned], laidTests := true, laidLooks := .later }
def WalHealsCardSaid : Prop := Claim7.holds Tryz.pinned (.plain (OpenSpec.ofChange walHealsSpec)) walHealsCard

/-- THE TIED CARD OF 'treenaillaw13.WalRefuses'. -/
def walRefusesCard : Claim7 := { stood := { row := walRefusesRow, standIns := [], harness := (true, "41e1d4bc00c052041885ba27916a78aef30fff938bdfdb738f49d55c8684b0de"), looks := false }, kinds := [], alts := [], laidByText := true, laidKinds := [.data, .pinned], laidTests := true, laidLooks := .later }
def WalRefusesCardSaid : Prop := Claim7.holds Tryz.pinned (.plain (OpenSpec.ofChange walRefusesSpec)) walRefusesCard

/-- THE TIED CARD OF 'treenaillaw13.WalCuts'. -/
def walCutsCard : Claim7 := { stood := { row := walCutsRow, standIns := [], harness := (true, "41e1d4bc00c052041885ba27916a78aef30fff938bdfdb738f49d55c8684b0de"), looks := false }, kinds := [], alts := [], laidByText := true, laidKinds := [.data, .pinned], laidTests := true, laidLooks := .later }
def WalCutsCardSaid : Prop := Claim7.holds Tryz.pinned (.plain (OpenSpec.ofChange walCutsSpec)) walCutsCard

/-- THE SECOND FORM's CARD OF 'treenaillaw13.WalPlays'. -/
def walPlaysUptoCard : Claim7 := { stood := { row := walPlaysUptoRow, standIns := [], harness := (true, "41e1d4bc00c052041885ba27916a78aef30fff938bdfdb738f49d55c8684b0de"), looks := false }, kinds := [], alts := [], laidByText := true, laidKinds := [.data, .pinned], laidTests := true, laidLooks := .later }
def WalPlaysUptoCardSaid : Prop := Claim7.holds Tryz.pinned (.plain (OpenSpec.upto walPlaysSpec)) walPlaysUptoCard

/-- THE SECOND FORM's CARD OF 'treenaillaw13.WalHeals'. -/
def walHealsUptoCard : Claim7 := { stood := { row := walHealsUptoRow, standIns := [], harness := (true, "41e1d4bc00c052041885ba27916a78aef30fff938bdfdb738f49d55c8684b0de"), looks := false }, kinds := [], alts := [], laidByText := true, laidKinds := [.data, .pinned], laidTests := true, laidLooks := .later }
def WalHealsUptoCardSaid : Prop := Claim7.holds Tryz.pinned (.plain (OpenSpec.upto walHealsSpec)) walHealsUptoCard

/-- THE SECOND FORM's CARD OF 'treenaillaw13.WalRefuses'. -/
def walRefusesUptoCard : Claim7 := { stood := { row := walRefusesUptoRow, standIns := [], harness := (true, "41e1d4bc00c052041885ba27916a78aef30fff938bdfdb738f49d55c8684b0de"), looks := false }, kinds := [], alts := [], laidByText := true, laidKinds := [.data, .pinned], laidTests := true, laidLooks := .later }
def WalRefusesUptoCardSaid : Prop := Claim7.holds Tryz.pinned (.plain (OpenSpec.upto walRefusesSpec)) walRefusesUptoCard

/-- THE SECOND FORM's CARD OF 'treenaillaw13.WalCuts'. -/
def walCutsUptoCard : Claim7 := { stood := { row := walCutsUptoRow, standIns := [], harness := (true, "41e1d4bc00c052041885ba27916a78aef30fff938bdfdb738f49d55c8684b0de"), looks := false }, kinds := [], alts := [], laidByText := true, laidKinds := [.data, .pinned], laidTests := true, laidLooks := .later }
def WalCutsUptoCardSaid : Prop := Claim7.holds Tryz.pinned (.plain (OpenSpec.upto walCutsSpec)) walCutsUptoCard
end Rows
end Go.Proofs.YtflanjcfkdjpjaaGreatDoor
