/-
  DERIVED. GIVEN WITH THE SEED: THE CARDS: each row of YtpdickpipdaphaaGreatDoorRows.lean that lists a variable, with what it lists TIED to the program's text (the seventh form; the later family's looks); each row that meets fmt, with fmt's text TOLD by the authors' own Lean function (tested against real Go, not proved from fmt's source: count such statements apart). THE CARD IS WHAT COUNTS. Prove the row's statement (the work); the ties are given (YtpdickpipdaphaaGreatDoorTie.lean); close each card by the builder's one call (the guide's Derived/Test/ToyasCard.lean, 'card_holds'). Laid BY PROGRAM, IN A SANDBOX (cutbox-door.mjs). By AI agents, Wed Nov 11 2026. No macro, syntax, notation, axiom, sorry.
-/
import Derived.Test.YtpdickpipdaphaaGreatDoorRows
import GoSem.ClaimSeven
namespace Go.Proofs.YtpdickpipdaphaaGreatDoor
namespace Rows

/-- THE TIED CARD OF 'treenaillaw07.RemapKeeps'. -/
def remapKeepsCard : Claim7 := { stood := { row := remapKeepsRow, standIns := [], harness := (true, "0c537b7377cdd6d837e1b38c12c2d40b9d927e5b7ee879c40e14af6a27c52c82"), looks := false }, kinds := [], alts := [], laidByText := true, laidKinds := [.data, .pinned], laidTests := true, laidLooks := .later }
def RemapKeepsCardSaid : Prop := Claim7.holds Tryz.pinned (.plain (OpenSpec.ofChange remapKeepsSpec)) remapKeepsCard

/-- THE TIED CARD OF 'treenaillaw07.RemapTorn'. -/
def remapTornCard : Claim7 := { stood := { row := remapTornRow, standIns := [], harness := (true, "0c537b7377cdd6d837e1b38c12c2d40b9d927e5b7ee879c40e14af6a27c52c82"), looks := false }, kinds := [], alts := [], laidByText := true, laidKinds := [.data, .pinned], laidTests := true, laidLooks := .later }
def RemapTornCardSaid : Prop := Claim7.holds Tryz.pinned (.plain (OpenSpec.ofChange remapTornSpec)) remapTornCard

/-- THE TIED CARD OF 'treenaillaw07.RemapShapes'. -/
def remapShapesCard : Claim7 := { stood := { row := remapShapesRow, standIns := [], harness := (true, "0c537b7377cdd6d837e1b38c12c2d40b9d927e5b7ee879c40e14af6a27c52c82"), looks := false }, kinds := [], alts := [], laidByText := true, laidKinds := [.data, .pinned], laidTests := true, laidLooks := .later }
def RemapShapesCardSaid : Prop := Claim7.holds Tryz.pinned (.plain (OpenSpec.ofChange remapShapesSpec)) remapShapesCard

/-- THE TIED CARD OF 'treenaillaw07.RemapReplaces'. -/
def remapReplacesCard : Claim7 := { stood := { row := remapReplacesRow, standIns := [], harness := (true, "0c537b7377cdd6d837e1b38c12c2d40b9d927e5b7ee879c40e14af6a27c52c82"), looks := false }, kinds := [], alts := [], laidByText := true, laidKinds := [.data, .pinned], laidTests := true, laidLooks := .later }
def RemapReplacesCardSaid : Prop := Claim7.holds Tryz.pinned (.plain (OpenSpec.ofChange remapReplacesSpec)) remapReplacesCard

/-- THE TIED CARD OF 'treenaillaw07.RemapSpares'. -/
def remapSparesCard : Claim7 := { stood := { row := remapSparesRow, standIns := [], harness := (true, "0c537b7377cdd6d837e1b38c12c2d40b9d927e5b7ee879c40e14af6a27c52c82"), looks := false }, kinds := [], alts := [], laidByText := true, laidKinds := [.data, .pinned], laidTests := true, laidLooks := .later }
def RemapSparesCardSaid : Prop := Claim7.holds Tryz.pinned (.plain (OpenSpec.ofChange remapSparesSpec)) remapSparesCard

/-- THE SECOND FORM's CARD OF 'treenaillaw07.RemapKeeps'. -/
def remapKeepsUptoCard : Claim7 := { stood := { row := remapKeepsUptoRow, standIns := [], harness := (true, "0c537b7377cdd6d837e1b38c12c2d40b9d927e5b7ee879c40e14af6a27c52c82"), looks := false }, kinds := [], alts := [], laidByText := true, laidKinds := [.data, .pinned], laidTests := true, laidLooks := .later }
def RemapKeepsUptoCardSaid : Prop := Claim7.holds Tryz.pinned (.plain (OpenSpec.upto remapKeepsSpec)) remapKeepsUptoCard

/-- THE SECOND FORM's CARD OF 'treenaillaw07.RemapTorn'. -/
def remapTornUptoCard : Claim7 := { stood := { row := remapTornUptoRow, standIns := [], harness := (true, "0c537b7377cdd6d837e1b38c12c2d40b9d927e5b7ee879c40e14af6a27c52c82"), looks := false }, kinds := [], alts := [], laidByText := true, laidKinds := [.data, .pinned], laidTests := true, laidLooks := .later }
def RemapTornUptoCardSaid : Prop := Claim7.holds Tryz.pinned (.plain (OpenSpec.upto remapTornSpec)) remapTornUptoCard

/-- THE SECOND FORM's CARD OF 'treenaillaw07.RemapShapes'. -/
def remapShapesUptoCard : Claim7 := { stood := { row := remapShapesUptoRow, standIns := [], harness := (true, "0c537b7377cdd6d837e1b38c12c2d40b9d927e5b7ee879c40e14af6a27c52c82"), looks := false }, kinds := [], alts := [], laidByText := true, laidKinds := [.data, .pinned], laidTests := true, laidLooks := .later }
def RemapShapesUptoCardSaid : Prop := Claim7.holds Tryz.pinned (.plain (OpenSpec.upto remapShapesSpec)) remapShapesUptoCard

/-- THE SECOND FORM's CARD OF 'treenaillaw07.RemapReplaces'. -/
def remapReplacesUptoCard : Claim7 := { stood := { row := remapReplacesUptoRow, standIns := [], harness := (true, "0c537b7377cdd6d837e1b38c12c2d40b9d927e5b7ee879c40e14af6a27c52c82"), looks := false }, kinds := [], alts := [], laidByText := true, laidKinds := [.data, .pinned], laidTests := true, laidLooks := .later }
def RemapReplacesUptoCardSaid : Prop := Claim7.holds Tryz.pinned (.plain (OpenSpec.upto remapReplacesSpec)) remapReplacesUptoCard

/-- THE SECOND FORM's CARD OF 'treenaillaw07.RemapSpares'. -/
def remapSparesUptoCard : Claim7 := { stood := { row := remapSparesUptoRow, standIns := [], harness := (true, "0c537b7377cdd6d837e1b38c12c2d40b9d927e5b7ee879c40e14af6a27c52c82"), looks := false }, kinds := [], alts := [], laidByText := true, laidKinds := [.data, .pinned], laidTests := true, laidLooks := .later }
def RemapSparesUptoCardSaid : Prop := Claim7.holds Tryz.pinned (.plain (OpenSpec.upto remapSparesSpec)) remapSparesUptoCard
end Rows
end Go.Proofs.YtpdickpipdaphaaGreatDoor
