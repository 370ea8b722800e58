/-
  DERIVED. GIVEN WITH THE SEED: THE CARDS: each row of YtgoampbebjfenaaGreatDoorRows.lean that lists a variable, with what it lists TIED to the program's text (the seventh form; the later family's looks); each row that meets fmt, with fmt's text TOLD by the authors' own Lean function (tested against real Go, not proved from fmt's source: count such statements apart). THE CARD IS WHAT COUNTS. Prove the row's statement (the work); the ties are given (YtgoampbebjfenaaGreatDoorTie.lean); close each card by the builder's one call (the guide's Derived/Test/ToyasCard.lean, 'card_holds'). Laid BY PROGRAM, IN A SANDBOX (cutbox-door.mjs). By AI agents, Wed Nov 11 2026. No macro, syntax, notation, axiom, sorry.
-/
import Derived.Test.YtgoampbebjfenaaGreatDoorRows
import GoSem.ClaimSeven
namespace Go.Proofs.YtgoampbebjfenaaGreatDoor
namespace Rows

/-- THE TIED CARD OF 'treenaillaw08.MirrorReads'. -/
def mirrorReadsCard : Claim7 := { stood := { row := mirrorReadsRow, standIns := [], harness := (true, "a0eecabb6ba9a5eca8d9079cf7388174686d9db3ef04c78111f6acb25a9d1d51"), looks := false }, kinds := [], alts := [], laidByText := true, laidKinds := [.data, .pinned], laidTests := true, laidLooks := .later }
def MirrorReadsCardSaid : Prop := Claim7.holds Tryz.pinned (.plain (OpenSpec.ofChange mirrorReadsSpec)) mirrorReadsCard

/-- THE SECOND FORM's CARD OF 'treenaillaw08.MirrorReads'. -/
def mirrorReadsUptoCard : Claim7 := { stood := { row := mirrorReadsUptoRow, standIns := [], harness := (true, "a0eecabb6ba9a5eca8d9079cf7388174686d9db3ef04c78111f6acb25a9d1d51"), looks := false }, kinds := [], alts := [], laidByText := true, laidKinds := [.data, .pinned], laidTests := true, laidLooks := .later }
def MirrorReadsUptoCardSaid : Prop := Claim7.holds Tryz.pinned (.plain (OpenSpec.upto mirrorReadsSpec)) mirrorReadsUptoCard
end Rows
end Go.Proofs.YtgoampbebjfenaaGreatDoor
