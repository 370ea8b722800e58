/-
  DERIVED. GIVEN WITH THE SEED: THE CARDS: each row of YtcjfooikmaipdaaGreatDoorRows.lean that lists a variable, with what it lists TIED to the program's text (the seventh form; the later family's looks); each row that meets fmt, with fmt's text TOLD by the authors' own Lean function (tested against real Go, not proved from fmt's source: count such statements apart). THE CARD IS WHAT COUNTS. Prove the row's statement (the work); the ties are given (YtcjfooikmaipdaaGreatDoorTie.lean); close each card by the builder's one call (the guide's Derived/Test/ToyasCard.lean, 'card_holds'). Laid BY PROGRAM, IN A SANDBOX (cutbox-door.mjs). By AI agents, Wed Nov 11 2026. No macro, syntax, notation, axiom, sorry.
-/
import Derived.Test.YtcjfooikmaipdaaGreatDoorRows
import GoSem.ClaimSeven
namespace Go.Proofs.YtcjfooikmaipdaaGreatDoor
namespace Rows

/-- THE TIED CARD OF 'treenaillaw08.MirrorReads'. -/
def mirrorReadsCard : Claim7 := { stood := { row := mirrorReadsRow, standIns := [], harness := (true, "902d8c1fa0ac88fee2d9750aa27f4793658c5654d52d7a0efb04677894fc2a63"), looks := false }, kinds := [], alts := [], laidByText := true, laidKinds := [.data, .pinned], laidTests := true, laidLooks := .later }
def MirrorReadsCardSaid : Prop := Claim7.holds Tryz.pinned (.plain (OpenSpec.ofChange mirrorReadsSpec)) mirrorReadsCard

/-- THE TIED CARD OF 'treenaillaw08.MirrorQuiet'. -/
def mirrorQuietCard : Claim7 := { stood := { row := mirrorQuietRow, standIns := [], harness := (true, "902d8c1fa0ac88fee2d9750aa27f4793658c5654d52d7a0efb04677894fc2a63"), looks := false }, kinds := [], alts := [], laidByText := true, laidKinds := [.data, .pinned], laidTests := true, laidLooks := .later }
def MirrorQuietCardSaid : Prop := Claim7.holds Tryz.pinned (.plain (OpenSpec.ofChange mirrorQuietSpec)) mirrorQuietCard

/-- THE TIED CARD OF 'treenaillaw08.MirrorLost'. -/
def mirrorLostCard : Claim7 := { stood := { row := mirrorLostRow, standIns := [], harness := (true, "902d8c1fa0ac88fee2d9750aa27f4793658c5654d52d7a0efb04677894fc2a63"), looks := false }, kinds := [], alts := [], laidByText := true, laidKinds := [.data, .pinned], laidTests := true, laidLooks := .later }
def MirrorLostCardSaid : Prop := Claim7.holds Tryz.pinned (.plain (OpenSpec.ofChange mirrorLostSpec)) mirrorLostCard

/-- THE TIED CARD OF 'treenaillaw08.MirrorHonest'. -/
def mirrorHonestCard : Claim7 := { stood := { row := mirrorHonestRow, standIns := [], harness := (true, "902d8c1fa0ac88fee2d9750aa27f4793658c5654d52d7a0efb04677894fc2a63"), looks := false }, kinds := [], alts := [], laidByText := true, laidKinds := [.data, .pinned], laidTests := true, laidLooks := .later }
def MirrorHonestCardSaid : Prop := Claim7.holds Tryz.pinned (.plain (OpenSpec.ofChange mirrorHonestSpec)) mirrorHonestCard

/-- THE TIED CARD OF 'treenaillaw08.MirrorRefuses'. -/
def mirrorRefusesCard : Claim7 := { stood := { row := mirrorRefusesRow, standIns := [], harness := (true, "902d8c1fa0ac88fee2d9750aa27f4793658c5654d52d7a0efb04677894fc2a63"), looks := false }, kinds := [], alts := [], laidByText := true, laidKinds := [.data, .pinned], laidTests := true, laidLooks := .later }
def MirrorRefusesCardSaid : Prop := Claim7.holds Tryz.pinned (.plain (OpenSpec.ofChange mirrorRefusesSpec)) mirrorRefusesCard

/-- THE TIED CARD OF 'treenaillaw08.MirrorWhole'. -/
def mirrorWholeCard : Claim7 := { stood := { row := mirrorWholeRow, standIns := [], harness := (true, "902d8c1fa0ac88fee2d9750aa27f4793658c5654d52d7a0efb04677894fc2a63"), looks := false }, kinds := [], alts := [], laidByText := true, laidKinds := [.data, .pinned], laidTests := true, laidLooks := .later }
def MirrorWholeCardSaid : Prop := Claim7.holds Tryz.pinned (.plain (OpenSpec.ofChange mirrorWholeSpec)) mirrorWholeCard

/-- THE SECOND FORM's CARD OF 'treenaillaw08.MirrorReads'. -/
def mirrorReadsUptoCard : Claim7 := { stood := { row := mirrorReadsUptoRow, standIns := [], harness := (true, "902d8c1fa0ac88fee2d9750aa27f4793658c5654d52d7a0efb04677894fc2a63"), looks := false }, kinds := [], alts := [], laidByText := true, laidKinds := [.data, .pinned], laidTests := true, laidLooks := .later }
def MirrorReadsUptoCardSaid : Prop := Claim7.holds Tryz.pinned (.plain (OpenSpec.upto mirrorReadsSpec)) mirrorReadsUptoCard

/-- THE SECOND FORM's CARD OF 'treenaillaw08.MirrorQuiet'. -/
def mirrorQuietUptoCard : Claim7 := { stood := { row := mirrorQuietUptoRow, standIns := [], harness := (true, "902d8c1fa0ac88fee2d9750aa27f4793658c5654d52d7a0efb04677894fc2a63"), looks := false }, kinds := [], alts := [], laidByText := true, laidKinds := [.data, .pinned], laidTests := true, laidLooks := .later }
def MirrorQuietUptoCardSaid : Prop := Claim7.holds Tryz.pinned (.plain (OpenSpec.upto mirrorQuietSpec)) mirrorQuietUptoCard

/-- THE SECOND FORM's CARD OF 'treenaillaw08.MirrorLost'. -/
def mirrorLostUptoCard : Claim7 := { stood := { row := mirrorLostUptoRow, standIns := [], harness := (true, "902d8c1fa0ac88fee2d9750aa27f4793658c5654d52d7a0efb04677894fc2a63"), looks := false }, kinds := [], alts := [], laidByText := true, laidKinds := [.data, .pinned], laidTests := true, laidLooks := .later }
def MirrorLostUptoCardSaid : Prop := Claim7.holds Tryz.pinned (.plain (OpenSpec.upto mirrorLostSpec)) mirrorLostUptoCard

/-- THE SECOND FORM's CARD OF 'treenaillaw08.MirrorHonest'. -/
def mirrorHonestUptoCard : Claim7 := { stood := { row := mirrorHonestUptoRow, standIns := [], harness := (true, "902d8c1fa0ac88fee2d9750aa27f4793658c5654d52d7a0efb04677894fc2a63"), looks := false }, kinds := [], alts := [], laidByText := true, laidKinds := [.data, .pinned], laidTests := true, laidLooks := .later }
def MirrorHonestUptoCardSaid : Prop := Claim7.holds Tryz.pinned (.plain (OpenSpec.upto mirrorHonestSpec)) mirrorHonestUptoCard

/-- THE SECOND FORM's CARD OF 'treenaillaw08.MirrorRefuses'. -/
def mirrorRefusesUptoCard : Claim7 := { stood := { row := mirrorRefusesUptoRow, standIns := [], harness := (true, "902d8c1fa0ac88fee2d9750aa27f4793658c5654d52d7a0efb04677894fc2a63"), looks := false }, kinds := [], alts := [], laidByText := true, laidKinds := [.data, .pinned], laidTests := true, laidLooks := .later }
def MirrorRefusesUptoCardSaid : Prop := Claim7.holds Tryz.pinned (.plain (OpenSpec.upto mirrorRefusesSpec)) mirrorRefusesUptoCard

/-- THE SECOND FORM's CARD OF 'treenaillaw08.MirrorWhole'. -/
def mirrorWholeUptoCard : Claim7 := { stood := { row := mirrorWholeUptoRow, standIns := [], harness := (true, "902d8c1fa0ac88fee2d9750aa27f4793658c5654d52d7a0efb04677894fc2a63"), looks := false }, kinds := [], alts := [], laidByText := true, laidKinds := [.data, .pinned], laidTests := true, laidLooks := .later }
def MirrorWholeUptoCardSaid : Prop := Claim7.holds Tryz.pinned (.plain (OpenSpec.upto mirrorWholeSpec)) mirrorWholeUptoCard
end Rows
end Go.Proofs.YtcjfooikmaipdaaGreatDoor
