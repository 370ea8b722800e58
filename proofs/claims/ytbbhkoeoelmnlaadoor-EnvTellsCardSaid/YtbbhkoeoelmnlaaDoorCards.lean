/-
  DERIVED. GIVEN WITH THE SEED: THE CARDS: each row of YtbbhkoeoelmnlaaDoorRows.lean that lists a variable, with what it lists TIED to the program's text (the seventh form; the later family's looks); each row that meets fmt, with fmt's text TOLD by the authors' own Lean function (tested against real Go, not proved from fmt's source: count such statements apart). THE CARD IS WHAT COUNTS. Prove the row's statement (the work); the ties are given (YtbbhkoeoelmnlaaDoorTie.lean); close each card by the builder's one call (the guide's Derived/Test/ToyasCard.lean, 'card_holds'). Laid BY PROGRAM, IN A SANDBOX (cutbox-door.mjs). By AI agents, Wed Nov 11 2026. No macro, syntax, notation, axiom, sorry.
-/
import Derived.Test.YtbbhkoeoelmnlaaDoorRows
import GoSem.ClaimSeven
namespace Go.Proofs.YtbbhkoeoelmnlaaDoor
namespace Rows

/-- THE TIED CARD OF 'treenaillaw04.EnvImages'. -/
def envImagesCard : Claim7 := { stood := { row := envImagesRow, standIns := [], harness := (true, "eaa9384dd6022ee6823e386974042c644e48511572b0426fc4228c686757a376"), looks := false }, kinds := [], alts := [], laidByText := true, laidKinds := [.data, .pinned], laidTests := true, laidLooks := .later }
def EnvImagesCardSaid : Prop := Claim7.holds Tryd.pinned (.plain (OpenSpec.ofChange envImagesSpec)) envImagesCard

/-- THE TIED CARD OF 'treenaillaw04.EnvPtrs'. -/
def envPtrsCard : Claim7 := { stood := { row := envPtrsRow, standIns := [], harness := (true, "eaa9384dd6022ee6823e386974042c644e48511572b0426fc4228c686757a376"), looks := false }, kinds := [], alts := [], laidByText := true, laidKinds := [.data, .pinned], laidTests := true, laidLooks := .later }
def EnvPtrsCardSaid : Prop := Claim7.holds Tryd.pinned (.plain (OpenSpec.ofChange envPtrsSpec)) envPtrsCard

/-- THE TIED CARD OF 'treenaillaw04.EnvTells'. -/
def envTellsCard : Claim7 := { stood := { row := envTellsRow, standIns := [], harness := (true, "eaa9384dd6022ee6823e386974042c644e48511572b0426fc4228c686757a376"), looks := false }, kinds := [], alts := [], laidByText := true, laidKinds := [.data, .pinned], laidTests := true, laidLooks := .later }
def EnvTellsCardSaid : Prop := Claim7.holds Tryd.pinned (.plain (OpenSpec.ofChange envTellsSpec)) envTellsCard

/-- THE TIED CARD OF 'treenaillaw04.EnvMeets'. -/
def envMeetsCard : Claim7 := { stood := { row := envMeetsRow, standIns := [], harness := (true, "eaa9384dd6022ee6823e386974042c644e48511572b0426fc4228c686757a376"), looks := false }, kinds := [], alts := [], laidByText := true, laidKinds := [.data, .pinned], laidTests := true, laidLooks := .later }
def EnvMeetsCardSaid : Prop := Claim7.holds Tryd.pinned (.plain (OpenSpec.ofChange envMeetsSpec)) envMeetsCard

/-- THE SECOND FORM's CARD OF 'treenaillaw04.EnvImages'. -/
def envImagesUptoCard : Claim7 := { stood := { row := envImagesUptoRow, standIns := [], harness := (true, "eaa9384dd6022ee6823e386974042c644e48511572b0426fc4228c686757a376"), looks := false }, kinds := [], alts := [], laidByText := true, laidKinds := [.data, .pinned], laidTests := true, laidLooks := .later }
def EnvImagesUptoCardSaid : Prop := Claim7.holds Tryd.pinned (.plain (OpenSpec.upto envImagesSpec)) envImagesUptoCard

/-- THE SECOND FORM's CARD OF 'treenaillaw04.EnvPtrs'. -/
def envPtrsUptoCard : Claim7 := { stood := { row := envPtrsUptoRow, standIns := [], harness := (true, "eaa9384dd6022ee6823e386974042c644e48511572b0426fc4228c686757a376"), looks := false }, kinds := [], alts := [], laidByText := true, laidKinds := [.data, .pinned], laidTests := true, laidLooks := .later }
def EnvPtrsUptoCardSaid : Prop := Claim7.holds Tryd.pinned (.plain (OpenSpec.upto envPtrsSpec)) envPtrsUptoCard

/-- THE SECOND FORM's CARD OF 'treenaillaw04.EnvTells'. -/
def envTellsUptoCard : Claim7 := { stood := { row := envTellsUptoRow, standIns := [], harness := (true, "eaa9384dd6022ee6823e386974042c644e48511572b0426fc4228c686757a376"), looks := false }, kinds := [], alts := [], laidByText := true, laidKinds := [.data, .pinned], laidTests := true, laidLooks := .later }
def EnvTellsUptoCardSaid : Prop := Claim7.holds Tryd.pinned (.plain (OpenSpec.upto envTellsSpec)) envTellsUptoCard

/-- THE SECOND FORM's CARD OF 'treenaillaw04.EnvMeets'. -/
def envMeetsUptoCard : Claim7 := { stood := { row := envMeetsUptoRow, standIns := [], harness := (true, "eaa9384dd6022ee6823e386974042c644e48511572b0426fc4228c686757a376"), looks := false }, kinds := [], alts := [], laidByText := true, laidKinds := [.data, .pinned], laidTests := true, laidLooks := .later }
def EnvMeetsUptoCardSaid : Prop := Claim7.holds Tryd.pinned (.plain (OpenSpec.upto envMeetsSpec)) envMeetsUptoCard
end Rows
end Go.Proofs.YtbbhkoeoelmnlaaDoor
