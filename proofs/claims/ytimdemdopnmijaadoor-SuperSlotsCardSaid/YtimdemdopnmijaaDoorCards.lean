/-
  DERIVED. GIVEN WITH THE SEED: THE CARDS: each row of YtimdemdopnmijaaDoorRows.lean that lists a variable, with what it lists TIED to the program's text (the seventh form; the later family's looks); each row that meets fmt, with fmt's text TOLD by the authors' own Lean function (tested against real Go, not proved from fmt's source: count such statements apart). THE CARD IS WHAT COUNTS. Prove the row's statement (the work); the ties are given (YtimdemdopnmijaaDoorTie.lean); close each card by the builder's one call (the guide's Derived/Test/ToyasCard.lean, 'card_holds'). Laid BY PROGRAM, IN A SANDBOX (cutbox-door.mjs). By AI agents, Wed Nov 11 2026. No macro, syntax, notation, axiom, sorry.
-/
import Derived.Test.YtimdemdopnmijaaDoorRows
import GoSem.ClaimSeven
namespace Go.Proofs.YtimdemdopnmijaaDoor
namespace Rows

/-- THE TIED CARD OF 'treenaillaw05.SuperImages'. -/
def superImagesCard : Claim7 := { stood := { row := superImagesRow, standIns := [], harness := (true, "52478ae6c6233a206de008541d9057018b07bb813a2d6fdc1a23f565c94deb76"), looks := false }, kinds := [], alts := [], laidByText := true, laidKinds := [.data, .pinned], laidTests := true, laidLooks := .later }
def SuperImagesCardSaid : Prop := Claim7.holds Tryd.pinned (.plain (OpenSpec.ofChange superImagesSpec)) superImagesCard

/-- THE TIED CARD OF 'treenaillaw05.SuperOpens'. -/
def superOpensCard : Claim7 := { stood := { row := superOpensRow, standIns := [], harness := (true, "52478ae6c6233a206de008541d9057018b07bb813a2d6fdc1a23f565c94deb76"), looks := false }, kinds := [], alts := [], laidByText := true, laidKinds := [.data, .pinned], laidTests := true, laidLooks := .later }
def SuperOpensCardSaid : Prop := Claim7.holds Tryd.pinned (.plain (OpenSpec.ofChange superOpensSpec)) superOpensCard

/-- THE TIED CARD OF 'treenaillaw05.SuperNewest'. -/
def superNewestCard : Claim7 := { stood := { row := superNewestRow, standIns := [], harness := (true, "52478ae6c6233a206de008541d9057018b07bb813a2d6fdc1a23f565c94deb76"), looks := false }, kinds := [], alts := [], laidByText := true, laidKinds := [.data, .pinned], laidTests := true, laidLooks := .later }
def SuperNewestCardSaid : Prop := Claim7.holds Tryd.pinned (.plain (OpenSpec.ofChange superNewestSpec)) superNewestCard

/-- THE TIED CARD OF 'treenaillaw05.SuperSlots'. -/
def superSlotsCard : Claim7 := { stood := { row := superSlotsRow, standIns := [], harness := (true, "52478ae6c6233a206de008541d9057018b07bb813a2d6fdc1a23f565c94deb76"), looks := false }, kinds := [], alts := [], laidByText := true, laidKinds := [.data, .pinned], laidTests := true, laidLooks := .later }
def SuperSlotsCardSaid : Prop := Claim7.holds Tryd.pinned (.plain (OpenSpec.ofChange superSlotsSpec)) superSlotsCard

/-- THE SECOND FORM's CARD OF 'treenaillaw05.SuperImages'. -/
def superImagesUptoCard : Claim7 := { stood := { row := superImagesUptoRow, standIns := [], harness := (true, "52478ae6c6233a206de008541d9057018b07bb813a2d6fdc1a23f565c94deb76"), looks := false }, kinds := [], alts := [], laidByText := true, laidKinds := [.data, .pinned], laidTests := true, laidLooks := .later }
def SuperImagesUptoCardSaid : Prop := Claim7.holds Tryd.pinned (.plain (OpenSpec.upto superImagesSpec)) superImagesUptoCard

/-- THE SECOND FORM's CARD OF 'treenaillaw05.SuperOpens'. -/
def superOpensUptoCard : Claim7 := { stood := { row := superOpensUptoRow, standIns := [], harness := (true, "52478ae6c6233a206de008541d9057018b07bb813a2d6fdc1a23f565c94deb76"), looks := false }, kinds := [], alts := [], laidByText := true, laidKinds := [.data, .pinned], laidTests := true, laidLooks := .later }
def SuperOpensUptoCardSaid : Prop := Claim7.holds Tryd.pinned (.plain (OpenSpec.upto superOpensSpec)) superOpensUptoCard

/-- THE SECOND FORM's CARD OF 'treenaillaw05.SuperNewest'. -/
def superNewestUptoCard : Claim7 := { stood := { row := superNewestUptoRow, standIns := [], harness := (true, "52478ae6c6233a206de008541d9057018b07bb813a2d6fdc1a23f565c94deb76"), looks := false }, kinds := [], alts := [], laidByText := true, laidKinds := [.data, .pinned], laidTests := true, laidLooks := .later }
def SuperNewestUptoCardSaid : Prop := Claim7.holds Tryd.pinned (.plain (OpenSpec.upto superNewestSpec)) superNewestUptoCard

/-- THE SECOND FORM's CARD OF 'treenaillaw05.SuperSlots'. -/
def superSlotsUptoCard : Claim7 := { stood := { row := superSlotsUptoRow, standIns := [], harness := (true, "52478ae6c6233a206de008541d9057018b07bb813a2d6fdc1a23f565c94deb76"), looks := false }, kinds := [], alts := [], laidByText := true, laidKinds := [.data, .pinned], laidTests := true, laidLooks := .later }
def SuperSlotsUptoCardSaid : Prop := Claim7.holds Tryd.pinned (.plain (OpenSpec.upto superSlotsSpec)) superSlotsUptoCard
end Rows
end Go.Proofs.YtimdemdopnmijaaDoor
