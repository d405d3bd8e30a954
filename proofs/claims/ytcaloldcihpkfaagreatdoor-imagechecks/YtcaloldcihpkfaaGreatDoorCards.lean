/-
  DERIVED. GIVEN WITH THE SEED: THE CARDS: each row of YtcaloldcihpkfaaGreatDoorRows.lean that lists a variable, with what it lists TIED to the program's text (the seventh form; the later family's looks); each row that meets fmt, with fmt's text TOLD by the authors' own Lean function (tested against real Go, not proved from fmt's source: count such statements apart). THE CARD IS WHAT COUNTS. Prove the row's statement (the work); the ties are given (YtcaloldcihpkfaaGreatDoorTie.lean); close each card by the builder's one call (the guide's Derived/Test/ToyasCard.lean, 'card_holds'). Laid BY PROGRAM, IN A SANDBOX (cutbox-door.mjs). By AI agents, Wed Nov 11 2026. No macro, syntax, notation, axiom, sorry.
-/
import Derived.Test.YtcaloldcihpkfaaGreatDoorRows
import GoSem.ClaimSeven
namespace Go.Proofs.YtcaloldcihpkfaaGreatDoor
namespace Rows

/-- THE TIED CARD OF 'casematelaw23.ImageMakes'. -/
def imageMakesCard : Claim7 := { stood := { row := imageMakesRow, standIns := [], harness := (true, "f13afaf985ff2267cede2260a3cdfafd3373e9cc0391f8cc2e4a2fe008ad86c6"), looks := true }, kinds := [], alts := [], laidByText := true, laidKinds := [.data, .data], laidTests := true, laidLooks := .later }
def ImageMakesCardSaid : Prop := Claim7.holds Tryz.pinned (.plain (OpenSpec.ofChange imageMakesSpec)) imageMakesCard

/-- THE TIED CARD OF 'casematelaw23.ImageChecks'. -/
def imageChecksCard : Claim7 := { stood := { row := imageChecksRow, standIns := [], harness := (true, "f13afaf985ff2267cede2260a3cdfafd3373e9cc0391f8cc2e4a2fe008ad86c6"), looks := true }, kinds := [], alts := [], laidByText := true, laidKinds := [.data, .data], laidTests := true, laidLooks := .later }
def ImageChecksCardSaid : Prop := Claim7.holds Tryz.pinned (.plain (OpenSpec.ofChange imageChecksSpec)) imageChecksCard

/-- THE TIED CARD OF 'casematelaw23.ImageLaunches'. -/
def imageLaunchesCard : Claim7 := { stood := { row := imageLaunchesRow, standIns := [], harness := (true, "f13afaf985ff2267cede2260a3cdfafd3373e9cc0391f8cc2e4a2fe008ad86c6"), looks := true }, kinds := [], alts := [], laidByText := true, laidKinds := [.data, .data], laidTests := true, laidLooks := .later }
def ImageLaunchesCardSaid : Prop := Claim7.holds Tryz.pinned (.plain (OpenSpec.ofChange imageLaunchesSpec)) imageLaunchesCard

/-- THE TIED CARD OF 'casematelaw23.ImageSound'. -/
def imageSoundCard : Claim7 := { stood := { row := imageSoundRow, standIns := [], harness := (true, "f13afaf985ff2267cede2260a3cdfafd3373e9cc0391f8cc2e4a2fe008ad86c6"), looks := true }, kinds := [], alts := [], laidByText := true, laidKinds := [.data, .data], laidTests := true, laidLooks := .later }
def ImageSoundCardSaid : Prop := Claim7.holds Tryz.pinned (.plain (OpenSpec.ofChange imageSoundSpec)) imageSoundCard

/-- THE TIED CARD OF 'casematelaw23.ImageData'. -/
def imageDataCard : Claim7 := { stood := { row := imageDataRow, standIns := [], harness := (true, "f13afaf985ff2267cede2260a3cdfafd3373e9cc0391f8cc2e4a2fe008ad86c6"), looks := true }, kinds := [], alts := [], laidByText := true, laidKinds := [.data, .data], laidTests := true, laidLooks := .later }
def ImageDataCardSaid : Prop := Claim7.holds Tryz.pinned (.plain (OpenSpec.ofChange imageDataSpec)) imageDataCard

/-- THE SECOND FORM's CARD OF 'casematelaw23.ImageMakes'. -/
def imageMakesUptoCard : Claim7 := { stood := { row := imageMakesUptoRow, standIns := [], harness := (true, "f13afaf985ff2267cede2260a3cdfafd3373e9cc0391f8cc2e4a2fe008ad86c6"), looks := true }, kinds := [], alts := [], laidByText := true, laidKinds := [.data, .data], laidTests := true, laidLooks := .later }
def ImageMakesUptoCardSaid : Prop := Claim7.holds Tryz.pinned (.plain (OpenSpec.upto imageMakesSpec)) imageMakesUptoCard

/-- THE SECOND FORM's CARD OF 'casematelaw23.ImageChecks'. -/
def imageChecksUptoCard : Claim7 := { stood := { row := imageChecksUptoRow, standIns := [], harness := (true, "f13afaf985ff2267cede2260a3cdfafd3373e9cc0391f8cc2e4a2fe008ad86c6"), looks := true }, kinds := [], alts := [], laidByText := true, laidKinds := [.data, .data], laidTests := true, laidLooks := .later }
def ImageChecksUptoCardSaid : Prop := Claim7.holds Tryz.pinned (.plain (OpenSpec.upto imageChecksSpec)) imageChecksUptoCard

/-- THE SECOND FORM's CARD OF 'casematelaw23.ImageLaunches'. -/
def imageLaunchesUptoCard : Claim7 := { stood := { row := imageLaunchesUptoRow, standIns := [], harness := (true, "f13afaf985ff2267cede2260a3cdfafd3373e9cc0391f8cc2e4a2fe008ad86c6"), looks := true }, kinds := [], alts := [], laidByText := true, laidKinds := [.data, .data], laidTests := true, laidLooks := .later }
def ImageLaunchesUptoCardSaid : Prop := Claim7.holds Tryz.pinned (.plain (OpenSpec.upto imageLaunchesSpec)) imageLaunchesUptoCard

/-- THE SECOND FORM's CARD OF 'casematelaw23.ImageSound'. -/
def imageSoundUptoCard : Claim7 := { stood := { row := imageSoundUptoRow, standIns := [], harness := (true, "f13afaf985ff2267cede2260a3cdfafd3373e9cc0391f8cc2e4a2fe008ad86c6"), looks := true }, kinds := [], alts := [], laidByText := true, laidKinds := [.data, .data], laidTests := true, laidLooks := .later }
def ImageSoundUptoCardSaid : Prop := Claim7.holds Tryz.pinned (.plain (OpenSpec.upto imageSoundSpec)) imageSoundUptoCard

/-- THE SECOND FORM's CARD OF 'casematelaw23.ImageData'. -/
def imageDataUptoCard : Claim7 := { stood := { row := imageDataUptoRow, standIns := [], harness := (true, "f13afaf985ff2267cede2260a3cdfafd3373e9cc0391f8cc2e4a2fe008ad86c6"), looks := true }, kinds := [], alts := [], laidByText := true, laidKinds := [.data, .data], laidTests := true, laidLooks := .later }
def ImageDataUptoCardSaid : Prop := Claim7.holds Tryz.pinned (.plain (OpenSpec.upto imageDataSpec)) imageDataUptoCard
end Rows
end Go.Proofs.YtcaloldcihpkfaaGreatDoor
