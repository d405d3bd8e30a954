/-
  DERIVED. GIVEN WITH THE SEED: THE CARDS: each row of YtgofapndgjfnhaaDoorRows.lean that lists a variable, with what it lists TIED to the program's text (the seventh form; the later family's looks); each row that meets fmt, with fmt's text TOLD by the authors' own Lean function (tested against real Go, not proved from fmt's source: count such statements apart). THE CARD IS WHAT COUNTS. Prove the row's statement (the work); the ties are given (YtgofapndgjfnhaaDoorTie.lean); close each card by the builder's one call (the guide's Derived/Test/ToyasCard.lean, 'card_holds'). Laid BY PROGRAM, IN A SANDBOX (cutbox-door.mjs). By AI agents, Wed Nov 11 2026. No macro, syntax, notation, axiom, sorry.
-/
import Derived.Test.YtgofapndgjfnhaaDoorRows
import GoSem.ClaimSeven
namespace Go.Proofs.YtgofapndgjfnhaaDoor
namespace Rows

/-- THE TIED CARD OF 'casematelaw18.ScalarReckons'. -/
def scalarReckonsCard : Claim7 := { stood := { row := scalarReckonsRow, standIns := [], harness := (true, "de69365683270b4b0dd680b40d8249542acab8c3d045259897920d968d1505bb"), looks := false }, kinds := [], alts := [], laidByText := true, laidKinds := [.data], laidTests := true, laidLooks := .later }
def ScalarReckonsCardSaid : Prop := Claim7.holds Tryd.pinned (.plain (OpenSpec.ofChange scalarReckonsSpec)) scalarReckonsCard

/-- THE TIED CARD OF 'casematelaw18.ScalarLaws'. -/
def scalarLawsCard : Claim7 := { stood := { row := scalarLawsRow, standIns := [], harness := (true, "de69365683270b4b0dd680b40d8249542acab8c3d045259897920d968d1505bb"), looks := false }, kinds := [], alts := [], laidByText := true, laidKinds := [.data], laidTests := true, laidLooks := .later }
def ScalarLawsCardSaid : Prop := Claim7.holds Tryd.pinned (.plain (OpenSpec.ofChange scalarLawsSpec)) scalarLawsCard

/-- THE TIED CARD OF 'casematelaw18.ScalarScales'. -/
def scalarScalesCard : Claim7 := { stood := { row := scalarScalesRow, standIns := [], harness := (true, "de69365683270b4b0dd680b40d8249542acab8c3d045259897920d968d1505bb"), looks := false }, kinds := [], alts := [], laidByText := true, laidKinds := [.data, .data], laidTests := true, laidLooks := .later }
def ScalarScalesCardSaid : Prop := Claim7.holds Tryd.pinned (.plain (OpenSpec.ofChange scalarScalesSpec)) scalarScalesCard

/-- THE TIED CARD OF 'casematelaw18.ScalarGroups'. -/
def scalarGroupsCard : Claim7 := { stood := { row := scalarGroupsRow, standIns := [], harness := (true, "de69365683270b4b0dd680b40d8249542acab8c3d045259897920d968d1505bb"), looks := false }, kinds := [], alts := [], laidByText := true, laidKinds := [.data], laidTests := true, laidLooks := .later }
def ScalarGroupsCardSaid : Prop := Claim7.holds Tryd.pinned (.plain (OpenSpec.ofChange scalarGroupsSpec)) scalarGroupsCard

/-- THE SECOND FORM's CARD OF 'casematelaw18.ScalarReckons'. -/
def scalarReckonsUptoCard : Claim7 := { stood := { row := scalarReckonsUptoRow, standIns := [], harness := (true, "de69365683270b4b0dd680b40d8249542acab8c3d045259897920d968d1505bb"), looks := false }, kinds := [], alts := [], laidByText := true, laidKinds := [.data], laidTests := true, laidLooks := .later }
def ScalarReckonsUptoCardSaid : Prop := Claim7.holds Tryd.pinned (.plain (OpenSpec.upto scalarReckonsSpec)) scalarReckonsUptoCard

/-- THE SECOND FORM's CARD OF 'casematelaw18.ScalarLaws'. -/
def scalarLawsUptoCard : Claim7 := { stood := { row := scalarLawsUptoRow, standIns := [], harness := (true, "de69365683270b4b0dd680b40d8249542acab8c3d045259897920d968d1505bb"), looks := false }, kinds := [], alts := [], laidByText := true, laidKinds := [.data], laidTests := true, laidLooks := .later }
def ScalarLawsUptoCardSaid : Prop := Claim7.holds Tryd.pinned (.plain (OpenSpec.upto scalarLawsSpec)) scalarLawsUptoCard

/-- THE SECOND FORM's CARD OF 'casematelaw18.ScalarScales'. -/
def scalarScalesUptoCard : Claim7 := { stood := { row := scalarScalesUptoRow, standIns := [], harness := (true, "de69365683270b4b0dd680b40d8249542acab8c3d045259897920d968d1505bb"), looks := false }, kinds := [], alts := [], laidByText := true, laidKinds := [.data, .data], laidTests := true, laidLooks := .later }
def ScalarScalesUptoCardSaid : Prop := Claim7.holds Tryd.pinned (.plain (OpenSpec.upto scalarScalesSpec)) scalarScalesUptoCard

/-- THE SECOND FORM's CARD OF 'casematelaw18.ScalarGroups'. -/
def scalarGroupsUptoCard : Claim7 := { stood := { row := scalarGroupsUptoRow, standIns := [], harness := (true, "de69365683270b4b0dd680b40d8249542acab8c3d045259897920d968d1505bb"), looks := false }, kinds := [], alts := [], laidByText := true, laidKinds := [.data], laidTests := true, laidLooks := .later }
def ScalarGroupsUptoCardSaid : Prop := Claim7.holds Tryd.pinned (.plain (OpenSpec.upto scalarGroupsSpec)) scalarGroupsUptoCard
end Rows
end Go.Proofs.YtgofapndgjfnhaaDoor
