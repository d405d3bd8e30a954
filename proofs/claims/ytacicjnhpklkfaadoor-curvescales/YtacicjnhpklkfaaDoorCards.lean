/-
  DERIVED. GIVEN WITH THE SEED: THE CARDS: each row of YtacicjnhpklkfaaDoorRows.lean that lists a variable, with what it lists TIED to the program's text (the seventh form; the later family's looks); each row that meets fmt, with fmt's text TOLD by the authors' own Lean function (tested against real Go, not proved from fmt's source: count such statements apart). THE CARD IS WHAT COUNTS. Prove the row's statement (the work); the ties are given (YtacicjnhpklkfaaDoorTie.lean); close each card by the builder's one call (the guide's Derived/Test/ToyasCard.lean, 'card_holds'). Laid BY PROGRAM, IN A SANDBOX (cutbox-door.mjs). By AI agents, Wed Nov 11 2026. No macro, syntax, notation, axiom, sorry.
-/
import Derived.Test.YtacicjnhpklkfaaDoorRows
import GoSem.ClaimSeven
namespace Go.Proofs.YtacicjnhpklkfaaDoor
namespace Rows

/-- THE TIED CARD OF 'casematelaw17.CurveOn'. -/
def curveOnCard : Claim7 := { stood := { row := curveOnRow, standIns := [], harness := (true, "9b526be0fd930396562abbdcece2ad4eed6c976b41cb091d83bbb26be8fa7082"), looks := false }, kinds := [], alts := [], laidByText := true, laidKinds := [.data], laidTests := true, laidLooks := .later }
def CurveOnCardSaid : Prop := Claim7.holds Tryd.pinned (.plain (OpenSpec.ofChange curveOnSpec)) curveOnCard

/-- THE TIED CARD OF 'casematelaw17.CurveAdds'. -/
def curveAddsCard : Claim7 := { stood := { row := curveAddsRow, standIns := [], harness := (true, "9b526be0fd930396562abbdcece2ad4eed6c976b41cb091d83bbb26be8fa7082"), looks := false }, kinds := [], alts := [], laidByText := true, laidKinds := [.data], laidTests := true, laidLooks := .later }
def CurveAddsCardSaid : Prop := Claim7.holds Tryd.pinned (.plain (OpenSpec.ofChange curveAddsSpec)) curveAddsCard

/-- THE TIED CARD OF 'casematelaw17.CurveLaws'. -/
def curveLawsCard : Claim7 := { stood := { row := curveLawsRow, standIns := [], harness := (true, "9b526be0fd930396562abbdcece2ad4eed6c976b41cb091d83bbb26be8fa7082"), looks := false }, kinds := [], alts := [], laidByText := true, laidKinds := [.data], laidTests := true, laidLooks := .later }
def CurveLawsCardSaid : Prop := Claim7.holds Tryd.pinned (.plain (OpenSpec.ofChange curveLawsSpec)) curveLawsCard

/-- THE TIED CARD OF 'casematelaw17.CurveScales'. -/
def curveScalesCard : Claim7 := { stood := { row := curveScalesRow, standIns := [], harness := (true, "9b526be0fd930396562abbdcece2ad4eed6c976b41cb091d83bbb26be8fa7082"), looks := false }, kinds := [], alts := [], laidByText := true, laidKinds := [.data], laidTests := true, laidLooks := .later }
def CurveScalesCardSaid : Prop := Claim7.holds Tryd.pinned (.plain (OpenSpec.ofChange curveScalesSpec)) curveScalesCard

/-- THE TIED CARD OF 'casematelaw17.CurvePacks'. -/
def curvePacksCard : Claim7 := { stood := { row := curvePacksRow, standIns := [], harness := (true, "9b526be0fd930396562abbdcece2ad4eed6c976b41cb091d83bbb26be8fa7082"), looks := false }, kinds := [], alts := [], laidByText := true, laidKinds := [.data], laidTests := true, laidLooks := .later }
def CurvePacksCardSaid : Prop := Claim7.holds Tryd.pinned (.plain (OpenSpec.ofChange curvePacksSpec)) curvePacksCard

/-- THE TIED CARD OF 'casematelaw17.CurveUnpacks'. -/
def curveUnpacksCard : Claim7 := { stood := { row := curveUnpacksRow, standIns := [], harness := (true, "9b526be0fd930396562abbdcece2ad4eed6c976b41cb091d83bbb26be8fa7082"), looks := false }, kinds := [], alts := [], laidByText := true, laidKinds := [.data], laidTests := true, laidLooks := .later }
def CurveUnpacksCardSaid : Prop := Claim7.holds Tryd.pinned (.plain (OpenSpec.ofChange curveUnpacksSpec)) curveUnpacksCard

/-- THE SECOND FORM's CARD OF 'casematelaw17.CurveOn'. -/
def curveOnUptoCard : Claim7 := { stood := { row := curveOnUptoRow, standIns := [], harness := (true, "9b526be0fd930396562abbdcece2ad4eed6c976b41cb091d83bbb26be8fa7082"), looks := false }, kinds := [], alts := [], laidByText := true, laidKinds := [.data], laidTests := true, laidLooks := .later }
def CurveOnUptoCardSaid : Prop := Claim7.holds Tryd.pinned (.plain (OpenSpec.upto curveOnSpec)) curveOnUptoCard

/-- THE SECOND FORM's CARD OF 'casematelaw17.CurveAdds'. -/
def curveAddsUptoCard : Claim7 := { stood := { row := curveAddsUptoRow, standIns := [], harness := (true, "9b526be0fd930396562abbdcece2ad4eed6c976b41cb091d83bbb26be8fa7082"), looks := false }, kinds := [], alts := [], laidByText := true, laidKinds := [.data], laidTests := true, laidLooks := .later }
def CurveAddsUptoCardSaid : Prop := Claim7.holds Tryd.pinned (.plain (OpenSpec.upto curveAddsSpec)) curveAddsUptoCard

/-- THE SECOND FORM's CARD OF 'casematelaw17.CurveLaws'. -/
def curveLawsUptoCard : Claim7 := { stood := { row := curveLawsUptoRow, standIns := [], harness := (true, "9b526be0fd930396562abbdcece2ad4eed6c976b41cb091d83bbb26be8fa7082"), looks := false }, kinds := [], alts := [], laidByText := true, laidKinds := [.data], laidTests := true, laidLooks := .later }
def CurveLawsUptoCardSaid : Prop := Claim7.holds Tryd.pinned (.plain (OpenSpec.upto curveLawsSpec)) curveLawsUptoCard

/-- THE SECOND FORM's CARD OF 'casematelaw17.CurveScales'. -/
def curveScalesUptoCard : Claim7 := { stood := { row := curveScalesUptoRow, standIns := [], harness := (true, "9b526be0fd930396562abbdcece2ad4eed6c976b41cb091d83bbb26be8fa7082"), looks := false }, kinds := [], alts := [], laidByText := true, laidKinds := [.data], laidTests := true, laidLooks := .later }
def CurveScalesUptoCardSaid : Prop := Claim7.holds Tryd.pinned (.plain (OpenSpec.upto curveScalesSpec)) curveScalesUptoCard

/-- THE SECOND FORM's CARD OF 'casematelaw17.CurvePacks'. -/
def curvePacksUptoCard : Claim7 := { stood := { row := curvePacksUptoRow, standIns := [], harness := (true, "9b526be0fd930396562abbdcece2ad4eed6c976b41cb091d83bbb26be8fa7082"), looks := false }, kinds := [], alts := [], laidByText := true, laidKinds := [.data], laidTests := true, laidLooks := .later }
def CurvePacksUptoCardSaid : Prop := Claim7.holds Tryd.pinned (.plain (OpenSpec.upto curvePacksSpec)) curvePacksUptoCard

/-- THE SECOND FORM's CARD OF 'casematelaw17.CurveUnpacks'. -/
def curveUnpacksUptoCard : Claim7 := { stood := { row := curveUnpacksUptoRow, standIns := [], harness := (true, "9b526be0fd930396562abbdcece2ad4eed6c976b41cb091d83bbb26be8fa7082"), looks := false }, kinds := [], alts := [], laidByText := true, laidKinds := [.data], laidTests := true, laidLooks := .later }
def CurveUnpacksUptoCardSaid : Prop := Claim7.holds Tryd.pinned (.plain (OpenSpec.upto curveUnpacksSpec)) curveUnpacksUptoCard
end Rows
end Go.Proofs.YtacicjnhpklkfaaDoor
