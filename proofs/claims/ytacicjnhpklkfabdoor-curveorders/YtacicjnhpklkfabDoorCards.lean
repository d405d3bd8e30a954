/-
  DERIVED. GIVEN WITH THE SEED: THE CARDS: each row of YtacicjnhpklkfabDoorRows.lean that lists a variable, with what it lists TIED to the program's text (the seventh form; the later family's looks); each row that meets fmt, with fmt's text TOLD by the authors' own Lean function (tested against real Go, not proved from fmt's source: count such statements apart). THE CARD IS WHAT COUNTS. Prove the row's statement (the work); the ties are given (YtacicjnhpklkfabDoorTie.lean); close each card by the builder's one call (the guide's Derived/Test/ToyasCard.lean, 'card_holds'). Laid BY PROGRAM, IN A SANDBOX (cutbox-door.mjs). By AI agents, Wed Nov 11 2026. No macro, syntax, notation, axiom, sorry.
-/
import Derived.Test.YtacicjnhpklkfabDoorRows
import GoSem.ClaimSeven
namespace Go.Proofs.YtacicjnhpklkfabDoor
namespace Rows

/-- THE TIED CARD OF 'casematelaw17.CurveOrders'. -/
def curveOrdersCard : Claim7 := { stood := { row := curveOrdersRow, standIns := [], harness := (true, "74a343aa64f4ea93750a397f30582f0e00d9b4da8f043d0524ce4617e226e938"), looks := false }, kinds := [], alts := [], laidByText := true, laidKinds := [.data], laidTests := true, laidLooks := .later }
def CurveOrdersCardSaid : Prop := Claim7.holds Tryd.pinned (.plain (OpenSpec.ofChange curveOrdersSpec)) curveOrdersCard

/-- THE TIED CARD OF 'casematelaw17.CurveTwo'. -/
def curveTwoCard : Claim7 := { stood := { row := curveTwoRow, standIns := [], harness := (true, "74a343aa64f4ea93750a397f30582f0e00d9b4da8f043d0524ce4617e226e938"), looks := false }, kinds := [], alts := [], laidByText := true, laidKinds := [.data], laidTests := true, laidLooks := .later }
def CurveTwoCardSaid : Prop := Claim7.holds Tryd.pinned (.plain (OpenSpec.ofChange curveTwoSpec)) curveTwoCard

/-- THE SECOND FORM's CARD OF 'casematelaw17.CurveOrders'. -/
def curveOrdersUptoCard : Claim7 := { stood := { row := curveOrdersUptoRow, standIns := [], harness := (true, "74a343aa64f4ea93750a397f30582f0e00d9b4da8f043d0524ce4617e226e938"), looks := false }, kinds := [], alts := [], laidByText := true, laidKinds := [.data], laidTests := true, laidLooks := .later }
def CurveOrdersUptoCardSaid : Prop := Claim7.holds Tryd.pinned (.plain (OpenSpec.upto curveOrdersSpec)) curveOrdersUptoCard

/-- THE SECOND FORM's CARD OF 'casematelaw17.CurveTwo'. -/
def curveTwoUptoCard : Claim7 := { stood := { row := curveTwoUptoRow, standIns := [], harness := (true, "74a343aa64f4ea93750a397f30582f0e00d9b4da8f043d0524ce4617e226e938"), looks := false }, kinds := [], alts := [], laidByText := true, laidKinds := [.data], laidTests := true, laidLooks := .later }
def CurveTwoUptoCardSaid : Prop := Claim7.holds Tryd.pinned (.plain (OpenSpec.upto curveTwoSpec)) curveTwoUptoCard
end Rows
end Go.Proofs.YtacicjnhpklkfabDoor
