/-
  DERIVED. GIVEN WITH THE SEED: THE CARDS: each row of YthangiocheodoaaGreatDoorRows.lean that lists a variable, with what it lists TIED to the program's text (the seventh form; the later family's looks); each row that meets fmt, with fmt's text TOLD by the authors' own Lean function (tested against real Go, not proved from fmt's source: count such statements apart). THE CARD IS WHAT COUNTS. Prove the row's statement (the work); the ties are given (YthangiocheodoaaGreatDoorTie.lean); close each card by the builder's one call (the guide's Derived/Test/ToyasCard.lean, 'card_holds'). Laid BY PROGRAM, IN A SANDBOX (cutbox-door.mjs). By AI agents, Wed Nov 11 2026. No macro, syntax, notation, axiom, sorry.
-/
import Derived.Test.YthangiocheodoaaGreatDoorRows
import GoSem.ClaimSeven
namespace Go.Proofs.YthangiocheodoaaGreatDoor
namespace Rows

/-- THE TIED CARD OF 'casematelaw19.EdPublic'. -/
def edPublicCard : Claim7 := { stood := { row := edPublicRow, standIns := [], harness := (true, "cc71568187c8be57105d033107b058decc3497c2f7b93c4b634d3fb1c41dc587"), looks := false }, kinds := [], alts := [], laidByText := true, laidKinds := [.data, .data], laidTests := true, laidLooks := .later }
def EdPublicCardSaid : Prop := Claim7.holds Tryz.pinned (.plain (OpenSpec.ofChange edPublicSpec)) edPublicCard

/-- THE TIED CARD OF 'casematelaw19.EdSigns'. -/
def edSignsCard : Claim7 := { stood := { row := edSignsRow, standIns := [], harness := (true, "cc71568187c8be57105d033107b058decc3497c2f7b93c4b634d3fb1c41dc587"), looks := false }, kinds := [], alts := [], laidByText := true, laidKinds := [.data, .data], laidTests := true, laidLooks := .later }
def EdSignsCardSaid : Prop := Claim7.holds Tryz.pinned (.plain (OpenSpec.ofChange edSignsSpec)) edSignsCard

/-- THE TIED CARD OF 'casematelaw19.EdTells'. -/
def edTellsCard : Claim7 := { stood := { row := edTellsRow, standIns := [], harness := (true, "cc71568187c8be57105d033107b058decc3497c2f7b93c4b634d3fb1c41dc587"), looks := false }, kinds := [], alts := [], laidByText := true, laidKinds := [.data, .data], laidTests := true, laidLooks := .later }
def EdTellsCardSaid : Prop := Claim7.holds Tryz.pinned (.plain (OpenSpec.ofChange edTellsSpec)) edTellsCard

/-- THE SECOND FORM's CARD OF 'casematelaw19.EdPublic'. -/
def edPublicUptoCard : Claim7 := { stood := { row := edPublicUptoRow, standIns := [], harness := (true, "cc71568187c8be57105d033107b058decc3497c2f7b93c4b634d3fb1c41dc587"), looks := false }, kinds := [], alts := [], laidByText := true, laidKinds := [.data, .data], laidTests := true, laidLooks := .later }
def EdPublicUptoCardSaid : Prop := Claim7.holds Tryz.pinned (.plain (OpenSpec.upto edPublicSpec)) edPublicUptoCard

/-- THE SECOND FORM's CARD OF 'casematelaw19.EdSigns'. -/
def edSignsUptoCard : Claim7 := { stood := { row := edSignsUptoRow, standIns := [], harness := (true, "cc71568187c8be57105d033107b058decc3497c2f7b93c4b634d3fb1c41dc587"), looks := false }, kinds := [], alts := [], laidByText := true, laidKinds := [.data, .data], laidTests := true, laidLooks := .later }
def EdSignsUptoCardSaid : Prop := Claim7.holds Tryz.pinned (.plain (OpenSpec.upto edSignsSpec)) edSignsUptoCard

/-- THE SECOND FORM's CARD OF 'casematelaw19.EdTells'. -/
def edTellsUptoCard : Claim7 := { stood := { row := edTellsUptoRow, standIns := [], harness := (true, "cc71568187c8be57105d033107b058decc3497c2f7b93c4b634d3fb1c41dc587"), looks := false }, kinds := [], alts := [], laidByText := true, laidKinds := [.data, .data], laidTests := true, laidLooks := .later }
def EdTellsUptoCardSaid : Prop := Claim7.holds Tryz.pinned (.plain (OpenSpec.upto edTellsSpec)) edTellsUptoCard
end Rows
end Go.Proofs.YthangiocheodoaaGreatDoor
