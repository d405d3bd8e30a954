/-
  DERIVED. GIVEN WITH THE SEED: THE CARDS: each row of YthangiocheodoaaDoorRows.lean that lists a variable, with what it lists TIED to the program's text (the seventh form; the later family's looks); each row that meets fmt, with fmt's text TOLD by the authors' own Lean function (tested against real Go, not proved from fmt's source: count such statements apart). THE CARD IS WHAT COUNTS. Prove the row's statement (the work); the ties are given (YthangiocheodoaaDoorTie.lean); close each card by the builder's one call (the guide's Derived/Test/ToyasCard.lean, 'card_holds'). Laid BY PROGRAM, IN A SANDBOX (cutbox-door.mjs). By AI agents, Wed Nov 11 2026. No macro, syntax, notation, axiom, sorry.
-/
import Derived.Test.YthangiocheodoaaDoorRows
import GoSem.ClaimSeven
namespace Go.Proofs.YthangiocheodoaaDoor
namespace Rows

/-- THE TIED CARD OF 'casematelaw19.EdVerifies'. -/
def edVerifiesCard : Claim7 := { stood := { row := edVerifiesRow, standIns := [], harness := (true, "3891554a9c8d24c9cbae0707aee1736fafa172b595d872b771436aba61d5a45e"), looks := false }, kinds := [], alts := [], laidByText := true, laidKinds := [.data, .data], laidTests := true, laidLooks := .later }
def EdVerifiesCardSaid : Prop := Claim7.holds Tryd.pinned (.plain (OpenSpec.ofChange edVerifiesSpec)) edVerifiesCard

/-- THE TIED CARD OF 'casematelaw19.EdOne'. -/
def edOneCard : Claim7 := { stood := { row := edOneRow, standIns := [], harness := (true, "3891554a9c8d24c9cbae0707aee1736fafa172b595d872b771436aba61d5a45e"), looks := false }, kinds := [], alts := [], laidByText := true, laidKinds := [.data, .data], laidTests := true, laidLooks := .later }
def EdOneCardSaid : Prop := Claim7.holds Tryd.pinned (.plain (OpenSpec.ofChange edOneSpec)) edOneCard

/-- THE TIED CARD OF 'casematelaw19.EdForms'. -/
def edFormsCard : Claim7 := { stood := { row := edFormsRow, standIns := [], harness := (true, "3891554a9c8d24c9cbae0707aee1736fafa172b595d872b771436aba61d5a45e"), looks := false }, kinds := [], alts := [], laidByText := true, laidKinds := [.data, .data], laidTests := true, laidLooks := .later }
def EdFormsCardSaid : Prop := Claim7.holds Tryd.pinned (.plain (OpenSpec.ofChange edFormsSpec)) edFormsCard

/-- THE SECOND FORM's CARD OF 'casematelaw19.EdVerifies'. -/
def edVerifiesUptoCard : Claim7 := { stood := { row := edVerifiesUptoRow, standIns := [], harness := (true, "3891554a9c8d24c9cbae0707aee1736fafa172b595d872b771436aba61d5a45e"), looks := false }, kinds := [], alts := [], laidByText := true, laidKinds := [.data, .data], laidTests := true, laidLooks := .later }
def EdVerifiesUptoCardSaid : Prop := Claim7.holds Tryd.pinned (.plain (OpenSpec.upto edVerifiesSpec)) edVerifiesUptoCard

/-- THE SECOND FORM's CARD OF 'casematelaw19.EdOne'. -/
def edOneUptoCard : Claim7 := { stood := { row := edOneUptoRow, standIns := [], harness := (true, "3891554a9c8d24c9cbae0707aee1736fafa172b595d872b771436aba61d5a45e"), looks := false }, kinds := [], alts := [], laidByText := true, laidKinds := [.data, .data], laidTests := true, laidLooks := .later }
def EdOneUptoCardSaid : Prop := Claim7.holds Tryd.pinned (.plain (OpenSpec.upto edOneSpec)) edOneUptoCard

/-- THE SECOND FORM's CARD OF 'casematelaw19.EdForms'. -/
def edFormsUptoCard : Claim7 := { stood := { row := edFormsUptoRow, standIns := [], harness := (true, "3891554a9c8d24c9cbae0707aee1736fafa172b595d872b771436aba61d5a45e"), looks := false }, kinds := [], alts := [], laidByText := true, laidKinds := [.data, .data], laidTests := true, laidLooks := .later }
def EdFormsUptoCardSaid : Prop := Claim7.holds Tryd.pinned (.plain (OpenSpec.upto edFormsSpec)) edFormsUptoCard
end Rows
end Go.Proofs.YthangiocheodoaaDoor
