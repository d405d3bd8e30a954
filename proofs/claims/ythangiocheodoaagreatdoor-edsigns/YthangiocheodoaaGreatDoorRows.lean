/-
  NARROWER THAN 'FOR EVERY INPUT', by the rows' own cells (each row's printed sentence says how): EdPublic: laid · EdSigns: laid · EdTells: laid.
  DERIVED. THE GIVEN ROWS OF THIS SEAT. 3 by the template 'for every input the law returns true; each argument reads behind the call as it read before'; 0 by the template 'total and deterministic' (their statements: YthangiocheodoaaGreatDoorTotals.lean).
  GIVEN WITH THE SEED: the statements are not yours to turn. If you find one false, say at which input.
  Laid BY PROGRAM, IN A SANDBOX (cutbox-rows.mjs): the forced cells as the released guide's own fill.sh prints them over the translation 65e3cbc57861f17f… (all of the seat's roots in one cut). By AI agents, Wed Nov 11 2026. No macro, syntax, notation, axiom, sorry.
-/
import Derived.Test.YthangiocheodoaaGreatDoorChecked
import GoSem.Claim
import GoSem.ClaimJoined
import GoSem.ClaimMapViews
import Derived.JoinedTies
import Derived.KernelRfl
namespace Go.Proofs.YthangiocheodoaaGreatDoor
/- THE CELL 'sum', in the pinned program and in every row, IS THE sha256 OF THE DUMP (.gsa) THAT YthangiocheodoaaGreatDoorProg.lean LOADS. Nothing in Lean hashes anything: it is a label: what it is worth is what the hold of that sum in a sandbox is worth. -/
noncomputable def Tryz.pinned : Pinned := { name := "ythangiocheodoaagreatdoor", sum := "65e3cbc57861f17f0f647004a01e73180e75e9b573ba40be9691a28c6f433b50", checked := Tryz.checked }
namespace Rows
def none {H : Type} : Left H := { results := [], args := [] }

/- WHAT THE LISTED PACKAGE-LEVEL VARIABLES READ AS WHEN THE CALL BEGINS. Each datum BY PROGRAM (the guide's laid-datum.mjs) off the statement by which the dump's own 'gosem.cut.vars' lays the variable. In a bare row this is a premise. The card (YthangiocheodoaaGreatDoorCards.lean) ties it to the program's text. -/
def laid_casemate_scalar_order {H : Type} : DataW H := .agg [.lit (.int .u8 237), .lit (.int .u8 211), .lit (.int .u8 245), .lit (.int .u8 92), .lit (.int .u8 26), .lit (.int .u8 99), .lit (.int .u8 18), .lit (.int .u8 88), .lit (.int .u8 214), .lit (.int .u8 156), .lit (.int .u8 247), .lit (.int .u8 162), .lit (.int .u8 222), .lit (.int .u8 249), .lit (.int .u8 222), .lit (.int .u8 20), .lit (.int .u8 0), .lit (.int .u8 0), .lit (.int .u8 0), .lit (.int .u8 0), .lit (.int .u8 0), .lit (.int .u8 0), .lit (.int .u8 0), .lit (.int .u8 0), .lit (.int .u8 0), .lit (.int .u8 0), .lit (.int .u8 0), .lit (.int .u8 0), .lit (.int .u8 0), .lit (.int .u8 0), .lit (.int .u8 0), .lit (.int .u8 16)]
def laid_casemate_curve_d {H : Type} : DataW H := .agg [.lit (.int .u8 163), .lit (.int .u8 120), .lit (.int .u8 89), .lit (.int .u8 19), .lit (.int .u8 202), .lit (.int .u8 77), .lit (.int .u8 235), .lit (.int .u8 117), .lit (.int .u8 171), .lit (.int .u8 216), .lit (.int .u8 65), .lit (.int .u8 65), .lit (.int .u8 77), .lit (.int .u8 10), .lit (.int .u8 112), .lit (.int .u8 0), .lit (.int .u8 152), .lit (.int .u8 232), .lit (.int .u8 121), .lit (.int .u8 119), .lit (.int .u8 121), .lit (.int .u8 64), .lit (.int .u8 199), .lit (.int .u8 140), .lit (.int .u8 115), .lit (.int .u8 254), .lit (.int .u8 111), .lit (.int .u8 43), .lit (.int .u8 238), .lit (.int .u8 108), .lit (.int .u8 3), .lit (.int .u8 82)]

/-- 'casematelaw19.EdPublic': WHATEVER THE INPUT: true; the input reads as it did. -/
def edPublicSpec : ChangeSpec := { name := "edPublic", fn := fun _ => fun
  | [d] => { results := [.lit (.bool true)], args := [d] }
  | _ => none }
def edPublicRow : OpenClaim := { program := "ythangiocheodoaagreatdoor", sum := "65e3cbc57861f17f0f647004a01e73180e75e9b573ba40be9691a28c6f433b50", func := "casemate/casematelaw19.EdPublic", spec := "edPublic", inPlace := ["math/bits.Add64", "math/bits.Sub64"], unfollowed := true, recurses := true, named := ["casemate/curve.d", "casemate/scalar.order"], apart := false, laid := [("casemate/scalar.order", laid_casemate_scalar_order), ("casemate/curve.d", laid_casemate_curve_d)] }
def EdPublicSaid : Prop := edPublicRow.holds Tryz.pinned (OpenSpec.ofChange edPublicSpec)

/-- ITS FALSE NEIGHBOUR: 'it returns false'. Refute it at one input. -/
def edPublicWrong : ChangeSpec := { name := "edPublic", fn := fun _ => fun
  | [d] => { results := [.lit (.bool false)], args := [d] }
  | _ => none }
def EdPublicWrongFalsely : Prop := edPublicRow.holds Tryz.pinned (OpenSpec.ofChange edPublicWrong)

/-- 'casematelaw19.EdSigns': WHATEVER THE INPUT: true; the input reads as it did. -/
def edSignsSpec : ChangeSpec := { name := "edSigns", fn := fun _ => fun
  | [d1, d2] => { results := [.lit (.bool true)], args := [d1, d2] }
  | _ => none }
def edSignsRow : OpenClaim := { program := "ythangiocheodoaagreatdoor", sum := "65e3cbc57861f17f0f647004a01e73180e75e9b573ba40be9691a28c6f433b50", func := "casemate/casematelaw19.EdSigns", spec := "edSigns", inPlace := ["math/bits.Add64", "math/bits.Sub64"], unfollowed := true, recurses := true, named := ["casemate/curve.d", "casemate/scalar.order"], apart := false, laid := [("casemate/scalar.order", laid_casemate_scalar_order), ("casemate/curve.d", laid_casemate_curve_d)] }
def EdSignsSaid : Prop := edSignsRow.holds Tryz.pinned (OpenSpec.ofChange edSignsSpec)

/-- ITS FALSE NEIGHBOUR: 'it returns false'. Refute it at one input. -/
def edSignsWrong : ChangeSpec := { name := "edSigns", fn := fun _ => fun
  | [d1, d2] => { results := [.lit (.bool false)], args := [d1, d2] }
  | _ => none }
def EdSignsWrongFalsely : Prop := edSignsRow.holds Tryz.pinned (OpenSpec.ofChange edSignsWrong)

/-- 'casematelaw19.EdTells': WHATEVER THE INPUT: true; the input reads as it did. -/
def edTellsSpec : ChangeSpec := { name := "edTells", fn := fun _ => fun
  | [d1, d2, d3] => { results := [.lit (.bool true)], args := [d1, d2, d3] }
  | _ => none }
def edTellsRow : OpenClaim := { program := "ythangiocheodoaagreatdoor", sum := "65e3cbc57861f17f0f647004a01e73180e75e9b573ba40be9691a28c6f433b50", func := "casemate/casematelaw19.EdTells", spec := "edTells", inPlace := ["math/bits.Sub64", "math/bits.Add64"], unfollowed := true, recurses := true, named := ["casemate/curve.d", "casemate/scalar.order"], apart := false, laid := [("casemate/scalar.order", laid_casemate_scalar_order), ("casemate/curve.d", laid_casemate_curve_d)] }
def EdTellsSaid : Prop := edTellsRow.holds Tryz.pinned (OpenSpec.ofChange edTellsSpec)

/-- ITS FALSE NEIGHBOUR: 'it returns false'. Refute it at one input. -/
def edTellsWrong : ChangeSpec := { name := "edTells", fn := fun _ => fun
  | [d1, d2, d3] => { results := [.lit (.bool false)], args := [d1, d2, d3] }
  | _ => none }
def EdTellsWrongFalsely : Prop := edTellsRow.holds Tryz.pinned (OpenSpec.ofChange edTellsWrong)

/- THE SECOND FORM. 'bulk': how many values and letters a reading holds, each counted each time it is reached (what is shared counts as often as it is met; a slice's spare places count too). A statement '..UptoSaid' is the law's where the arguments, and the package variables that the reading takes, are together of bulk at most 1048576: NARROWER than '..Said'. Prove '..Said' where nothing that the law and all that it calls make is longer than what came in: it says more and counts as full. Else prove '..UptoSaid'. A law counts once. -/
mutual
def uptoBulk {H : Type} : DataW H → Nat
  | .lit (.string bytes) => bytes.length + 1
  | .lit _ => 1
  | .nil => 1
  | .ptr d => uptoBulk d + 1
  | .slice elems spare => uptoBulkAll elems + uptoBulkAll spare + 1
  | .agg parts => uptoBulkAll parts + 1
  | .iface _ d => uptoBulk d + 1
  | .map entries => uptoBulkEntries entries + 1
  | .held _ => 1
def uptoBulkAll {H : Type} : List (DataW H) → Nat
  | [] => 0
  | d :: r => uptoBulk d + uptoBulkAll r
def uptoBulkEntries {H : Type} : List (Lit × DataW H) → Nat
  | [] => 0
  | x :: r => uptoBulkEntry x + uptoBulkEntries r
def uptoBulkEntry {H : Type} : Lit × DataW H → Nat
  | (.string bytes, d) => bytes.length + uptoBulk d + 1
  | (_, d) => uptoBulk d + 1
 end
def uptoSmall : (H : Type) → List (DataW H) → Bool := fun _ ds => decide (uptoBulkAll ds ≤ 1048576)
def OpenSpec.upto (s : _root_.Go.ChangeSpec) : _root_.Go.OpenSpec := { _root_.Go.OpenSpec.ofChange s with cond := some uptoSmall }

/-- 'casematelaw19.EdPublic', WHERE WHAT IT READS IS OF BULK AT MOST 1048576: true; the input reads as it did. -/
def edPublicUptoRow : OpenClaim := { program := "ythangiocheodoaagreatdoor", sum := "65e3cbc57861f17f0f647004a01e73180e75e9b573ba40be9691a28c6f433b50", func := "casemate/casematelaw19.EdPublic", spec := "edPublic", inPlace := ["math/bits.Add64", "math/bits.Sub64"], unfollowed := true, recurses := true, named := ["casemate/curve.d", "casemate/scalar.order"], apart := false, laid := [("casemate/scalar.order", laid_casemate_scalar_order), ("casemate/curve.d", laid_casemate_curve_d)], narrowed := true }
def EdPublicUptoSaid : Prop := edPublicUptoRow.holds Tryz.pinned (OpenSpec.upto edPublicSpec)

/-- 'casematelaw19.EdSigns', WHERE WHAT IT READS IS OF BULK AT MOST 1048576: true; the input reads as it did. -/
def edSignsUptoRow : OpenClaim := { program := "ythangiocheodoaagreatdoor", sum := "65e3cbc57861f17f0f647004a01e73180e75e9b573ba40be9691a28c6f433b50", func := "casemate/casematelaw19.EdSigns", spec := "edSigns", inPlace := ["math/bits.Add64", "math/bits.Sub64"], unfollowed := true, recurses := true, named := ["casemate/curve.d", "casemate/scalar.order"], apart := false, laid := [("casemate/scalar.order", laid_casemate_scalar_order), ("casemate/curve.d", laid_casemate_curve_d)], narrowed := true }
def EdSignsUptoSaid : Prop := edSignsUptoRow.holds Tryz.pinned (OpenSpec.upto edSignsSpec)

/-- 'casematelaw19.EdTells', WHERE WHAT IT READS IS OF BULK AT MOST 1048576: true; the input reads as it did. -/
def edTellsUptoRow : OpenClaim := { program := "ythangiocheodoaagreatdoor", sum := "65e3cbc57861f17f0f647004a01e73180e75e9b573ba40be9691a28c6f433b50", func := "casemate/casematelaw19.EdTells", spec := "edTells", inPlace := ["math/bits.Sub64", "math/bits.Add64"], unfollowed := true, recurses := true, named := ["casemate/curve.d", "casemate/scalar.order"], apart := false, laid := [("casemate/scalar.order", laid_casemate_scalar_order), ("casemate/curve.d", laid_casemate_curve_d)], narrowed := true }
def EdTellsUptoSaid : Prop := edTellsUptoRow.holds Tryz.pinned (OpenSpec.upto edTellsSpec)

end Rows
end Go.Proofs.YthangiocheodoaaGreatDoor
