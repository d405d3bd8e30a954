/-
  NARROWER THAN 'FOR EVERY INPUT', by the rows' own cells (each row's printed sentence says how): ScalarReckons: laid · ScalarLaws: laid · ScalarScales: laid · ScalarGroups: laid.
  DERIVED. THE GIVEN ROWS OF THIS SEAT. 4 by the template 'for every input the law returns true; each argument reads behind the call as it read before'; 0 by the template 'total and deterministic' (their statements: YtgofapndgjfnhaaDoorTotals.lean).
  GIVEN WITH THE SEED: the statements are not yours to turn. If you find one false, say at which input.
  Laid BY PROGRAM, IN A SANDBOX (cutbox-rows.mjs): the forced cells as the released guide's own fill.sh prints them over the translation 3723ea56e22b3d1f… (all of the seat's roots in one cut). By AI agents, Wed Nov 11 2026. No macro, syntax, notation, axiom, sorry.
-/
import Derived.Test.YtgofapndgjfnhaaDoorChecked
import GoSem.Claim
import GoSem.ClaimJoined
import GoSem.ClaimMapViews
import Derived.JoinedTies
import Derived.KernelRfl
namespace Go.Proofs.YtgofapndgjfnhaaDoor
/- THE CELL 'sum', in the pinned program and in every row, IS THE sha256 OF THE DUMP (.gsa) THAT YtgofapndgjfnhaaDoorProg.lean LOADS. Nothing in Lean hashes anything: it is a label: what it is worth is what the hold of that sum in a sandbox is worth. -/
noncomputable def Tryd.pinned : Pinned := { name := "ytgofapndgjfnhaadoor", sum := "3723ea56e22b3d1f6d94b60b84ef2b045b879cf8375c1046f753063d99dd496e", checked := Tryd.checked }
namespace Rows
def none {H : Type} : Left H := { results := [], args := [] }

/- WHAT THE LISTED PACKAGE-LEVEL VARIABLES READ AS WHEN THE CALL BEGINS. Each datum BY PROGRAM (the guide's laid-datum.mjs) off the statement by which the dump's own 'gosem.cut.vars' lays the variable. In a bare row this is a premise. The card (YtgofapndgjfnhaaDoorCards.lean) ties it to the program's text. -/
def laid_casemate_scalar_order {H : Type} : DataW H := .agg [.lit (.int .u8 237), .lit (.int .u8 211), .lit (.int .u8 245), .lit (.int .u8 92), .lit (.int .u8 26), .lit (.int .u8 99), .lit (.int .u8 18), .lit (.int .u8 88), .lit (.int .u8 214), .lit (.int .u8 156), .lit (.int .u8 247), .lit (.int .u8 162), .lit (.int .u8 222), .lit (.int .u8 249), .lit (.int .u8 222), .lit (.int .u8 20), .lit (.int .u8 0), .lit (.int .u8 0), .lit (.int .u8 0), .lit (.int .u8 0), .lit (.int .u8 0), .lit (.int .u8 0), .lit (.int .u8 0), .lit (.int .u8 0), .lit (.int .u8 0), .lit (.int .u8 0), .lit (.int .u8 0), .lit (.int .u8 0), .lit (.int .u8 0), .lit (.int .u8 0), .lit (.int .u8 0), .lit (.int .u8 16)]
def laid_casemate_curve_d {H : Type} : DataW H := .agg [.lit (.int .u8 163), .lit (.int .u8 120), .lit (.int .u8 89), .lit (.int .u8 19), .lit (.int .u8 202), .lit (.int .u8 77), .lit (.int .u8 235), .lit (.int .u8 117), .lit (.int .u8 171), .lit (.int .u8 216), .lit (.int .u8 65), .lit (.int .u8 65), .lit (.int .u8 77), .lit (.int .u8 10), .lit (.int .u8 112), .lit (.int .u8 0), .lit (.int .u8 152), .lit (.int .u8 232), .lit (.int .u8 121), .lit (.int .u8 119), .lit (.int .u8 121), .lit (.int .u8 64), .lit (.int .u8 199), .lit (.int .u8 140), .lit (.int .u8 115), .lit (.int .u8 254), .lit (.int .u8 111), .lit (.int .u8 43), .lit (.int .u8 238), .lit (.int .u8 108), .lit (.int .u8 3), .lit (.int .u8 82)]

/-- 'casematelaw18.ScalarReckons': WHATEVER THE INPUT: true; the input reads as it did. -/
def scalarReckonsSpec : ChangeSpec := { name := "scalarReckons", fn := fun _ => fun
  | [d1, d2, d3, d4] => { results := [.lit (.bool true)], args := [d1, d2, d3, d4] }
  | _ => none }
def scalarReckonsRow : OpenClaim := { program := "ytgofapndgjfnhaadoor", sum := "3723ea56e22b3d1f6d94b60b84ef2b045b879cf8375c1046f753063d99dd496e", func := "casemate/casematelaw18.ScalarReckons", spec := "scalarReckons", unfollowed := true, recurses := true, named := ["casemate/scalar.order"], apart := false, laid := [("casemate/scalar.order", laid_casemate_scalar_order)] }
def ScalarReckonsSaid : Prop := scalarReckonsRow.holds Tryd.pinned (OpenSpec.ofChange scalarReckonsSpec)

/-- ITS FALSE NEIGHBOUR: 'it returns false'. Refute it at one input. -/
def scalarReckonsWrong : ChangeSpec := { name := "scalarReckons", fn := fun _ => fun
  | [d1, d2, d3, d4] => { results := [.lit (.bool false)], args := [d1, d2, d3, d4] }
  | _ => none }
def ScalarReckonsWrongFalsely : Prop := scalarReckonsRow.holds Tryd.pinned (OpenSpec.ofChange scalarReckonsWrong)

/-- 'casematelaw18.ScalarLaws': WHATEVER THE INPUT: true; the input reads as it did. -/
def scalarLawsSpec : ChangeSpec := { name := "scalarLaws", fn := fun _ => fun
  | [d1, d2, d3] => { results := [.lit (.bool true)], args := [d1, d2, d3] }
  | _ => none }
def scalarLawsRow : OpenClaim := { program := "ytgofapndgjfnhaadoor", sum := "3723ea56e22b3d1f6d94b60b84ef2b045b879cf8375c1046f753063d99dd496e", func := "casemate/casematelaw18.ScalarLaws", spec := "scalarLaws", unfollowed := true, recurses := true, named := ["casemate/scalar.order"], apart := false, laid := [("casemate/scalar.order", laid_casemate_scalar_order)] }
def ScalarLawsSaid : Prop := scalarLawsRow.holds Tryd.pinned (OpenSpec.ofChange scalarLawsSpec)

/-- ITS FALSE NEIGHBOUR: 'it returns false'. Refute it at one input. -/
def scalarLawsWrong : ChangeSpec := { name := "scalarLaws", fn := fun _ => fun
  | [d1, d2, d3] => { results := [.lit (.bool false)], args := [d1, d2, d3] }
  | _ => none }
def ScalarLawsWrongFalsely : Prop := scalarLawsRow.holds Tryd.pinned (OpenSpec.ofChange scalarLawsWrong)

/-- 'casematelaw18.ScalarScales': WHATEVER THE INPUT: true; the input reads as it did. -/
def scalarScalesSpec : ChangeSpec := { name := "scalarScales", fn := fun _ => fun
  | [d] => { results := [.lit (.bool true)], args := [d] }
  | _ => none }
def scalarScalesRow : OpenClaim := { program := "ytgofapndgjfnhaadoor", sum := "3723ea56e22b3d1f6d94b60b84ef2b045b879cf8375c1046f753063d99dd496e", func := "casemate/casematelaw18.ScalarScales", spec := "scalarScales", inPlace := ["math/bits.Sub64", "math/bits.Add64"], unfollowed := true, recurses := true, named := ["casemate/scalar.order", "casemate/curve.d"], apart := false, laid := [("casemate/scalar.order", laid_casemate_scalar_order), ("casemate/curve.d", laid_casemate_curve_d)] }
def ScalarScalesSaid : Prop := scalarScalesRow.holds Tryd.pinned (OpenSpec.ofChange scalarScalesSpec)

/-- ITS FALSE NEIGHBOUR: 'it returns false'. Refute it at one input. -/
def scalarScalesWrong : ChangeSpec := { name := "scalarScales", fn := fun _ => fun
  | [d] => { results := [.lit (.bool false)], args := [d] }
  | _ => none }
def ScalarScalesWrongFalsely : Prop := scalarScalesRow.holds Tryd.pinned (OpenSpec.ofChange scalarScalesWrong)

/-- 'casematelaw18.ScalarGroups': WHATEVER THE INPUT: true; the input reads as it did. -/
def scalarGroupsSpec : ChangeSpec := { name := "scalarGroups", fn := fun _ => fun
  | [d1, d2, d3] => { results := [.lit (.bool true)], args := [d1, d2, d3] }
  | _ => none }
def scalarGroupsRow : OpenClaim := { program := "ytgofapndgjfnhaadoor", sum := "3723ea56e22b3d1f6d94b60b84ef2b045b879cf8375c1046f753063d99dd496e", func := "casemate/casematelaw18.ScalarGroups", spec := "scalarGroups", unfollowed := true, recurses := true, named := ["casemate/scalar.order"], apart := false, laid := [("casemate/scalar.order", laid_casemate_scalar_order)] }
def ScalarGroupsSaid : Prop := scalarGroupsRow.holds Tryd.pinned (OpenSpec.ofChange scalarGroupsSpec)

/-- ITS FALSE NEIGHBOUR: 'it returns false'. Refute it at one input. -/
def scalarGroupsWrong : ChangeSpec := { name := "scalarGroups", fn := fun _ => fun
  | [d1, d2, d3] => { results := [.lit (.bool false)], args := [d1, d2, d3] }
  | _ => none }
def ScalarGroupsWrongFalsely : Prop := scalarGroupsRow.holds Tryd.pinned (OpenSpec.ofChange scalarGroupsWrong)

/- THE SECOND FORM. 'bulk': how many values and letters a reading holds, each counted each time it is reached (what is shared counts as often as it is met; a slice's spare places count too). A statement '..UptoSaid' is the law's where the arguments, and the package variables that the reading takes, are together of bulk at most 1048576: NARROWER than '..Said'. Prove '..Said' where nothing that the law and all that it calls make is longer than what came in: it says more and counts as full. Else prove '..UptoSaid'. A law counts once. -/
mutual
def uptoBulk {H : Type} : DataW H → Nat
  | .lit (.string bytes) => bytes.length + 1
  | .lit _ => 1
  | .nil => 1
  | .ptr d => uptoBulk d + 1
  | .slice elems spare => uptoBulkAll elems + uptoBulkAll spare + 1
  | .agg parts => uptoBulkAll parts + 1
  | .iface _ d => uptoBulk d + 1
  | .map entries => uptoBulkEntries entries + 1
  | .held _ => 1
def uptoBulkAll {H : Type} : List (DataW H) → Nat
  | [] => 0
  | d :: r => uptoBulk d + uptoBulkAll r
def uptoBulkEntries {H : Type} : List (Lit × DataW H) → Nat
  | [] => 0
  | x :: r => uptoBulkEntry x + uptoBulkEntries r
def uptoBulkEntry {H : Type} : Lit × DataW H → Nat
  | (.string bytes, d) => bytes.length + uptoBulk d + 1
  | (_, d) => uptoBulk d + 1
 end
def uptoSmall : (H : Type) → List (DataW H) → Bool := fun _ ds => decide (uptoBulkAll ds ≤ 1048576)
def OpenSpec.upto (s : _root_.Go.ChangeSpec) : _root_.Go.OpenSpec := { _root_.Go.OpenSpec.ofChange s with cond := some uptoSmall }

/-- 'casematelaw18.ScalarReckons', WHERE WHAT IT READS IS OF BULK AT MOST 1048576: true; the input reads as it did. -/
def scalarReckonsUptoRow : OpenClaim := { program := "ytgofapndgjfnhaadoor", sum := "3723ea56e22b3d1f6d94b60b84ef2b045b879cf8375c1046f753063d99dd496e", func := "casemate/casematelaw18.ScalarReckons", spec := "scalarReckons", unfollowed := true, recurses := true, named := ["casemate/scalar.order"], apart := false, laid := [("casemate/scalar.order", laid_casemate_scalar_order)], narrowed := true }
def ScalarReckonsUptoSaid : Prop := scalarReckonsUptoRow.holds Tryd.pinned (OpenSpec.upto scalarReckonsSpec)

/-- 'casematelaw18.ScalarLaws', WHERE WHAT IT READS IS OF BULK AT MOST 1048576: true; the input reads as it did. -/
def scalarLawsUptoRow : OpenClaim := { program := "ytgofapndgjfnhaadoor", sum := "3723ea56e22b3d1f6d94b60b84ef2b045b879cf8375c1046f753063d99dd496e", func := "casemate/casematelaw18.ScalarLaws", spec := "scalarLaws", unfollowed := true, recurses := true, named := ["casemate/scalar.order"], apart := false, laid := [("casemate/scalar.order", laid_casemate_scalar_order)], narrowed := true }
def ScalarLawsUptoSaid : Prop := scalarLawsUptoRow.holds Tryd.pinned (OpenSpec.upto scalarLawsSpec)

/-- 'casematelaw18.ScalarScales', WHERE WHAT IT READS IS OF BULK AT MOST 1048576: true; the input reads as it did. -/
def scalarScalesUptoRow : OpenClaim := { program := "ytgofapndgjfnhaadoor", sum := "3723ea56e22b3d1f6d94b60b84ef2b045b879cf8375c1046f753063d99dd496e", func := "casemate/casematelaw18.ScalarScales", spec := "scalarScales", inPlace := ["math/bits.Sub64", "math/bits.Add64"], unfollowed := true, recurses := true, named := ["casemate/scalar.order", "casemate/curve.d"], apart := false, laid := [("casemate/scalar.order", laid_casemate_scalar_order), ("casemate/curve.d", laid_casemate_curve_d)], narrowed := true }
def ScalarScalesUptoSaid : Prop := scalarScalesUptoRow.holds Tryd.pinned (OpenSpec.upto scalarScalesSpec)

/-- 'casematelaw18.ScalarGroups', WHERE WHAT IT READS IS OF BULK AT MOST 1048576: true; the input reads as it did. -/
def scalarGroupsUptoRow : OpenClaim := { program := "ytgofapndgjfnhaadoor", sum := "3723ea56e22b3d1f6d94b60b84ef2b045b879cf8375c1046f753063d99dd496e", func := "casemate/casematelaw18.ScalarGroups", spec := "scalarGroups", unfollowed := true, recurses := true, named := ["casemate/scalar.order"], apart := false, laid := [("casemate/scalar.order", laid_casemate_scalar_order)], narrowed := true }
def ScalarGroupsUptoSaid : Prop := scalarGroupsUptoRow.holds Tryd.pinned (OpenSpec.upto scalarGroupsSpec)

end Rows
end Go.Proofs.YtgofapndgjfnhaaDoor
