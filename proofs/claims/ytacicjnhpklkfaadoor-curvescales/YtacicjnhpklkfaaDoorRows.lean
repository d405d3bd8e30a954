/-
  NARROWER THAN 'FOR EVERY INPUT', by the rows' own cells (each row's printed sentence says how): CurveOn: laid · CurveAdds: laid · CurveLaws: laid · CurveScales: laid · CurvePacks: laid · CurveUnpacks: laid.
  DERIVED. THE GIVEN ROWS OF THIS SEAT. 6 by the template 'for every input the law returns true; each argument reads behind the call as it read before'; 0 by the template 'total and deterministic' (their statements: YtacicjnhpklkfaaDoorTotals.lean).
  GIVEN WITH THE SEED: the statements are not yours to turn. If you find one false, say at which input.
  Laid BY PROGRAM, IN A SANDBOX (cutbox-rows.mjs): the forced cells as the released guide's own fill.sh prints them over the translation bdfe988529771abc… (all of the seat's roots in one cut). By AI agents, Wed Nov 11 2026. No macro, syntax, notation, axiom, sorry.
-/
import Derived.Test.YtacicjnhpklkfaaDoorChecked
import GoSem.Claim
import GoSem.ClaimJoined
import GoSem.ClaimMapViews
import Derived.JoinedTies
import Derived.KernelRfl
namespace Go.Proofs.YtacicjnhpklkfaaDoor
/- THE CELL 'sum', in the pinned program and in every row, IS THE sha256 OF THE DUMP (.gsa) THAT YtacicjnhpklkfaaDoorProg.lean LOADS. Nothing in Lean hashes anything: it is a label: what it is worth is what the hold of that sum in a sandbox is worth. -/
noncomputable def Tryd.pinned : Pinned := { name := "ytacicjnhpklkfaadoor", sum := "bdfe988529771abc3e69b07d562e0dbc24076cd89f8d3092ddd1938532a17b68", checked := Tryd.checked }
namespace Rows
def none {H : Type} : Left H := { results := [], args := [] }

/- WHAT THE LISTED PACKAGE-LEVEL VARIABLES READ AS WHEN THE CALL BEGINS. Each datum BY PROGRAM (the guide's laid-datum.mjs) off the statement by which the dump's own 'gosem.cut.vars' lays the variable. In a bare row this is a premise. The card (YtacicjnhpklkfaaDoorCards.lean) ties it to the program's text. -/
def laid_casemate_curve_d {H : Type} : DataW H := .agg [.lit (.int .u8 163), .lit (.int .u8 120), .lit (.int .u8 89), .lit (.int .u8 19), .lit (.int .u8 202), .lit (.int .u8 77), .lit (.int .u8 235), .lit (.int .u8 117), .lit (.int .u8 171), .lit (.int .u8 216), .lit (.int .u8 65), .lit (.int .u8 65), .lit (.int .u8 77), .lit (.int .u8 10), .lit (.int .u8 112), .lit (.int .u8 0), .lit (.int .u8 152), .lit (.int .u8 232), .lit (.int .u8 121), .lit (.int .u8 119), .lit (.int .u8 121), .lit (.int .u8 64), .lit (.int .u8 199), .lit (.int .u8 140), .lit (.int .u8 115), .lit (.int .u8 254), .lit (.int .u8 111), .lit (.int .u8 43), .lit (.int .u8 238), .lit (.int .u8 108), .lit (.int .u8 3), .lit (.int .u8 82)]

/-- 'casematelaw17.CurveOn': WHATEVER THE INPUT: true; the input reads as it did. -/
def curveOnSpec : ChangeSpec := { name := "curveOn", fn := fun _ => fun
  | [d1, d2, d3] => { results := [.lit (.bool true)], args := [d1, d2, d3] }
  | _ => none }
def curveOnRow : OpenClaim := { program := "ytacicjnhpklkfaadoor", sum := "bdfe988529771abc3e69b07d562e0dbc24076cd89f8d3092ddd1938532a17b68", func := "casemate/casematelaw17.CurveOn", spec := "curveOn", inPlace := ["math/bits.Sub64", "math/bits.Add64"], unfollowed := true, recurses := true, named := ["casemate/curve.d"], apart := false, laid := [("casemate/curve.d", laid_casemate_curve_d)] }
def CurveOnSaid : Prop := curveOnRow.holds Tryd.pinned (OpenSpec.ofChange curveOnSpec)

/-- ITS FALSE NEIGHBOUR: 'it returns false'. Refute it at one input. -/
def curveOnWrong : ChangeSpec := { name := "curveOn", fn := fun _ => fun
  | [d1, d2, d3] => { results := [.lit (.bool false)], args := [d1, d2, d3] }
  | _ => none }
def CurveOnWrongFalsely : Prop := curveOnRow.holds Tryd.pinned (OpenSpec.ofChange curveOnWrong)

/-- 'casematelaw17.CurveAdds': WHATEVER THE INPUT: true; the input reads as it did. -/
def curveAddsSpec : ChangeSpec := { name := "curveAdds", fn := fun _ => fun
  | [d1, d2] => { results := [.lit (.bool true)], args := [d1, d2] }
  | _ => none }
def curveAddsRow : OpenClaim := { program := "ytacicjnhpklkfaadoor", sum := "bdfe988529771abc3e69b07d562e0dbc24076cd89f8d3092ddd1938532a17b68", func := "casemate/casematelaw17.CurveAdds", spec := "curveAdds", inPlace := ["math/bits.Sub64", "math/bits.Add64"], unfollowed := true, recurses := true, named := ["casemate/curve.d"], apart := false, laid := [("casemate/curve.d", laid_casemate_curve_d)] }
def CurveAddsSaid : Prop := curveAddsRow.holds Tryd.pinned (OpenSpec.ofChange curveAddsSpec)

/-- ITS FALSE NEIGHBOUR: 'it returns false'. Refute it at one input. -/
def curveAddsWrong : ChangeSpec := { name := "curveAdds", fn := fun _ => fun
  | [d1, d2] => { results := [.lit (.bool false)], args := [d1, d2] }
  | _ => none }
def CurveAddsWrongFalsely : Prop := curveAddsRow.holds Tryd.pinned (OpenSpec.ofChange curveAddsWrong)

/-- 'casematelaw17.CurveLaws': WHATEVER THE INPUT: true; the input reads as it did. -/
def curveLawsSpec : ChangeSpec := { name := "curveLaws", fn := fun _ => fun
  | [d1, d2, d3] => { results := [.lit (.bool true)], args := [d1, d2, d3] }
  | _ => none }
def curveLawsRow : OpenClaim := { program := "ytacicjnhpklkfaadoor", sum := "bdfe988529771abc3e69b07d562e0dbc24076cd89f8d3092ddd1938532a17b68", func := "casemate/casematelaw17.CurveLaws", spec := "curveLaws", inPlace := ["math/bits.Sub64", "math/bits.Add64"], unfollowed := true, recurses := true, named := ["casemate/curve.d"], apart := false, laid := [("casemate/curve.d", laid_casemate_curve_d)] }
def CurveLawsSaid : Prop := curveLawsRow.holds Tryd.pinned (OpenSpec.ofChange curveLawsSpec)

/-- ITS FALSE NEIGHBOUR: 'it returns false'. Refute it at one input. -/
def curveLawsWrong : ChangeSpec := { name := "curveLaws", fn := fun _ => fun
  | [d1, d2, d3] => { results := [.lit (.bool false)], args := [d1, d2, d3] }
  | _ => none }
def CurveLawsWrongFalsely : Prop := curveLawsRow.holds Tryd.pinned (OpenSpec.ofChange curveLawsWrong)

/-- 'casematelaw17.CurveScales': WHATEVER THE INPUT: true; the input reads as it did. -/
def curveScalesSpec : ChangeSpec := { name := "curveScales", fn := fun _ => fun
  | [d1, d2] => { results := [.lit (.bool true)], args := [d1, d2] }
  | _ => none }
def curveScalesRow : OpenClaim := { program := "ytacicjnhpklkfaadoor", sum := "bdfe988529771abc3e69b07d562e0dbc24076cd89f8d3092ddd1938532a17b68", func := "casemate/casematelaw17.CurveScales", spec := "curveScales", inPlace := ["math/bits.Sub64", "math/bits.Add64"], unfollowed := true, recurses := true, named := ["casemate/curve.d"], apart := false, laid := [("casemate/curve.d", laid_casemate_curve_d)] }
def CurveScalesSaid : Prop := curveScalesRow.holds Tryd.pinned (OpenSpec.ofChange curveScalesSpec)

/-- ITS FALSE NEIGHBOUR: 'it returns false'. Refute it at one input. -/
def curveScalesWrong : ChangeSpec := { name := "curveScales", fn := fun _ => fun
  | [d1, d2] => { results := [.lit (.bool false)], args := [d1, d2] }
  | _ => none }
def CurveScalesWrongFalsely : Prop := curveScalesRow.holds Tryd.pinned (OpenSpec.ofChange curveScalesWrong)

/-- 'casematelaw17.CurvePacks': WHATEVER THE INPUT: true; the input reads as it did. -/
def curvePacksSpec : ChangeSpec := { name := "curvePacks", fn := fun _ => fun
  | [d1, d2] => { results := [.lit (.bool true)], args := [d1, d2] }
  | _ => none }
def curvePacksRow : OpenClaim := { program := "ytacicjnhpklkfaadoor", sum := "bdfe988529771abc3e69b07d562e0dbc24076cd89f8d3092ddd1938532a17b68", func := "casemate/casematelaw17.CurvePacks", spec := "curvePacks", inPlace := ["math/bits.Sub64", "math/bits.Add64"], unfollowed := true, recurses := true, named := ["casemate/curve.d"], apart := false, laid := [("casemate/curve.d", laid_casemate_curve_d)] }
def CurvePacksSaid : Prop := curvePacksRow.holds Tryd.pinned (OpenSpec.ofChange curvePacksSpec)

/-- ITS FALSE NEIGHBOUR: 'it returns false'. Refute it at one input. -/
def curvePacksWrong : ChangeSpec := { name := "curvePacks", fn := fun _ => fun
  | [d1, d2] => { results := [.lit (.bool false)], args := [d1, d2] }
  | _ => none }
def CurvePacksWrongFalsely : Prop := curvePacksRow.holds Tryd.pinned (OpenSpec.ofChange curvePacksWrong)

/-- 'casematelaw17.CurveUnpacks': WHATEVER THE INPUT: true; the input reads as it did. -/
def curveUnpacksSpec : ChangeSpec := { name := "curveUnpacks", fn := fun _ => fun
  | [d] => { results := [.lit (.bool true)], args := [d] }
  | _ => none }
def curveUnpacksRow : OpenClaim := { program := "ytacicjnhpklkfaadoor", sum := "bdfe988529771abc3e69b07d562e0dbc24076cd89f8d3092ddd1938532a17b68", func := "casemate/casematelaw17.CurveUnpacks", spec := "curveUnpacks", inPlace := ["math/bits.Sub64", "math/bits.Add64"], unfollowed := true, recurses := true, named := ["casemate/curve.d"], apart := false, laid := [("casemate/curve.d", laid_casemate_curve_d)] }
def CurveUnpacksSaid : Prop := curveUnpacksRow.holds Tryd.pinned (OpenSpec.ofChange curveUnpacksSpec)

/-- ITS FALSE NEIGHBOUR: 'it returns false'. Refute it at one input. -/
def curveUnpacksWrong : ChangeSpec := { name := "curveUnpacks", fn := fun _ => fun
  | [d] => { results := [.lit (.bool false)], args := [d] }
  | _ => none }
def CurveUnpacksWrongFalsely : Prop := curveUnpacksRow.holds Tryd.pinned (OpenSpec.ofChange curveUnpacksWrong)

/- THE SECOND FORM. 'bulk': how many values and letters a reading holds, each counted each time it is reached (what is shared counts as often as it is met; a slice's spare places count too). A statement '..UptoSaid' is the law's where the arguments, and the package variables that the reading takes, are together of bulk at most 1048576: NARROWER than '..Said'. Prove '..Said' where nothing that the law and all that it calls make is longer than what came in: it says more and counts as full. Else prove '..UptoSaid'. A law counts once. -/
mutual
def uptoBulk {H : Type} : DataW H → Nat
  | .lit (.string bytes) => bytes.length + 1
  | .lit _ => 1
  | .nil => 1
  | .ptr d => uptoBulk d + 1
  | .slice elems spare => uptoBulkAll elems + uptoBulkAll spare + 1
  | .agg parts => uptoBulkAll parts + 1
  | .iface _ d => uptoBulk d + 1
  | .map entries => uptoBulkEntries entries + 1
  | .held _ => 1
def uptoBulkAll {H : Type} : List (DataW H) → Nat
  | [] => 0
  | d :: r => uptoBulk d + uptoBulkAll r
def uptoBulkEntries {H : Type} : List (Lit × DataW H) → Nat
  | [] => 0
  | x :: r => uptoBulkEntry x + uptoBulkEntries r
def uptoBulkEntry {H : Type} : Lit × DataW H → Nat
  | (.string bytes, d) => bytes.length + uptoBulk d + 1
  | (_, d) => uptoBulk d + 1
 end
def uptoSmall : (H : Type) → List (DataW H) → Bool := fun _ ds => decide (uptoBulkAll ds ≤ 1048576)
def OpenSpec.upto (s : _root_.Go.ChangeSpec) : _root_.Go.OpenSpec := { _root_.Go.OpenSpec.ofChange s with cond := some uptoSmall }

/-- 'casematelaw17.CurveOn', WHERE WHAT IT READS IS OF BULK AT MOST 1048576: true; the input reads as it did. -/
def curveOnUptoRow : OpenClaim := { program := "ytacicjnhpklkfaadoor", sum := "bdfe988529771abc3e69b07d562e0dbc24076cd89f8d3092ddd1938532a17b68", func := "casemate/casematelaw17.CurveOn", spec := "curveOn", inPlace := ["math/bits.Sub64", "math/bits.Add64"], unfollowed := true, recurses := true, named := ["casemate/curve.d"], apart := false, laid := [("casemate/curve.d", laid_casemate_curve_d)], narrowed := true }
def CurveOnUptoSaid : Prop := curveOnUptoRow.holds Tryd.pinned (OpenSpec.upto curveOnSpec)

/-- 'casematelaw17.CurveAdds', WHERE WHAT IT READS IS OF BULK AT MOST 1048576: true; the input reads as it did. -/
def curveAddsUptoRow : OpenClaim := { program := "ytacicjnhpklkfaadoor", sum := "bdfe988529771abc3e69b07d562e0dbc24076cd89f8d3092ddd1938532a17b68", func := "casemate/casematelaw17.CurveAdds", spec := "curveAdds", inPlace := ["math/bits.Sub64", "math/bits.Add64"], unfollowed := true, recurses := true, named := ["casemate/curve.d"], apart := false, laid := [("casemate/curve.d", laid_casemate_curve_d)], narrowed := true }
def CurveAddsUptoSaid : Prop := curveAddsUptoRow.holds Tryd.pinned (OpenSpec.upto curveAddsSpec)

/-- 'casematelaw17.CurveLaws', WHERE WHAT IT READS IS OF BULK AT MOST 1048576: true; the input reads as it did. -/
def curveLawsUptoRow : OpenClaim := { program := "ytacicjnhpklkfaadoor", sum := "bdfe988529771abc3e69b07d562e0dbc24076cd89f8d3092ddd1938532a17b68", func := "casemate/casematelaw17.CurveLaws", spec := "curveLaws", inPlace := ["math/bits.Sub64", "math/bits.Add64"], unfollowed := true, recurses := true, named := ["casemate/curve.d"], apart := false, laid := [("casemate/curve.d", laid_casemate_curve_d)], narrowed := true }
def CurveLawsUptoSaid : Prop := curveLawsUptoRow.holds Tryd.pinned (OpenSpec.upto curveLawsSpec)

/-- 'casematelaw17.CurveScales', WHERE WHAT IT READS IS OF BULK AT MOST 1048576: true; the input reads as it did. -/
def curveScalesUptoRow : OpenClaim := { program := "ytacicjnhpklkfaadoor", sum := "bdfe988529771abc3e69b07d562e0dbc24076cd89f8d3092ddd1938532a17b68", func := "casemate/casematelaw17.CurveScales", spec := "curveScales", inPlace := ["math/bits.Sub64", "math/bits.Add64"], unfollowed := true, recurses := true, named := ["casemate/curve.d"], apart := false, laid := [("casemate/curve.d", laid_casemate_curve_d)], narrowed := true }
def CurveScalesUptoSaid : Prop := curveScalesUptoRow.holds Tryd.pinned (OpenSpec.upto curveScalesSpec)

/-- 'casematelaw17.CurvePacks', WHERE WHAT IT READS IS OF BULK AT MOST 1048576: true; the input reads as it did. -/
def curvePacksUptoRow : OpenClaim := { program := "ytacicjnhpklkfaadoor", sum := "bdfe988529771abc3e69b07d562e0dbc24076cd89f8d3092ddd1938532a17b68", func := "casemate/casematelaw17.CurvePacks", spec := "curvePacks", inPlace := ["math/bits.Sub64", "math/bits.Add64"], unfollowed := true, recurses := true, named := ["casemate/curve.d"], apart := false, laid := [("casemate/curve.d", laid_casemate_curve_d)], narrowed := true }
def CurvePacksUptoSaid : Prop := curvePacksUptoRow.holds Tryd.pinned (OpenSpec.upto curvePacksSpec)

/-- 'casematelaw17.CurveUnpacks', WHERE WHAT IT READS IS OF BULK AT MOST 1048576: true; the input reads as it did. -/
def curveUnpacksUptoRow : OpenClaim := { program := "ytacicjnhpklkfaadoor", sum := "bdfe988529771abc3e69b07d562e0dbc24076cd89f8d3092ddd1938532a17b68", func := "casemate/casematelaw17.CurveUnpacks", spec := "curveUnpacks", inPlace := ["math/bits.Sub64", "math/bits.Add64"], unfollowed := true, recurses := true, named := ["casemate/curve.d"], apart := false, laid := [("casemate/curve.d", laid_casemate_curve_d)], narrowed := true }
def CurveUnpacksUptoSaid : Prop := curveUnpacksUptoRow.holds Tryd.pinned (OpenSpec.upto curveUnpacksSpec)

end Rows
end Go.Proofs.YtacicjnhpklkfaaDoor
