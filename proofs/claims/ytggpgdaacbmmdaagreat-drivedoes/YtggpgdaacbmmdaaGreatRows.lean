/-
  No cell of these rows narrows 'for every input' (looked for: loops, veiled, ifaces, maps, wideKeys, modest, calm, conditions, laid).
  DERIVED. THE GIVEN ROWS OF THIS SEAT. 6 by the template 'for every input the law returns true; each argument reads behind the call as it read before'; 0 by the template 'total and deterministic' (their statements: YtggpgdaacbmmdaaGreatTotals.lean).
  GIVEN WITH THE SEED: the statements are not yours to turn. If you find one false, say at which input.
  Laid BY PROGRAM, IN A SANDBOX (cutbox-rows.mjs): the forced cells as the released guide's own fill.sh prints them over the translation 49e63c0303ef354a… (all of the seat's roots in one cut). By AI agents, Wed Nov 11 2026. No macro, syntax, notation, axiom, sorry.
-/
import Derived.Test.YtggpgdaacbmmdaaGreatChecked
import GoSem.Claim
import GoSem.ClaimJoined
import GoSem.ClaimMapViews
import Derived.JoinedTies
import Derived.KernelRfl
namespace Go.Proofs.YtggpgdaacbmmdaaGreat
/- THE CELL 'sum', in the pinned program and in every row, IS THE sha256 OF THE DUMP (.gsa) THAT YtggpgdaacbmmdaaGreatProg.lean LOADS. Nothing in Lean hashes anything: it is a label: what it is worth is what the hold of that sum in a sandbox is worth. -/
noncomputable def Tryz.pinned : Pinned := { name := "ytggpgdaacbmmdaagreat", sum := "49e63c0303ef354a09113248d72987ea2c24792e9b70cacf920566920c2a4572", checked := Tryz.checked }
namespace Rows
def none {H : Type} : Left H := { results := [], args := [] }

/-- 'casematelaw08.DriveDoes': WHATEVER THE INPUT: true; the input reads as it did. -/
def driveDoesSpec : ChangeSpec := { name := "driveDoes", fn := fun _ => fun
  | [d1, d2] => { results := [.lit (.bool true)], args := [d1, d2] }
  | _ => none }
def driveDoesRow : OpenClaim := { program := "ytggpgdaacbmmdaagreat", sum := "49e63c0303ef354a09113248d72987ea2c24792e9b70cacf920566920c2a4572", func := "casemate/casematelaw08.DriveDoes", spec := "driveDoes", unfollowed := true, recurses := true, plainKeys := false, apart := false }
def DriveDoesSaid : Prop := driveDoesRow.holds Tryz.pinned (OpenSpec.ofChange driveDoesSpec)

/-- ITS FALSE NEIGHBOUR: 'it returns false'. Refute it at one input. -/
def driveDoesWrong : ChangeSpec := { name := "driveDoes", fn := fun _ => fun
  | [d1, d2] => { results := [.lit (.bool false)], args := [d1, d2] }
  | _ => none }
def DriveDoesWrongFalsely : Prop := driveDoesRow.holds Tryz.pinned (OpenSpec.ofChange driveDoesWrong)

/-- 'casematelaw08.DriveReads': WHATEVER THE INPUT: true; the input reads as it did. -/
def driveReadsSpec : ChangeSpec := { name := "driveReads", fn := fun _ => fun
  | [d1, d2, d3, d4] => { results := [.lit (.bool true)], args := [d1, d2, d3, d4] }
  | _ => none }
def driveReadsRow : OpenClaim := { program := "ytggpgdaacbmmdaagreat", sum := "49e63c0303ef354a09113248d72987ea2c24792e9b70cacf920566920c2a4572", func := "casemate/casematelaw08.DriveReads", spec := "driveReads", unfollowed := true, recurses := true, plainKeys := false, apart := false }
def DriveReadsSaid : Prop := driveReadsRow.holds Tryz.pinned (OpenSpec.ofChange driveReadsSpec)

/-- ITS FALSE NEIGHBOUR: 'it returns false'. Refute it at one input. -/
def driveReadsWrong : ChangeSpec := { name := "driveReads", fn := fun _ => fun
  | [d1, d2, d3, d4] => { results := [.lit (.bool false)], args := [d1, d2, d3, d4] }
  | _ => none }
def DriveReadsWrongFalsely : Prop := driveReadsRow.holds Tryz.pinned (OpenSpec.ofChange driveReadsWrong)

/-- 'casematelaw08.DriveBad': WHATEVER THE INPUT: true; the input reads as it did. -/
def driveBadSpec : ChangeSpec := { name := "driveBad", fn := fun _ => fun
  | [d1, d2, d3] => { results := [.lit (.bool true)], args := [d1, d2, d3] }
  | _ => none }
def driveBadRow : OpenClaim := { program := "ytggpgdaacbmmdaagreat", sum := "49e63c0303ef354a09113248d72987ea2c24792e9b70cacf920566920c2a4572", func := "casemate/casematelaw08.DriveBad", spec := "driveBad", unfollowed := true, recurses := true, plainKeys := false, apart := false }
def DriveBadSaid : Prop := driveBadRow.holds Tryz.pinned (OpenSpec.ofChange driveBadSpec)

/-- ITS FALSE NEIGHBOUR: 'it returns false'. Refute it at one input. -/
def driveBadWrong : ChangeSpec := { name := "driveBad", fn := fun _ => fun
  | [d1, d2, d3] => { results := [.lit (.bool false)], args := [d1, d2, d3] }
  | _ => none }
def DriveBadWrongFalsely : Prop := driveBadRow.holds Tryz.pinned (OpenSpec.ofChange driveBadWrong)

/-- 'casematelaw08.DriveNil': WHATEVER THE INPUT: true; the input reads as it did. -/
def driveNilSpec : ChangeSpec := { name := "driveNil", fn := fun _ => fun
  | [d1, d2, d3] => { results := [.lit (.bool true)], args := [d1, d2, d3] }
  | _ => none }
def driveNilRow : OpenClaim := { program := "ytggpgdaacbmmdaagreat", sum := "49e63c0303ef354a09113248d72987ea2c24792e9b70cacf920566920c2a4572", func := "casemate/casematelaw08.DriveNil", spec := "driveNil", unfollowed := true, recurses := true, plainKeys := false, apart := false }
def DriveNilSaid : Prop := driveNilRow.holds Tryz.pinned (OpenSpec.ofChange driveNilSpec)

/-- ITS FALSE NEIGHBOUR: 'it returns false'. Refute it at one input. -/
def driveNilWrong : ChangeSpec := { name := "driveNil", fn := fun _ => fun
  | [d1, d2, d3] => { results := [.lit (.bool false)], args := [d1, d2, d3] }
  | _ => none }
def DriveNilWrongFalsely : Prop := driveNilRow.holds Tryz.pinned (OpenSpec.ofChange driveNilWrong)

/-- 'casematelaw08.DriveTorn': WHATEVER THE INPUT: true; the input reads as it did. -/
def driveTornSpec : ChangeSpec := { name := "driveTorn", fn := fun _ => fun
  | [d1, d2, d3] => { results := [.lit (.bool true)], args := [d1, d2, d3] }
  | _ => none }
def driveTornRow : OpenClaim := { program := "ytggpgdaacbmmdaagreat", sum := "49e63c0303ef354a09113248d72987ea2c24792e9b70cacf920566920c2a4572", func := "casemate/casematelaw08.DriveTorn", spec := "driveTorn", unfollowed := true, recurses := true, plainKeys := false, apart := false }
def DriveTornSaid : Prop := driveTornRow.holds Tryz.pinned (OpenSpec.ofChange driveTornSpec)

/-- ITS FALSE NEIGHBOUR: 'it returns false'. Refute it at one input. -/
def driveTornWrong : ChangeSpec := { name := "driveTorn", fn := fun _ => fun
  | [d1, d2, d3] => { results := [.lit (.bool false)], args := [d1, d2, d3] }
  | _ => none }
def DriveTornWrongFalsely : Prop := driveTornRow.holds Tryz.pinned (OpenSpec.ofChange driveTornWrong)

/-- 'casematelaw08.DriveOthers': WHATEVER THE INPUT: true; the input reads as it did. -/
def driveOthersSpec : ChangeSpec := { name := "driveOthers", fn := fun _ => fun
  | [d1, d2, d3, d4] => { results := [.lit (.bool true)], args := [d1, d2, d3, d4] }
  | _ => none }
def driveOthersRow : OpenClaim := { program := "ytggpgdaacbmmdaagreat", sum := "49e63c0303ef354a09113248d72987ea2c24792e9b70cacf920566920c2a4572", func := "casemate/casematelaw08.DriveOthers", spec := "driveOthers", unfollowed := true, recurses := true, plainKeys := false, apart := false }
def DriveOthersSaid : Prop := driveOthersRow.holds Tryz.pinned (OpenSpec.ofChange driveOthersSpec)

/-- ITS FALSE NEIGHBOUR: 'it returns false'. Refute it at one input. -/
def driveOthersWrong : ChangeSpec := { name := "driveOthers", fn := fun _ => fun
  | [d1, d2, d3, d4] => { results := [.lit (.bool false)], args := [d1, d2, d3, d4] }
  | _ => none }
def DriveOthersWrongFalsely : Prop := driveOthersRow.holds Tryz.pinned (OpenSpec.ofChange driveOthersWrong)

/- THE SECOND FORM. 'bulk': how many values and letters a reading holds, each counted each time it is reached (what is shared counts as often as it is met; a slice's spare places count too). A statement '..UptoSaid' is the law's where the arguments, and the package variables that the reading takes, are together of bulk at most 1048576: NARROWER than '..Said'. Prove '..Said' where nothing that the law and all that it calls make is longer than what came in: it says more and counts as full. Else prove '..UptoSaid'. A law counts once. -/
mutual
def uptoBulk {H : Type} : DataW H → Nat
  | .lit (.string bytes) => bytes.length + 1
  | .lit _ => 1
  | .nil => 1
  | .ptr d => uptoBulk d + 1
  | .slice elems spare => uptoBulkAll elems + uptoBulkAll spare + 1
  | .agg parts => uptoBulkAll parts + 1
  | .iface _ d => uptoBulk d + 1
  | .map entries => uptoBulkEntries entries + 1
  | .held _ => 1
def uptoBulkAll {H : Type} : List (DataW H) → Nat
  | [] => 0
  | d :: r => uptoBulk d + uptoBulkAll r
def uptoBulkEntries {H : Type} : List (Lit × DataW H) → Nat
  | [] => 0
  | x :: r => uptoBulkEntry x + uptoBulkEntries r
def uptoBulkEntry {H : Type} : Lit × DataW H → Nat
  | (.string bytes, d) => bytes.length + uptoBulk d + 1
  | (_, d) => uptoBulk d + 1
 end
def uptoSmall : (H : Type) → List (DataW H) → Bool := fun _ ds => decide (uptoBulkAll ds ≤ 1048576)
def OpenSpec.upto (s : _root_.Go.ChangeSpec) : _root_.Go.OpenSpec := { _root_.Go.OpenSpec.ofChange s with cond := some uptoSmall }

/-- 'casematelaw08.DriveDoes', WHERE WHAT IT READS IS OF BULK AT MOST 1048576: true; the input reads as it did. -/
def driveDoesUptoRow : OpenClaim := { program := "ytggpgdaacbmmdaagreat", sum := "49e63c0303ef354a09113248d72987ea2c24792e9b70cacf920566920c2a4572", func := "casemate/casematelaw08.DriveDoes", spec := "driveDoes", unfollowed := true, recurses := true, plainKeys := false, apart := false, narrowed := true }
def DriveDoesUptoSaid : Prop := driveDoesUptoRow.holds Tryz.pinned (OpenSpec.upto driveDoesSpec)

/-- 'casematelaw08.DriveReads', WHERE WHAT IT READS IS OF BULK AT MOST 1048576: true; the input reads as it did. -/
def driveReadsUptoRow : OpenClaim := { program := "ytggpgdaacbmmdaagreat", sum := "49e63c0303ef354a09113248d72987ea2c24792e9b70cacf920566920c2a4572", func := "casemate/casematelaw08.DriveReads", spec := "driveReads", unfollowed := true, recurses := true, plainKeys := false, apart := false, narrowed := true }
def DriveReadsUptoSaid : Prop := driveReadsUptoRow.holds Tryz.pinned (OpenSpec.upto driveReadsSpec)

/-- 'casematelaw08.DriveBad', WHERE WHAT IT READS IS OF BULK AT MOST 1048576: true; the input reads as it did. -/
def driveBadUptoRow : OpenClaim := { program := "ytggpgdaacbmmdaagreat", sum := "49e63c0303ef354a09113248d72987ea2c24792e9b70cacf920566920c2a4572", func := "casemate/casematelaw08.DriveBad", spec := "driveBad", unfollowed := true, recurses := true, plainKeys := false, apart := false, narrowed := true }
def DriveBadUptoSaid : Prop := driveBadUptoRow.holds Tryz.pinned (OpenSpec.upto driveBadSpec)

/-- 'casematelaw08.DriveNil', WHERE WHAT IT READS IS OF BULK AT MOST 1048576: true; the input reads as it did. -/
def driveNilUptoRow : OpenClaim := { program := "ytggpgdaacbmmdaagreat", sum := "49e63c0303ef354a09113248d72987ea2c24792e9b70cacf920566920c2a4572", func := "casemate/casematelaw08.DriveNil", spec := "driveNil", unfollowed := true, recurses := true, plainKeys := false, apart := false, narrowed := true }
def DriveNilUptoSaid : Prop := driveNilUptoRow.holds Tryz.pinned (OpenSpec.upto driveNilSpec)

/-- 'casematelaw08.DriveTorn', WHERE WHAT IT READS IS OF BULK AT MOST 1048576: true; the input reads as it did. -/
def driveTornUptoRow : OpenClaim := { program := "ytggpgdaacbmmdaagreat", sum := "49e63c0303ef354a09113248d72987ea2c24792e9b70cacf920566920c2a4572", func := "casemate/casematelaw08.DriveTorn", spec := "driveTorn", unfollowed := true, recurses := true, plainKeys := false, apart := false, narrowed := true }
def DriveTornUptoSaid : Prop := driveTornUptoRow.holds Tryz.pinned (OpenSpec.upto driveTornSpec)

/-- 'casematelaw08.DriveOthers', WHERE WHAT IT READS IS OF BULK AT MOST 1048576: true; the input reads as it did. -/
def driveOthersUptoRow : OpenClaim := { program := "ytggpgdaacbmmdaagreat", sum := "49e63c0303ef354a09113248d72987ea2c24792e9b70cacf920566920c2a4572", func := "casemate/casematelaw08.DriveOthers", spec := "driveOthers", unfollowed := true, recurses := true, plainKeys := false, apart := false, narrowed := true }
def DriveOthersUptoSaid : Prop := driveOthersUptoRow.holds Tryz.pinned (OpenSpec.upto driveOthersSpec)

end Rows
end Go.Proofs.YtggpgdaacbmmdaaGreat
