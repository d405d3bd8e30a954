/-
  NARROWER THAN 'FOR EVERY INPUT', by the rows' own cells (each row's printed sentence says how): ImageMakes: laid · ImageChecks: laid · ImageLaunches: laid · ImageSound: laid · ImageData: laid.
  DERIVED. THE GIVEN ROWS OF THIS SEAT. 5 by the template 'for every input the law returns true; each argument reads behind the call as it read before'; 0 by the template 'total and deterministic' (their statements: YtcaloldcihpkfaaGreatDoorTotals.lean).
  GIVEN WITH THE SEED: the statements are not yours to turn. If you find one false, say at which input.
  Laid BY PROGRAM, IN A SANDBOX (cutbox-rows.mjs): the forced cells as the released guide's own fill.sh prints them over the translation 5447d915c175cb06… (all of the seat's roots in one cut). By AI agents, Wed Nov 11 2026. No macro, syntax, notation, axiom, sorry.
-/
import Derived.Test.YtcaloldcihpkfaaGreatDoorChecked
import GoSem.Claim
import GoSem.ClaimJoined
import GoSem.ClaimMapViews
import Derived.JoinedTies
import Derived.KernelRfl
namespace Go.Proofs.YtcaloldcihpkfaaGreatDoor
/- THE CELL 'sum', in the pinned program and in every row, IS THE sha256 OF THE DUMP (.gsa) THAT YtcaloldcihpkfaaGreatDoorProg.lean LOADS. Nothing in Lean hashes anything: it is a label: what it is worth is what the hold of that sum in a sandbox is worth. -/
noncomputable def Tryz.pinned : Pinned := { name := "ytcaloldcihpkfaagreatdoor", sum := "5447d915c175cb0609c8a64211224e0c840be6fbca36ebc2ee59f695f92da847", checked := Tryz.checked }
namespace Rows
def none {H : Type} : Left H := { results := [], args := [] }

/- WHAT THE LISTED PACKAGE-LEVEL VARIABLES READ AS WHEN THE CALL BEGINS. Each datum BY PROGRAM (the guide's laid-datum.mjs) off the statement by which the dump's own 'gosem.cut.vars' lays the variable. In a bare row this is a premise. The card (YtcaloldcihpkfaaGreatDoorCards.lean) ties it to the program's text. -/
def laid_casemate_scalar_order {H : Type} : DataW H := .agg [.lit (.int .u8 237), .lit (.int .u8 211), .lit (.int .u8 245), .lit (.int .u8 92), .lit (.int .u8 26), .lit (.int .u8 99), .lit (.int .u8 18), .lit (.int .u8 88), .lit (.int .u8 214), .lit (.int .u8 156), .lit (.int .u8 247), .lit (.int .u8 162), .lit (.int .u8 222), .lit (.int .u8 249), .lit (.int .u8 222), .lit (.int .u8 20), .lit (.int .u8 0), .lit (.int .u8 0), .lit (.int .u8 0), .lit (.int .u8 0), .lit (.int .u8 0), .lit (.int .u8 0), .lit (.int .u8 0), .lit (.int .u8 0), .lit (.int .u8 0), .lit (.int .u8 0), .lit (.int .u8 0), .lit (.int .u8 0), .lit (.int .u8 0), .lit (.int .u8 0), .lit (.int .u8 0), .lit (.int .u8 16)]
def laid_casemate_curve_d {H : Type} : DataW H := .agg [.lit (.int .u8 163), .lit (.int .u8 120), .lit (.int .u8 89), .lit (.int .u8 19), .lit (.int .u8 202), .lit (.int .u8 77), .lit (.int .u8 235), .lit (.int .u8 117), .lit (.int .u8 171), .lit (.int .u8 216), .lit (.int .u8 65), .lit (.int .u8 65), .lit (.int .u8 77), .lit (.int .u8 10), .lit (.int .u8 112), .lit (.int .u8 0), .lit (.int .u8 152), .lit (.int .u8 232), .lit (.int .u8 121), .lit (.int .u8 119), .lit (.int .u8 121), .lit (.int .u8 64), .lit (.int .u8 199), .lit (.int .u8 140), .lit (.int .u8 115), .lit (.int .u8 254), .lit (.int .u8 111), .lit (.int .u8 43), .lit (.int .u8 238), .lit (.int .u8 108), .lit (.int .u8 3), .lit (.int .u8 82)]

/-- 'casematelaw23.ImageMakes': WHATEVER THE INPUT: true; the input reads as it did. -/
def imageMakesSpec : ChangeSpec := { name := "imageMakes", fn := fun _ => fun
  | [d1, d2, d3] => { results := [.lit (.bool true)], args := [d1, d2, d3] }
  | _ => none }
def imageMakesRow : OpenClaim := { program := "ytcaloldcihpkfaagreatdoor", sum := "5447d915c175cb0609c8a64211224e0c840be6fbca36ebc2ee59f695f92da847", func := "casemate/casematelaw23.ImageMakes", spec := "imageMakes", inPlace := ["sync/atomic.LoadUint32", "(*internal/sync.Mutex).Lock", "internal/race.Disable", "sync/atomic.CompareAndSwapInt32", "internal/race.Enable", "internal/race.Acquire", "(*internal/sync.Mutex).lockSlow", "internal/sync.runtime_canSpin", "internal/sync.runtime_doSpin", "internal/sync.throw", "internal/sync.runtime_nanotime", "internal/sync.runtime_SemacquireMutex", "sync/atomic.AddInt32", "(*internal/sync.Mutex).Unlock", "internal/race.ReleaseMerge", "(*internal/sync.Mutex).unlockSlow", "internal/sync.fatal", "internal/sync.runtime_Semrelease", "sync/atomic.StoreUint32", "sync/atomic.AddUint64", "sync/atomic.LoadUint64", "math/bits.Add64", "math/bits.Sub64"], unfollowed := true, recurses := true, named := ["casemate/curve.d", "casemate/scalar.order"], apart := false, laid := [("casemate/scalar.order", laid_casemate_scalar_order), ("casemate/curve.d", laid_casemate_curve_d)] }
def ImageMakesSaid : Prop := imageMakesRow.holds Tryz.pinned (OpenSpec.ofChange imageMakesSpec)

/-- ITS FALSE NEIGHBOUR: 'it returns false'. Refute it at one input. -/
def imageMakesWrong : ChangeSpec := { name := "imageMakes", fn := fun _ => fun
  | [d1, d2, d3] => { results := [.lit (.bool false)], args := [d1, d2, d3] }
  | _ => none }
def ImageMakesWrongFalsely : Prop := imageMakesRow.holds Tryz.pinned (OpenSpec.ofChange imageMakesWrong)

/-- 'casematelaw23.ImageChecks': WHATEVER THE INPUT: true; the input reads as it did. -/
def imageChecksSpec : ChangeSpec := { name := "imageChecks", fn := fun _ => fun
  | [d1, d2, d3, d4] => { results := [.lit (.bool true)], args := [d1, d2, d3, d4] }
  | _ => none }
def imageChecksRow : OpenClaim := { program := "ytcaloldcihpkfaagreatdoor", sum := "5447d915c175cb0609c8a64211224e0c840be6fbca36ebc2ee59f695f92da847", func := "casemate/casematelaw23.ImageChecks", spec := "imageChecks", inPlace := ["math/bits.Sub64", "math/bits.Add64", "sync/atomic.LoadUint32", "(*internal/sync.Mutex).Lock", "internal/race.Disable", "sync/atomic.CompareAndSwapInt32", "internal/race.Enable", "internal/race.Acquire", "(*internal/sync.Mutex).lockSlow", "internal/sync.runtime_canSpin", "internal/sync.runtime_doSpin", "internal/sync.throw", "internal/sync.runtime_nanotime", "internal/sync.runtime_SemacquireMutex", "sync/atomic.AddInt32", "(*internal/sync.Mutex).Unlock", "internal/race.ReleaseMerge", "(*internal/sync.Mutex).unlockSlow", "internal/sync.fatal", "internal/sync.runtime_Semrelease", "sync/atomic.StoreUint32", "sync/atomic.AddUint64", "sync/atomic.LoadUint64"], unfollowed := true, recurses := true, named := ["casemate/curve.d", "casemate/scalar.order"], apart := false, laid := [("casemate/scalar.order", laid_casemate_scalar_order), ("casemate/curve.d", laid_casemate_curve_d)] }
def ImageChecksSaid : Prop := imageChecksRow.holds Tryz.pinned (OpenSpec.ofChange imageChecksSpec)

/-- ITS FALSE NEIGHBOUR: 'it returns false'. Refute it at one input. -/
def imageChecksWrong : ChangeSpec := { name := "imageChecks", fn := fun _ => fun
  | [d1, d2, d3, d4] => { results := [.lit (.bool false)], args := [d1, d2, d3, d4] }
  | _ => none }
def ImageChecksWrongFalsely : Prop := imageChecksRow.holds Tryz.pinned (OpenSpec.ofChange imageChecksWrong)

/-- 'casematelaw23.ImageLaunches': WHATEVER THE INPUT: true; the input reads as it did. -/
def imageLaunchesSpec : ChangeSpec := { name := "imageLaunches", fn := fun _ => fun
  | [d1, d2, d3, d4] => { results := [.lit (.bool true)], args := [d1, d2, d3, d4] }
  | _ => none }
def imageLaunchesRow : OpenClaim := { program := "ytcaloldcihpkfaagreatdoor", sum := "5447d915c175cb0609c8a64211224e0c840be6fbca36ebc2ee59f695f92da847", func := "casemate/casematelaw23.ImageLaunches", spec := "imageLaunches", inPlace := ["sync/atomic.LoadUint32", "(*internal/sync.Mutex).Lock", "internal/race.Disable", "sync/atomic.CompareAndSwapInt32", "internal/race.Enable", "internal/race.Acquire", "(*internal/sync.Mutex).lockSlow", "internal/sync.runtime_canSpin", "internal/sync.runtime_doSpin", "internal/sync.throw", "internal/sync.runtime_nanotime", "internal/sync.runtime_SemacquireMutex", "sync/atomic.AddInt32", "(*internal/sync.Mutex).Unlock", "internal/race.ReleaseMerge", "(*internal/sync.Mutex).unlockSlow", "internal/sync.fatal", "internal/sync.runtime_Semrelease", "sync/atomic.StoreUint32", "sync/atomic.AddUint64", "sync/atomic.LoadUint64", "math/bits.Add64", "math/bits.Sub64"], unfollowed := true, recurses := true, named := ["casemate/curve.d", "casemate/scalar.order"], apart := false, laid := [("casemate/scalar.order", laid_casemate_scalar_order), ("casemate/curve.d", laid_casemate_curve_d)] }
def ImageLaunchesSaid : Prop := imageLaunchesRow.holds Tryz.pinned (OpenSpec.ofChange imageLaunchesSpec)

/-- ITS FALSE NEIGHBOUR: 'it returns false'. Refute it at one input. -/
def imageLaunchesWrong : ChangeSpec := { name := "imageLaunches", fn := fun _ => fun
  | [d1, d2, d3, d4] => { results := [.lit (.bool false)], args := [d1, d2, d3, d4] }
  | _ => none }
def ImageLaunchesWrongFalsely : Prop := imageLaunchesRow.holds Tryz.pinned (OpenSpec.ofChange imageLaunchesWrong)

/-- 'casematelaw23.ImageSound': WHATEVER THE INPUT: true; the input reads as it did. -/
def imageSoundSpec : ChangeSpec := { name := "imageSound", fn := fun _ => fun
  | [d1, d2, d3, d4] => { results := [.lit (.bool true)], args := [d1, d2, d3, d4] }
  | _ => none }
def imageSoundRow : OpenClaim := { program := "ytcaloldcihpkfaagreatdoor", sum := "5447d915c175cb0609c8a64211224e0c840be6fbca36ebc2ee59f695f92da847", func := "casemate/casematelaw23.ImageSound", spec := "imageSound", inPlace := ["math/bits.Sub64", "math/bits.Add64", "sync/atomic.LoadUint32", "(*internal/sync.Mutex).Lock", "internal/race.Disable", "sync/atomic.CompareAndSwapInt32", "internal/race.Enable", "internal/race.Acquire", "(*internal/sync.Mutex).lockSlow", "internal/sync.runtime_canSpin", "internal/sync.runtime_doSpin", "internal/sync.throw", "internal/sync.runtime_nanotime", "internal/sync.runtime_SemacquireMutex", "sync/atomic.AddInt32", "(*internal/sync.Mutex).Unlock", "internal/race.ReleaseMerge", "(*internal/sync.Mutex).unlockSlow", "internal/sync.fatal", "internal/sync.runtime_Semrelease", "sync/atomic.StoreUint32", "sync/atomic.AddUint64", "sync/atomic.LoadUint64"], unfollowed := true, recurses := true, named := ["casemate/curve.d", "casemate/scalar.order"], apart := false, laid := [("casemate/scalar.order", laid_casemate_scalar_order), ("casemate/curve.d", laid_casemate_curve_d)] }
def ImageSoundSaid : Prop := imageSoundRow.holds Tryz.pinned (OpenSpec.ofChange imageSoundSpec)

/-- ITS FALSE NEIGHBOUR: 'it returns false'. Refute it at one input. -/
def imageSoundWrong : ChangeSpec := { name := "imageSound", fn := fun _ => fun
  | [d1, d2, d3, d4] => { results := [.lit (.bool false)], args := [d1, d2, d3, d4] }
  | _ => none }
def ImageSoundWrongFalsely : Prop := imageSoundRow.holds Tryz.pinned (OpenSpec.ofChange imageSoundWrong)

/-- 'casematelaw23.ImageData': WHATEVER THE INPUT: true; the input reads as it did. -/
def imageDataSpec : ChangeSpec := { name := "imageData", fn := fun _ => fun
  | [d1, d2, d3] => { results := [.lit (.bool true)], args := [d1, d2, d3] }
  | _ => none }
def imageDataRow : OpenClaim := { program := "ytcaloldcihpkfaagreatdoor", sum := "5447d915c175cb0609c8a64211224e0c840be6fbca36ebc2ee59f695f92da847", func := "casemate/casematelaw23.ImageData", spec := "imageData", inPlace := ["sync/atomic.LoadUint32", "(*internal/sync.Mutex).Lock", "internal/race.Disable", "sync/atomic.CompareAndSwapInt32", "internal/race.Enable", "internal/race.Acquire", "(*internal/sync.Mutex).lockSlow", "internal/sync.runtime_canSpin", "internal/sync.runtime_doSpin", "internal/sync.throw", "internal/sync.runtime_nanotime", "internal/sync.runtime_SemacquireMutex", "sync/atomic.AddInt32", "(*internal/sync.Mutex).Unlock", "internal/race.ReleaseMerge", "(*internal/sync.Mutex).unlockSlow", "internal/sync.fatal", "internal/sync.runtime_Semrelease", "sync/atomic.StoreUint32", "sync/atomic.AddUint64", "sync/atomic.LoadUint64", "math/bits.Add64", "math/bits.Sub64"], unfollowed := true, recurses := true, named := ["casemate/curve.d", "casemate/scalar.order"], apart := false, laid := [("casemate/scalar.order", laid_casemate_scalar_order), ("casemate/curve.d", laid_casemate_curve_d)] }
def ImageDataSaid : Prop := imageDataRow.holds Tryz.pinned (OpenSpec.ofChange imageDataSpec)

/-- ITS FALSE NEIGHBOUR: 'it returns false'. Refute it at one input. -/
def imageDataWrong : ChangeSpec := { name := "imageData", fn := fun _ => fun
  | [d1, d2, d3] => { results := [.lit (.bool false)], args := [d1, d2, d3] }
  | _ => none }
def ImageDataWrongFalsely : Prop := imageDataRow.holds Tryz.pinned (OpenSpec.ofChange imageDataWrong)

/- THE SECOND FORM. 'bulk': how many values and letters a reading holds, each counted each time it is reached (what is shared counts as often as it is met; a slice's spare places count too). A statement '..UptoSaid' is the law's where the arguments, and the package variables that the reading takes, are together of bulk at most 1048576: NARROWER than '..Said'. Prove '..Said' where nothing that the law and all that it calls make is longer than what came in: it says more and counts as full. Else prove '..UptoSaid'. A law counts once. -/
mutual
def uptoBulk {H : Type} : DataW H → Nat
  | .lit (.string bytes) => bytes.length + 1
  | .lit _ => 1
  | .nil => 1
  | .ptr d => uptoBulk d + 1
  | .slice elems spare => uptoBulkAll elems + uptoBulkAll spare + 1
  | .agg parts => uptoBulkAll parts + 1
  | .iface _ d => uptoBulk d + 1
  | .map entries => uptoBulkEntries entries + 1
  | .held _ => 1
def uptoBulkAll {H : Type} : List (DataW H) → Nat
  | [] => 0
  | d :: r => uptoBulk d + uptoBulkAll r
def uptoBulkEntries {H : Type} : List (Lit × DataW H) → Nat
  | [] => 0
  | x :: r => uptoBulkEntry x + uptoBulkEntries r
def uptoBulkEntry {H : Type} : Lit × DataW H → Nat
  | (.string bytes, d) => bytes.length + uptoBulk d + 1
  | (_, d) => uptoBulk d + 1
 end
def uptoSmall : (H : Type) → List (DataW H) → Bool := fun _ ds => decide (uptoBulkAll ds ≤ 1048576)
def OpenSpec.upto (s : _root_.Go.ChangeSpec) : _root_.Go.OpenSpec := { _root_.Go.OpenSpec.ofChange s with cond := some uptoSmall }

/-- 'casematelaw23.ImageMakes', WHERE WHAT IT READS IS OF BULK AT MOST 1048576: true; the input reads as it did. -/
def imageMakesUptoRow : OpenClaim := { program := "ytcaloldcihpkfaagreatdoor", sum := "5447d915c175cb0609c8a64211224e0c840be6fbca36ebc2ee59f695f92da847", func := "casemate/casematelaw23.ImageMakes", spec := "imageMakes", inPlace := ["sync/atomic.LoadUint32", "(*internal/sync.Mutex).Lock", "internal/race.Disable", "sync/atomic.CompareAndSwapInt32", "internal/race.Enable", "internal/race.Acquire", "(*internal/sync.Mutex).lockSlow", "internal/sync.runtime_canSpin", "internal/sync.runtime_doSpin", "internal/sync.throw", "internal/sync.runtime_nanotime", "internal/sync.runtime_SemacquireMutex", "sync/atomic.AddInt32", "(*internal/sync.Mutex).Unlock", "internal/race.ReleaseMerge", "(*internal/sync.Mutex).unlockSlow", "internal/sync.fatal", "internal/sync.runtime_Semrelease", "sync/atomic.StoreUint32", "sync/atomic.AddUint64", "sync/atomic.LoadUint64", "math/bits.Add64", "math/bits.Sub64"], unfollowed := true, recurses := true, named := ["casemate/curve.d", "casemate/scalar.order"], apart := false, laid := [("casemate/scalar.order", laid_casemate_scalar_order), ("casemate/curve.d", laid_casemate_curve_d)], narrowed := true }
def ImageMakesUptoSaid : Prop := imageMakesUptoRow.holds Tryz.pinned (OpenSpec.upto imageMakesSpec)

/-- 'casematelaw23.ImageChecks', WHERE WHAT IT READS IS OF BULK AT MOST 1048576: true; the input reads as it did. -/
def imageChecksUptoRow : OpenClaim := { program := "ytcaloldcihpkfaagreatdoor", sum := "5447d915c175cb0609c8a64211224e0c840be6fbca36ebc2ee59f695f92da847", func := "casemate/casematelaw23.ImageChecks", spec := "imageChecks", inPlace := ["math/bits.Sub64", "math/bits.Add64", "sync/atomic.LoadUint32", "(*internal/sync.Mutex).Lock", "internal/race.Disable", "sync/atomic.CompareAndSwapInt32", "internal/race.Enable", "internal/race.Acquire", "(*internal/sync.Mutex).lockSlow", "internal/sync.runtime_canSpin", "internal/sync.runtime_doSpin", "internal/sync.throw", "internal/sync.runtime_nanotime", "internal/sync.runtime_SemacquireMutex", "sync/atomic.AddInt32", "(*internal/sync.Mutex).Unlock", "internal/race.ReleaseMerge", "(*internal/sync.Mutex).unlockSlow", "internal/sync.fatal", "internal/sync.runtime_Semrelease", "sync/atomic.StoreUint32", "sync/atomic.AddUint64", "sync/atomic.LoadUint64"], unfollowed := true, recurses := true, named := ["casemate/curve.d", "casemate/scalar.order"], apart := false, laid := [("casemate/scalar.order", laid_casemate_scalar_order), ("casemate/curve.d", laid_casemate_curve_d)], narrowed := true }
def ImageChecksUptoSaid : Prop := imageChecksUptoRow.holds Tryz.pinned (OpenSpec.upto imageChecksSpec)

/-- 'casematelaw23.ImageLaunches', WHERE WHAT IT READS IS OF BULK AT MOST 1048576: true; the input reads as it did. -/
def imageLaunchesUptoRow : OpenClaim := { program := "ytcaloldcihpkfaagreatdoor", sum := "5447d915c175cb0609c8a64211224e0c840be6fbca36ebc2ee59f695f92da847", func := "casemate/casematelaw23.ImageLaunches", spec := "imageLaunches", inPlace := ["sync/atomic.LoadUint32", "(*internal/sync.Mutex).Lock", "internal/race.Disable", "sync/atomic.CompareAndSwapInt32", "internal/race.Enable", "internal/race.Acquire", "(*internal/sync.Mutex).lockSlow", "internal/sync.runtime_canSpin", "internal/sync.runtime_doSpin", "internal/sync.throw", "internal/sync.runtime_nanotime", "internal/sync.runtime_SemacquireMutex", "sync/atomic.AddInt32", "(*internal/sync.Mutex).Unlock", "internal/race.ReleaseMerge", "(*internal/sync.Mutex).unlockSlow", "internal/sync.fatal", "internal/sync.runtime_Semrelease", "sync/atomic.StoreUint32", "sync/atomic.AddUint64", "sync/atomic.LoadUint64", "math/bits.Add64", "math/bits.Sub64"], unfollowed := true, recurses := true, named := ["casemate/curve.d", "casemate/scalar.order"], apart := false, laid := [("casemate/scalar.order", laid_casemate_scalar_order), ("casemate/curve.d", laid_casemate_curve_d)], narrowed := true }
def ImageLaunchesUptoSaid : Prop := imageLaunchesUptoRow.holds Tryz.pinned (OpenSpec.upto imageLaunchesSpec)

/-- 'casematelaw23.ImageSound', WHERE WHAT IT READS IS OF BULK AT MOST 1048576: true; the input reads as it did. -/
def imageSoundUptoRow : OpenClaim := { program := "ytcaloldcihpkfaagreatdoor", sum := "5447d915c175cb0609c8a64211224e0c840be6fbca36ebc2ee59f695f92da847", func := "casemate/casematelaw23.ImageSound", spec := "imageSound", inPlace := ["math/bits.Sub64", "math/bits.Add64", "sync/atomic.LoadUint32", "(*internal/sync.Mutex).Lock", "internal/race.Disable", "sync/atomic.CompareAndSwapInt32", "internal/race.Enable", "internal/race.Acquire", "(*internal/sync.Mutex).lockSlow", "internal/sync.runtime_canSpin", "internal/sync.runtime_doSpin", "internal/sync.throw", "internal/sync.runtime_nanotime", "internal/sync.runtime_SemacquireMutex", "sync/atomic.AddInt32", "(*internal/sync.Mutex).Unlock", "internal/race.ReleaseMerge", "(*internal/sync.Mutex).unlockSlow", "internal/sync.fatal", "internal/sync.runtime_Semrelease", "sync/atomic.StoreUint32", "sync/atomic.AddUint64", "sync/atomic.LoadUint64"], unfollowed := true, recurses := true, named := ["casemate/curve.d", "casemate/scalar.order"], apart := false, laid := [("casemate/scalar.order", laid_casemate_scalar_order), ("casemate/curve.d", laid_casemate_curve_d)], narrowed := true }
def ImageSoundUptoSaid : Prop := imageSoundUptoRow.holds Tryz.pinned (OpenSpec.upto imageSoundSpec)

/-- 'casematelaw23.ImageData', WHERE WHAT IT READS IS OF BULK AT MOST 1048576: true; the input reads as it did. -/
def imageDataUptoRow : OpenClaim := { program := "ytcaloldcihpkfaagreatdoor", sum := "5447d915c175cb0609c8a64211224e0c840be6fbca36ebc2ee59f695f92da847", func := "casemate/casematelaw23.ImageData", spec := "imageData", inPlace := ["sync/atomic.LoadUint32", "(*internal/sync.Mutex).Lock", "internal/race.Disable", "sync/atomic.CompareAndSwapInt32", "internal/race.Enable", "internal/race.Acquire", "(*internal/sync.Mutex).lockSlow", "internal/sync.runtime_canSpin", "internal/sync.runtime_doSpin", "internal/sync.throw", "internal/sync.runtime_nanotime", "internal/sync.runtime_SemacquireMutex", "sync/atomic.AddInt32", "(*internal/sync.Mutex).Unlock", "internal/race.ReleaseMerge", "(*internal/sync.Mutex).unlockSlow", "internal/sync.fatal", "internal/sync.runtime_Semrelease", "sync/atomic.StoreUint32", "sync/atomic.AddUint64", "sync/atomic.LoadUint64", "math/bits.Add64", "math/bits.Sub64"], unfollowed := true, recurses := true, named := ["casemate/curve.d", "casemate/scalar.order"], apart := false, laid := [("casemate/scalar.order", laid_casemate_scalar_order), ("casemate/curve.d", laid_casemate_curve_d)], narrowed := true }
def ImageDataUptoSaid : Prop := imageDataUptoRow.holds Tryz.pinned (OpenSpec.upto imageDataSpec)

end Rows
end Go.Proofs.YtcaloldcihpkfaaGreatDoor
