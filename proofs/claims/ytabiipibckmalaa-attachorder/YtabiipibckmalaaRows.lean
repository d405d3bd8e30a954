/-
  No cell of these rows narrows 'for every input' (looked for: loops, veiled, ifaces, maps, wideKeys, modest, calm, conditions, laid).
  DERIVED. THE GIVEN ROWS OF THIS SEAT. 2 by the template 'for every input the law returns true; each argument reads behind the call as it read before'; 0 by the template 'total and deterministic' (their statements: YtabiipibckmalaaTotals.lean).
  GIVEN WITH THE SEED: the statements are not yours to turn. If you find one false, say at which input.
  Laid BY PROGRAM, IN A SANDBOX (cutbox-rows.mjs): the forced cells as the released guide's own fill.sh prints them over the translation 8b77c6ec0ea19109… (all of the seat's roots in one cut). By AI agents, Wed Nov 11 2026. No macro, syntax, notation, axiom, sorry.
-/
import Derived.Test.YtabiipibckmalaaChecked
import GoSem.Claim
import GoSem.ClaimJoined
import GoSem.ClaimMapViews
import Derived.JoinedTies
import Derived.KernelRfl
namespace Go.Proofs.Ytabiipibckmalaa
/- THE CELL 'sum', in the pinned program and in every row, IS THE sha256 OF THE DUMP (.gsa) THAT YtabiipibckmalaaProg.lean LOADS. Nothing in Lean hashes anything: it is a label: what it is worth is what the hold of that sum in a sandbox is worth. -/
noncomputable def Try.pinned : Pinned := { name := "ytabiipibckmalaa", sum := "8b77c6ec0ea19109f7d0a39c894e52fef59b0245229484dae4dbf23cdd0d6ffa", checked := Try.checked }
namespace Rows
def none {H : Type} : Left H := { results := [], args := [] }

/-- 'casematelaw10.AttachPicks': WHATEVER THE INPUT: true; the input reads as it did. -/
def attachPicksSpec : ChangeSpec := { name := "attachPicks", fn := fun _ => fun
  | [d1, d2] => { results := [.lit (.bool true)], args := [d1, d2] }
  | _ => none }
def attachPicksRow : OpenClaim := { program := "ytabiipibckmalaa", sum := "8b77c6ec0ea19109f7d0a39c894e52fef59b0245229484dae4dbf23cdd0d6ffa", func := "casemate/casematelaw10.AttachPicks", spec := "attachPicks", unfollowed := true, recurses := true, apart := false }
def AttachPicksSaid : Prop := attachPicksRow.holds Try.pinned (OpenSpec.ofChange attachPicksSpec)

/-- ITS FALSE NEIGHBOUR: 'it returns false'. Refute it at one input. -/
def attachPicksWrong : ChangeSpec := { name := "attachPicks", fn := fun _ => fun
  | [d1, d2] => { results := [.lit (.bool false)], args := [d1, d2] }
  | _ => none }
def AttachPicksWrongFalsely : Prop := attachPicksRow.holds Try.pinned (OpenSpec.ofChange attachPicksWrong)

/-- 'casematelaw10.AttachOrder': WHATEVER THE INPUT: true; the input reads as it did. -/
def attachOrderSpec : ChangeSpec := { name := "attachOrder", fn := fun _ => fun
  | [d1, d2, d3] => { results := [.lit (.bool true)], args := [d1, d2, d3] }
  | _ => none }
def attachOrderRow : OpenClaim := { program := "ytabiipibckmalaa", sum := "8b77c6ec0ea19109f7d0a39c894e52fef59b0245229484dae4dbf23cdd0d6ffa", func := "casemate/casematelaw10.AttachOrder", spec := "attachOrder", unfollowed := true, recurses := true, apart := false }
def AttachOrderSaid : Prop := attachOrderRow.holds Try.pinned (OpenSpec.ofChange attachOrderSpec)

/-- ITS FALSE NEIGHBOUR: 'it returns false'. Refute it at one input. -/
def attachOrderWrong : ChangeSpec := { name := "attachOrder", fn := fun _ => fun
  | [d1, d2, d3] => { results := [.lit (.bool false)], args := [d1, d2, d3] }
  | _ => none }
def AttachOrderWrongFalsely : Prop := attachOrderRow.holds Try.pinned (OpenSpec.ofChange attachOrderWrong)

/- THE SECOND FORM. 'bulk': how many values and letters a reading holds, each counted each time it is reached (what is shared counts as often as it is met; a slice's spare places count too). A statement '..UptoSaid' is the law's where the arguments, and the package variables that the reading takes, are together of bulk at most 1048576: NARROWER than '..Said'. Prove '..Said' where nothing that the law and all that it calls make is longer than what came in: it says more and counts as full. Else prove '..UptoSaid'. A law counts once. -/
mutual
def uptoBulk {H : Type} : DataW H → Nat
  | .lit (.string bytes) => bytes.length + 1
  | .lit _ => 1
  | .nil => 1
  | .ptr d => uptoBulk d + 1
  | .slice elems spare => uptoBulkAll elems + uptoBulkAll spare + 1
  | .agg parts => uptoBulkAll parts + 1
  | .iface _ d => uptoBulk d + 1
  | .map entries => uptoBulkEntries entries + 1
  | .held _ => 1
def uptoBulkAll {H : Type} : List (DataW H) → Nat
  | [] => 0
  | d :: r => uptoBulk d + uptoBulkAll r
def uptoBulkEntries {H : Type} : List (Lit × DataW H) → Nat
  | [] => 0
  | x :: r => uptoBulkEntry x + uptoBulkEntries r
def uptoBulkEntry {H : Type} : Lit × DataW H → Nat
  | (.string bytes, d) => bytes.length + uptoBulk d + 1
  | (_, d) => uptoBulk d + 1
 end
def uptoSmall : (H : Type) → List (DataW H) → Bool := fun _ ds => decide (uptoBulkAll ds ≤ 1048576)
def OpenSpec.upto (s : _root_.Go.ChangeSpec) : _root_.Go.OpenSpec := { _root_.Go.OpenSpec.ofChange s with cond := some uptoSmall }

/-- 'casematelaw10.AttachPicks', WHERE WHAT IT READS IS OF BULK AT MOST 1048576: true; the input reads as it did. -/
def attachPicksUptoRow : OpenClaim := { program := "ytabiipibckmalaa", sum := "8b77c6ec0ea19109f7d0a39c894e52fef59b0245229484dae4dbf23cdd0d6ffa", func := "casemate/casematelaw10.AttachPicks", spec := "attachPicks", unfollowed := true, recurses := true, apart := false, narrowed := true }
def AttachPicksUptoSaid : Prop := attachPicksUptoRow.holds Try.pinned (OpenSpec.upto attachPicksSpec)

/-- 'casematelaw10.AttachOrder', WHERE WHAT IT READS IS OF BULK AT MOST 1048576: true; the input reads as it did. -/
def attachOrderUptoRow : OpenClaim := { program := "ytabiipibckmalaa", sum := "8b77c6ec0ea19109f7d0a39c894e52fef59b0245229484dae4dbf23cdd0d6ffa", func := "casemate/casematelaw10.AttachOrder", spec := "attachOrder", unfollowed := true, recurses := true, apart := false, narrowed := true }
def AttachOrderUptoSaid : Prop := attachOrderUptoRow.holds Try.pinned (OpenSpec.upto attachOrderSpec)

end Rows
end Go.Proofs.Ytabiipibckmalaa
