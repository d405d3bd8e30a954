/-
  ScrubCuts holds of every geometry, strings, flips and cuts: wherever the power goes in moving, behind it, opened anew, each logical block has just the bytes that it had; so again. No condition.
-/
import Derived.Test.YtgamakejaknagaaGreatRows
import Derived.Test.YtgamakejaknagaaGreatScrubLaws3
import Derived.Test.YtgamakejaknagaaGreatEccOpen
import Derived.Test.YtgamakejaknagaaGreatScrubOpen
import Derived.Test.YtgamakejaknagaaGreatStoreOpen
import Derived.WalkKit
import Derived.ProofKit
import Derived.OpenShut
import Derived.ShutString
import Derived.ChangeOld
import Derived.Below
namespace Go.Proofs.YtgamakejaknagaaGreat.scrubCuts
open Go.ChangeShapes Go.WideShapes Go.ChangeAt Go.RowKit
open Go.ChangeMaps (open_string shut_string)
set_option linter.unusedVariables false

theorem own : ownKnob Tryz.prog.godebug = none := by kernel_rfl
theorem laidOut : laidOutB Tryz.prog = true := by kernel_rfl
theorem cellsInt : Tryz.prog.cellsOf 3 = 1 := by kernel_rfl
theorem cellsGeo : Tryz.prog.cellsOf 23 = 5 := by kernel_rfl

/-- What is told of a slice of integers that came in: it is nil, or it leads to a row of cells. -/
def IsRow (k : IntKind) (w : World) (a : Option Addr) (len cap : Nat) (zs : List Int) : Prop :=
  (a = none ∧ len = 0 ∧ cap = 0 ∧ zs = []) ∨
  ∃ x, a = some x ∧ len ≤ cap ∧ cap ≤ maxLen ∧ zs.length = cap ∧ (∀ i, i < zs.length → w.cell? (x.add i) = some (.int k (zs.getD i 0))) ∧ ∀ n ∈ zs, (Lit.int k n).wf = true

theorem walk (b p s n f : Int) (a1 : Option Addr) (len1 cap1 : Nat) (o1 : Nat → List Int) (a2 : Option Addr) (len2 cap2 : Nat) (o2 : Nat → WrV) (a3 : Option Addr) (len3 cap3 : Nat) (o3 : Nat → Int × Int) (w : World) (wb : (Lit.int .i64 b).wf = true) (wp : (Lit.int .i64 p).wf = true) (ws : (Lit.int .i64 s).wf = true) (wn : (Lit.int .i64 n).wf = true) (wf : (Lit.int .i64 f).wf = true) (w1 : SRow w a1 len1 cap1 o1) (w2 : WRow w a2 len2 cap2 o2) (w3 : CRow w a3 len3 cap3 o3) :
    Calls Tryz.prog 5 #[.agg #[.int .i64 b, .int .i64 p, .int .i64 s, .int .i64 n, .int .i64 f], .slice a1 len1 cap1, .slice a2 len2 cap2, .slice a3 len3 cap3] w fun e w' => e = .returned (.bool true) ∧ Below w.heap.size w w' := by
  exact walk_scrubCuts b p s n f a1 len1 cap1 o1 a2 len2 cap2 o2 a3 len3 cap3 o3 w w1 w2 w3

set_option maxRecDepth 100000 in
theorem lifted (os : Os) (started : os.Started) (H : Type) (enc : TypeId × Value → H) :
    ReturnsInHanded {} Tryz.checked os 5 .any (Rows.scrubCutsSpec.pre6 enc Tryz.prog Tryz.f5 Rows.scrubCutsRow.domain false) (Rows.scrubCutsSpec.post enc Tryz.prog Tryz.f5 false true false false) := by
  refine returnsInHanded_of_change (C := Tryz.checked) own started (by kernel_rfl) Tryz.func5
    (ChangeSpec.witness6 (enc := enc) (C := Tryz.checked) false ⟨#[], #[.agg #[.int .i64 0, .int .i64 0, .int .i64 0, .int .i64 0, .int .i64 0], .slice none 0 0, .slice none 0 0, .slice none 0 0], []⟩ 8 (by kernel_rfl) (by kernel_rfl) (by kernel_rfl) (by kernel_rfl)) ?_
  intro W base args ds gs before hval0 hW hcnd _
  have hval : ∀ (j : Nat) t v, Tryz.f5.params[j]? = some t → args[j]? = some v → Value.okWide Tryz.prog W .any base t v := hval0
  have hW' := hW
  obtain ⟨p, q, hA0, hV, rfl, hfz, hnd⟩ := hW
  have hA : DataW.TrodAll enc Tryz.prog W 0 (fun _ => true) true Tryz.f5.params.toList args.toList ds p := hA0
  rw [Tryz.params5] at hA hval
  obtain ⟨v0, vs0, d0, ds0, p0, q0, hargs, rfl, rfl, h0, r0⟩ := trodAll_cons hA
  obtain ⟨v1, vs1, d1, ds1, p1, q1, rfl, rfl, rfl, h1, r1⟩ := trodAll_cons r0
  obtain ⟨v2, vs2, d2, ds2, p2, q2, rfl, rfl, rfl, h2, r2⟩ := trodAll_cons r1
  obtain ⟨v3, vs3, d3, ds3, p3, q3, rfl, rfl, rfl, h3, r3⟩ := trodAll_cons r2
  obtain ⟨rfl, rfl, rfl⟩ := trodAll_nil r3
  obtain rfl : args = #[v0, v1, v2, v3] := by cases args; simp_all
  obtain ⟨rfl, rfl⟩ := trodVars_none hV
  obtain ⟨b, p, s, n, f, rfl, rfl, rfl, wb, wp, ws, wn, wf⟩ := open_ints5 Tryz.underlying23 cellsGeo Tryz.underlying3 cellsInt ⟨rfl, rfl⟩ ⟨rfl, rfl⟩ ⟨rfl, rfl⟩ ⟨rfl, rfl⟩ ⟨rfl, rfl⟩ (hval 0 23 v0 rfl rfl) h0
  obtain ⟨a1, len1, cap1, rfl⟩ := okWide_slice Tryz.underlying24 (hval 1 24 v1 rfl rfl)
  have k1 := h1
  have lt1 : ∀ x ∈ p1, x.block < W.heap.size := by obtain ⟨m, hm⟩ := k1; exact DataW.trod_lt m _ _ _ hm
  obtain ⟨o1, w1⟩ : ∃ ops, SRow W a1 len1 cap1 ops := by
    obtain ⟨fuel, hf⟩ := h1
    exact strs_of hf
  obtain ⟨a2, len2, cap2, rfl⟩ := okWide_slice Tryz.underlying25 (hval 2 25 v2 rfl rfl)
  have k2 := h2
  have lt2 : ∀ x ∈ p2, x.block < W.heap.size := by obtain ⟨m, hm⟩ := k2; exact DataW.trod_lt m _ _ _ hm
  obtain ⟨o2, w2⟩ : ∃ ops, WRow W a2 len2 cap2 ops := by
    obtain ⟨fuel, hf⟩ := h2
    exact wrongs_of hf
  obtain ⟨a3, len3, cap3, rfl⟩ := okWide_slice Tryz.underlying44 (hval 3 44 v3 rfl rfl)
  have k3 := h3
  have lt3 : ∀ x ∈ p3, x.block < W.heap.size := by obtain ⟨m, hm⟩ := k3; exact DataW.trod_lt m _ _ _ hm
  obtain ⟨o3, w3⟩ : ∃ ops, CRow W a3 len3 cap3 ops := by
    obtain ⟨fuel, hf⟩ := h3
    exact cuts_of hf
  clear hA0 hval0
  refine (walk b p s n f a1 len1 cap1 o1 a2 len2 cap2 o2 a3 len3 cap3 o3 W wb wp ws wn wf w1 w2 w3).mono fun e W' ⟨he, bel⟩ => ?_
  subst he
  exact ⟨_, rfl, _, _, _, [], _, [], hW', trodAll_mk1 (shut_bool Tryz.underlying4 _), (trodAll_cons_mk (shut_ints5 Tryz.underlying23 cellsGeo Tryz.underlying3 cellsInt ⟨rfl, rfl⟩ ⟨rfl, rfl⟩ ⟨rfl, rfl⟩ ⟨rfl, rfl⟩ ⟨rfl, rfl⟩ wb wp ws wn wf) (trodAll_cons_mk (Below.trod laidOut (by kernel_rfl) (of_decide_eq_true (by kernel_rfl)) k1 bel lt1) (trodAll_cons_mk (Below.trod laidOut (by kernel_rfl) (of_decide_eq_true (by kernel_rfl)) k2 bel lt2) (trodAll_cons_mk (Below.trod laidOut (by kernel_rfl) (of_decide_eq_true (by kernel_rfl)) k3 bel lt3) trodAll_mk0)))), rfl, bel.frame _, fun h => by cases h⟩

theorem over : Rows.scrubCutsRow.holds Tryz.pinned (OpenSpec.ofChange Rows.scrubCutsSpec) :=
  OpenClaim.holds_of_wide 5 Tryz.f5 rfl rfl rfl rfl rfl rfl rfl ⟨rfl, rfl, rfl, rfl, rfl⟩ rfl rfl rfl rfl rfl (by kernel_rfl) Tryz.func5 (by kernel_rfl)
    (of_decide_eq_true (by kernel_rfl)) (by unfold Func.isWrapper; first | (rw [if_pos (by decide +kernel)]; kernel_rfl) | (rw [if_neg (by decide +kernel)]; exact ⟨rfl, rfl⟩))
    (fun os started H enc _ => lifted os started H enc)

/-- The statement. -/
theorem proved : Rows.ScrubCutsSaid := over
end Go.Proofs.YtgamakejaknagaaGreat.scrubCuts

namespace Go.Proofs.YtgamakejaknagaaGreat
theorem scrubCuts_holds : Rows.ScrubCutsSaid := scrubCuts.proved
#print axioms scrubCuts_holds
end Go.Proofs.YtgamakejaknagaaGreat
