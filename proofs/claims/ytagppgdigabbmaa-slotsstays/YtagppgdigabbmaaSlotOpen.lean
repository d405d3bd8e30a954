/-
  Layer 22: slots that came in.
-/
import Derived.Deep.Slices
import Derived.ProofKit
import Derived.OpenShut
import Derived.Test.YtagppgdigabbmaaSlotPlain
import Derived.Test.YtagppgdigabbmaaRows
namespace Go.Proofs.Ytagppgdigabbmaa.N
open Go.RowKit Go.Maps Go.ChangeShapes
set_option linter.unusedVariables false
set_option maxRecDepth 8192

theorem bounds_u8 {n : Int} (h : (Lit.int .u8 n).wf = true) : 0 ≤ n ∧ n ≤ 255 := by
  simp [Lit.wf, IntKind.min, IntKind.max, IntKind.signed, IntKind.bits] at h
  omega
theorem cSls : Try.prog.cellsOf 26 = 5 := by kernel_rfl
theorem cTwo : Try.prog.cellsOf 24 = 4 := by kernel_rfl
theorem cSo : Try.prog.cellsOf 23 = 2 := by kernel_rfl
theorem cI22 : Try.prog.cellsOf 3 = 1 := by kernel_rfl
theorem cB22 : Try.prog.cellsOf 4 = 1 := by kernel_rfl
/-- A slot that came in. -/
theorem trod_so {H : Type} {enc : TypeId × Value → H} {w : World} {base : Nat} {spare : Nat → Bool} {held : Bool} {fuel : Nat} {c0 c1 : Value} {x : DataW H × List MemPlace}
    (hf : DataW.trod enc Try.prog w base spare held fuel 23 [c0, c1] = some x) : ∃ o : So, c0 = .int .i64 o.t ∧ c1 = .bool o.g := by
  obtain ⟨xs, k, hk, hxy, _, hxl, hfi⟩ := DataW.trod_struct Try.underlying23 hf
  have g0 := hfi 0 _ rfl
  have g1 := hfi 1 _ rfl
  match xs, hxl with
  | [y0, y1], _ =>
    simp [cI22, cB22] at g0 g1
    obtain ⟨n0, e0, _, _⟩ := DataW.trod_int Try.underlying3 g0
    obtain ⟨r, e1, _⟩ := DataW.trod_bool Try.underlying4 g1
    simp at e0 e1
    exact ⟨⟨n0, r⟩, e0, e1⟩
/-- Slots as an argument. -/
theorem slots_of {H : Type} {enc : TypeId × Value → H} {w : World} {base : Nat} {held : Bool} {r : Reach} {b0 : Nat} {v : Value} {d : DataW H} {p : List MemPlace}
    (hv : Value.okWide Try.prog w r b0 26 v) (h : DataW.Trod enc Try.prog w base (fun _ => true) held 26 v d p) :
    ∃ s : Sl, v = .agg #[.int .i64 s.f, .int .i64 s.a.t, .bool s.a.g, .int .i64 s.b.t, .bool s.b.g] := by
  obtain ⟨cs, rfl, hsz⟩ := WideShapes.okWide_struct Try.underlying26 hv
  obtain ⟨lc⟩ := cs
  have hl : lc.length = 5 := hsz.trans cSls
  match lc, hl with
  | [c0, c1, c2, c3, c4], _ =>
    obtain ⟨fuel, hf⟩ := h
    obtain ⟨xs, k, hk, hxy, _, hxl, hfi⟩ := DataW.trod_struct Try.underlying26 hf
    have g0 := hfi 0 _ rfl
    have g1 := hfi 1 _ rfl
    match xs, hxl with
    | [y0, y1], _ =>
    simp [cI22, cTwo, Value.cells] at g0 g1
    obtain ⟨n0, e0, _, _⟩ := DataW.trod_int Try.underlying3 g0
    obtain ⟨zs, m, _, hx, hcl, hlen, hgi⟩ := DataW.trod_array Try.underlying24 g1
    have k0 := hgi 0 (by decide)
    have k1 := hgi 1 (by decide)
    match zs, hlen with
    | [z0, z1], _ =>
    simp [cSo] at k0 k1
    obtain ⟨a, ea, eb⟩ := trod_so k0
    obtain ⟨b, ec, ed⟩ := trod_so k1
    simp at e0
    exact ⟨⟨n0, a, b⟩, by rw [e0, ea, eb, ec, ed]⟩
end Go.Proofs.Ytagppgdigabbmaa.N
