/-
  Layer 17: points that came in; the curve's number in its variable as the row lists it.
-/
import Derived.Test.YtgofapndgjfnhaaDoorLaidOpen
import Derived.Test.YtgofapndgjfnhaaDoorCurveBase
namespace Go.Proofs.YtgofapndgjfnhaaDoor.N
open Go.RowKit Go.Maps Go.ChangeShapes
set_option linter.unusedVariables false
set_option maxRecDepth 8192

/-- A point that came in. -/
theorem open_p64 {H : Type} {enc : TypeId × Value → H} {P : Program} {w : World} {base : Nat} {spare : Nat → Bool} {held : Bool} {r : Reach} {b0 : Nat} {t b e : TypeId} {f0 f1 : Field} {v : Value} {d : DataW H} {p : List MemPlace}
    (hs : P.underlying t = some (.struct #[f0, f1])) (hC : P.cellsOf t = 64) (ht : P.underlying b = some (.array 32 e)) (hCb : P.cellsOf b = 32) (he : P.underlying e = some (.int .u8)) (hce : P.cellsOf e = 1)
    (o0 : f0.offset = 0 ∧ f0.type = b) (o1 : f1.offset = 32 ∧ f1.type = b)
    (hv : Value.okWide P w r b0 t v) (h : DataW.Trod enc P w base spare held t v d p) : ∃ x y : Nat, x < 2 ^ 256 ∧ y < 2 ^ 256 ∧ v = .agg (pA x y) := by
  obtain ⟨cs, rfl, hsz⟩ := WideShapes.okWide_struct hs hv
  rw [hC] at hsz
  obtain ⟨fuel, hf⟩ := h
  obtain ⟨xs, n, _, hx, _, hlen, hfi⟩ := DataW.trod_struct hs hf
  have hlen2 : xs.length = 2 := hlen
  have hcs : (Value.agg cs).cells.toList = cs.toList := rfl
  have h0 := hfi 0 f0 rfl
  have h1 := hfi 1 f1 rfl
  rw [o0.1, o0.2, hCb, hcs, List.getElem?_eq_getElem (show 0 < xs.length by omega)] at h0
  rw [o1.1, o1.2, hCb, hcs, List.getElem?_eq_getElem (show 1 < xs.length by omega)] at h1
  obtain ⟨x, hxl, ex, _⟩ := trod_b32 ht hCb he hce h0
  obtain ⟨y, hyl, ey, _⟩ := trod_b32 ht hCb he hce h1
  refine ⟨x, y, hxl, hyl, ?_⟩
  congr 1
  apply Array.toList_inj.1
  rw [pA_def, Array.toList_append, ← ex, ← ey, List.drop_zero]
  have h3 : (cs.toList.drop 32).take 32 = cs.toList.drop 32 := List.take_of_length_le (by simp; omega)
  rw [h3, List.take_append_drop]
/-- The listed variable holds the curve's number. -/
theorem laid_d {rest : List (String × DataW Unit)} {ps : List MemPlace} {W : World} (h : DataW.LaidVars Tryd.prog W (("casemate/curve.d", Rows.laid_casemate_curve_d) :: rest) ps) : DAt W ∧ ∃ q, DataW.LaidVars Tryd.prog W rest q :=
  laid_b32 (g := 1) (v := dN) (by kernel_rfl) (by kernel_rfl) (elt256 dN_lt) (by
    have h : digL dN 32 = [163, 120, 89, 19, 202, 77, 235, 117, 171, 216, 65, 65, 77, 10, 112, 0, 152, 232, 121, 119, 121, 64, 199, 140, 115, 254, 111, 43, 238, 108, 3, 82] := by decide +kernel
    unfold datB
    rw [h]
    rfl) h
end Go.Proofs.YtgofapndgjfnhaaDoor.N
