/-
  A struct of three integers that came in by value: opened and shut.
-/
import Derived.Test.YtefpmidjedfjmaaRows
import Derived.WalkKit
import Derived.ProofKit
import Derived.OpenShut
namespace Go.Proofs.Ytefpmidjedfjmaa
open Go.ChangeShapes Go.WideShapes Go.ChangeAt Go.RowKit
set_option linter.unusedVariables false
set_option maxRecDepth 8192

theorem array3 {α : Type} {cs : Array α} (h : cs.size = 3) : ∃ c0 c1 c2, cs = #[c0, c1, c2] := by
  obtain ⟨l⟩ := cs
  match l, h with
  | [c0, c1, c2], _ => exact ⟨c0, c1, c2, rfl⟩

theorem open_ints3 {H : Type} {enc : TypeId × Value → H} {P : Program} {w : World} {base : Nat} {spare : Nat → Bool} {held : Bool} {r : Reach} {b0 : Nat} {t e : TypeId} {f0 f1 f2 : Field} {v : Value} {d : DataW H} {p : List MemPlace}
    (hs : P.underlying t = some (.struct #[f0, f1, f2])) (hC : P.cellsOf t = 3) (he : P.underlying e = some (.int .i64)) (hce : P.cellsOf e = 1)
    (o0 : f0.offset = 0 ∧ f0.type = e) (o1 : f1.offset = 1 ∧ f1.type = e) (o2 : f2.offset = 2 ∧ f2.type = e)
    (hv : Value.okWide P w r b0 t v) (h : DataW.Trod enc P w base spare held t v d p) :
    ∃ x0 x1 x2 : Int, v = .agg #[.int .i64 x0, .int .i64 x1, .int .i64 x2] ∧ d = .agg [.lit (.int .i64 x0), .lit (.int .i64 x1), .lit (.int .i64 x2)] ∧ p = [] ∧
      (Lit.int .i64 x0).wf = true ∧ (Lit.int .i64 x1).wf = true ∧ (Lit.int .i64 x2).wf = true := by
  obtain ⟨cs, rfl, hsz⟩ := okWide_struct hs hv
  obtain ⟨c0, c1, c2, rfl⟩ := array3 (hsz.trans hC)
  obtain ⟨fuel, hf⟩ := h
  obtain ⟨xs, n, _, hx, _, hlen, hfi⟩ := DataW.trod_struct hs hf
  have g : ∀ (i : Nat) (f : Field) (c : Value), (#[f0, f1, f2] : Array Field)[i]? = some f → f.offset = i ∧ f.type = e → (#[c0, c1, c2] : Array Value).toList[i]? = some c → ∃ x, c = .int .i64 x ∧ xs[i]? = some (.lit (.int .i64 x), []) ∧ (Lit.int .i64 x).wf = true := by
    intro i f c hi ho hc
    have h1 := hfi i f hi
    rw [ho.1, ho.2, hce] at h1
    have e1 : (((Value.agg #[c0, c1, c2]).cells.toList.drop i).take 1) = [c] := by
      have : (Value.agg #[c0, c1, c2]).cells.toList = (#[c0, c1, c2] : Array Value).toList := by simp [Value.cells]
      rw [this, List.take_one, List.head?_drop, hc]
      rfl
    rw [e1] at h1
    have hil : i < xs.length := by
      rw [hlen]
      exact (Array.getElem?_eq_some_iff.1 hi).1
    rw [List.getElem?_eq_getElem hil] at h1
    obtain ⟨x, h2, h3, h4⟩ := DataW.trod_int he h1
    simp only [List.cons.injEq, and_true] at h2
    exact ⟨x, h2, by rw [List.getElem?_eq_getElem hil, h3], h4⟩
  obtain ⟨x0, rfl, y0, k0⟩ := g 0 f0 c0 rfl o0 rfl
  obtain ⟨x1, rfl, y1, k1⟩ := g 1 f1 c1 rfl o1 rfl
  obtain ⟨x2, rfl, y2, k2⟩ := g 2 f2 c2 rfl o2 rfl
  have hxs : xs = [(.lit (.int .i64 x0), []), (.lit (.int .i64 x1), []), (.lit (.int .i64 x2), [])] := by
    match xs, hlen with
    | [a0, a1, a2], _ => simp at y0 y1 y2; rw [y0, y1, y2]
  subst hxs
  simp only [Prod.mk.injEq] at hx
  exact ⟨x0, x1, x2, rfl, by simpa using hx.1, by simpa using hx.2, k0, k1, k2⟩

theorem shut_ints3 {H : Type} {enc : TypeId × Value → H} {P : Program} {w : World} {base : Nat} {spare : Nat → Bool} {held : Bool} {t e : TypeId} {f0 f1 f2 : Field} {x0 x1 x2 : Int}
    (hs : P.underlying t = some (.struct #[f0, f1, f2])) (hC : P.cellsOf t = 3) (he : P.underlying e = some (.int .i64)) (hce : P.cellsOf e = 1)
    (o0 : f0.offset = 0 ∧ f0.type = e) (o1 : f1.offset = 1 ∧ f1.type = e) (o2 : f2.offset = 2 ∧ f2.type = e)
    (k0 : (Lit.int .i64 x0).wf = true) (k1 : (Lit.int .i64 x1).wf = true) (k2 : (Lit.int .i64 x2).wf = true) :
    DataW.Trod enc P w base spare held t (.agg #[.int .i64 x0, .int .i64 x1, .int .i64 x2]) (.agg [.lit (.int .i64 x0), .lit (.int .i64 x1), .lit (.int .i64 x2)]) [] := by
  have one : ∀ x : Int, (Lit.int .i64 x).wf = true → DataW.trod enc P w base spare held 1 e [.int .i64 x] = some (.lit (.int .i64 x), []) := fun x hx => by simp [DataW.trod, he, hx]
  have ts := trod_struct_mk (enc := enc) (w := w) (base := base) (spare := spare) (held := held) (n := 1) (cs := [.int .i64 x0, .int .i64 x1, .int .i64 x2])
    (xs := [(.lit (.int .i64 x0), []), (.lit (.int .i64 x1), []), (.lit (.int .i64 x2), [])]) hs (by simp [hC])
    (by simp [o0, o1, o2, hce, one _ k0, one _ k1, one _ k2])
  exact ⟨_, by simpa [Value.cells] using ts⟩

end Go.Proofs.Ytefpmidjedfjmaa
