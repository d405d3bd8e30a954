/-
  A struct of five integers that came in by value: opened and shut.
-/
import Derived.Test.YtgamakejaknagaaGreatRows
import Derived.WalkKit
import Derived.ProofKit
import Derived.OpenShut
namespace Go.Proofs.YtgamakejaknagaaGreat
open Go.ChangeShapes Go.WideShapes Go.ChangeAt Go.RowKit
set_option linter.unusedVariables false
set_option maxRecDepth 8192

theorem array5 {α : Type} {cs : Array α} (h : cs.size = 5) : ∃ c0 c1 c2 c3 c4, cs = #[c0, c1, c2, c3, c4] := by
  obtain ⟨l⟩ := cs
  match l, h with
  | [c0, c1, c2, c3, c4], _ => exact ⟨c0, c1, c2, c3, c4, rfl⟩

theorem open_ints5 {H : Type} {enc : TypeId × Value → H} {P : Program} {w : World} {base : Nat} {spare : Nat → Bool} {held : Bool} {r : Reach} {b0 : Nat} {t e : TypeId} {f0 f1 f2 f3 f4 : Field} {v : Value} {d : DataW H} {p : List MemPlace}
    (hs : P.underlying t = some (.struct #[f0, f1, f2, f3, f4])) (hC : P.cellsOf t = 5) (he : P.underlying e = some (.int .i64)) (hce : P.cellsOf e = 1)
    (o0 : f0.offset = 0 ∧ f0.type = e) (o1 : f1.offset = 1 ∧ f1.type = e) (o2 : f2.offset = 2 ∧ f2.type = e) (o3 : f3.offset = 3 ∧ f3.type = e) (o4 : f4.offset = 4 ∧ f4.type = e)
    (hv : Value.okWide P w r b0 t v) (h : DataW.Trod enc P w base spare held t v d p) :
    ∃ x0 x1 x2 x3 x4 : Int, v = .agg #[.int .i64 x0, .int .i64 x1, .int .i64 x2, .int .i64 x3, .int .i64 x4] ∧ d = .agg [.lit (.int .i64 x0), .lit (.int .i64 x1), .lit (.int .i64 x2), .lit (.int .i64 x3), .lit (.int .i64 x4)] ∧ p = [] ∧
      (Lit.int .i64 x0).wf = true ∧ (Lit.int .i64 x1).wf = true ∧ (Lit.int .i64 x2).wf = true ∧ (Lit.int .i64 x3).wf = true ∧ (Lit.int .i64 x4).wf = true := by
  obtain ⟨cs, rfl, hsz⟩ := okWide_struct hs hv
  obtain ⟨c0, c1, c2, c3, c4, rfl⟩ := array5 (hsz.trans hC)
  obtain ⟨fuel, hf⟩ := h
  obtain ⟨xs, n, _, hx, _, hlen, hfi⟩ := DataW.trod_struct hs hf
  have g : ∀ (i : Nat) (f : Field) (c : Value), (#[f0, f1, f2, f3, f4] : Array Field)[i]? = some f → f.offset = i ∧ f.type = e → (#[c0, c1, c2, c3, c4] : Array Value).toList[i]? = some c → ∃ x, c = .int .i64 x ∧ xs[i]? = some (.lit (.int .i64 x), []) ∧ (Lit.int .i64 x).wf = true := by
    intro i f c hi ho hc
    have h1 := hfi i f hi
    rw [ho.1, ho.2, hce] at h1
    have e1 : (((Value.agg #[c0, c1, c2, c3, c4]).cells.toList.drop i).take 1) = [c] := by
      have : (Value.agg #[c0, c1, c2, c3, c4]).cells.toList = (#[c0, c1, c2, c3, c4] : Array Value).toList := by simp [Value.cells]
      rw [this, List.take_one, List.head?_drop, hc]
      rfl
    rw [e1] at h1
    have hil : i < xs.length := by
      rw [hlen]
      exact (Array.getElem?_eq_some_iff.1 hi).1
    rw [List.getElem?_eq_getElem hil] at h1
    obtain ⟨x, h2, h3, h4⟩ := DataW.trod_int he h1
    simp only [List.cons.injEq, and_true] at h2
    exact ⟨x, h2, by rw [List.getElem?_eq_getElem hil, h3], h4⟩
  obtain ⟨x0, rfl, y0, k0⟩ := g 0 f0 c0 rfl o0 rfl
  obtain ⟨x1, rfl, y1, k1⟩ := g 1 f1 c1 rfl o1 rfl
  obtain ⟨x2, rfl, y2, k2⟩ := g 2 f2 c2 rfl o2 rfl
  obtain ⟨x3, rfl, y3, k3⟩ := g 3 f3 c3 rfl o3 rfl
  obtain ⟨x4, rfl, y4, k4⟩ := g 4 f4 c4 rfl o4 rfl
  have hxs : xs = [(.lit (.int .i64 x0), []), (.lit (.int .i64 x1), []), (.lit (.int .i64 x2), []), (.lit (.int .i64 x3), []), (.lit (.int .i64 x4), [])] := by
    match xs, hlen with
    | [a0, a1, a2, a3, a4], _ => simp at y0 y1 y2 y3 y4; rw [y0, y1, y2, y3, y4]
  subst hxs
  simp only [Prod.mk.injEq] at hx
  exact ⟨x0, x1, x2, x3, x4, rfl, by simpa using hx.1, by simpa using hx.2, k0, k1, k2, k3, k4⟩

theorem shut_ints5 {H : Type} {enc : TypeId × Value → H} {P : Program} {w : World} {base : Nat} {spare : Nat → Bool} {held : Bool} {t e : TypeId} {f0 f1 f2 f3 f4 : Field} {x0 x1 x2 x3 x4 : Int}
    (hs : P.underlying t = some (.struct #[f0, f1, f2, f3, f4])) (hC : P.cellsOf t = 5) (he : P.underlying e = some (.int .i64)) (hce : P.cellsOf e = 1)
    (o0 : f0.offset = 0 ∧ f0.type = e) (o1 : f1.offset = 1 ∧ f1.type = e) (o2 : f2.offset = 2 ∧ f2.type = e) (o3 : f3.offset = 3 ∧ f3.type = e) (o4 : f4.offset = 4 ∧ f4.type = e)
    (k0 : (Lit.int .i64 x0).wf = true) (k1 : (Lit.int .i64 x1).wf = true) (k2 : (Lit.int .i64 x2).wf = true) (k3 : (Lit.int .i64 x3).wf = true) (k4 : (Lit.int .i64 x4).wf = true) :
    DataW.Trod enc P w base spare held t (.agg #[.int .i64 x0, .int .i64 x1, .int .i64 x2, .int .i64 x3, .int .i64 x4]) (.agg [.lit (.int .i64 x0), .lit (.int .i64 x1), .lit (.int .i64 x2), .lit (.int .i64 x3), .lit (.int .i64 x4)]) [] := by
  have one : ∀ x : Int, (Lit.int .i64 x).wf = true → DataW.trod enc P w base spare held 1 e [.int .i64 x] = some (.lit (.int .i64 x), []) := fun x hx => by simp [DataW.trod, he, hx]
  have ts := trod_struct_mk (enc := enc) (w := w) (base := base) (spare := spare) (held := held) (n := 1) (cs := [.int .i64 x0, .int .i64 x1, .int .i64 x2, .int .i64 x3, .int .i64 x4])
    (xs := [(.lit (.int .i64 x0), []), (.lit (.int .i64 x1), []), (.lit (.int .i64 x2), []), (.lit (.int .i64 x3), []), (.lit (.int .i64 x4), [])]) hs (by simp [hC])
    (by simp [o0, o1, o2, o3, o4, hce, one _ k0, one _ k1, one _ k2, one _ k3, one _ k4])
  exact ⟨_, by simpa [Value.cells] using ts⟩

end Go.Proofs.YtgamakejaknagaaGreat
