/-
  Layer 20: a manifest that came in.
-/
import Derived.Deep.Slices
import Derived.ProofKit
import Derived.OpenShut
import Derived.Test.YtjcfooiibgidhaaManBase
import Derived.Test.YtjcfooiibgidhaaRows
namespace Go.Proofs.Ytjcfooiibgidhaa.N
open Go.RowKit Go.Maps Go.ChangeShapes
set_option linter.unusedVariables false
set_option maxRecDepth 8192

def intOf20 : Value → Int
  | .int _ z => z
  | _ => 0
theorem bounds_u8 {n : Int} (h : (Lit.int .u8 n).wf = true) : 0 ≤ n ∧ n ≤ 255 := by
  simp [Lit.wf, IntKind.min, IntKind.max, IntKind.signed, IntKind.bits] at h
  omega
/-- 32 bytes of a digest, as cells. -/
theorem trod_dig {H : Type} {enc : TypeId × Value → H} {P : Program} {w : World} {base : Nat} {spare : Nat → Bool} {held : Bool} {fuel : Nat} {t e : TypeId} {cs : List Value} {x : DataW H × List MemPlace}
    (ht : P.underlying t = some (.array 32 e)) (hC : P.cellsOf t = 32) (he : P.underlying e = some (.int .u8)) (hce : P.cellsOf e = 1)
    (hf : DataW.trod enc P w base spare held fuel t cs = some x) : ∃ d : List Int, d.length = 32 ∧ IsB d ∧ cs = d.map (Value.int .u8) := by
  obtain ⟨xs, m, _, hx, hcl, hlen, hfi⟩ := DataW.trod_array ht hf
  rw [hC] at hcl
  have g : ∀ i, i < 32 → ∃ n : Int, (0 ≤ n ∧ n ≤ 255) ∧ cs[i]? = some (.int .u8 n) := by
    intro i hi
    have h1 := hfi i hi
    have hil : i < cs.length := by omega
    have e1 : ((cs.drop (i * P.cellsOf e)).take (P.cellsOf e)) = [cs[i]] := by
      rw [hce, Nat.mul_one, List.take_one, List.head?_drop, List.getElem?_eq_getElem hil]
      rfl
    rw [e1, List.getElem?_eq_getElem (show i < xs.length by omega)] at h1
    obtain ⟨n, en, hd, wn⟩ := DataW.trod_int he h1
    refine ⟨n, bounds_u8 wn, ?_⟩
    rw [List.getElem?_eq_getElem hil]
    simp only [List.cons.injEq, and_true] at en
    rw [en]
  refine ⟨cs.map intOf20, by rw [List.length_map]; exact hcl, fun y hy => ?_, ?_⟩
  · obtain ⟨v, hv, rfl⟩ := List.mem_map.1 hy
    obtain ⟨i, hi, rfl⟩ := List.mem_iff_getElem.1 hv
    obtain ⟨n, hn, e2⟩ := g i (by omega)
    rw [List.getElem?_eq_getElem hi] at e2
    simp only [Option.some.injEq] at e2
    rw [e2]
    exact hn
  · apply List.ext_getElem?
    intro i
    rcases Nat.lt_or_ge i 32 with hi | hi
    · obtain ⟨n, _, e2⟩ := g i hi
      rw [e2]
      simp [e2, intOf20]
    · rw [List.getElem?_eq_none (by omega), List.getElem?_eq_none (by simp; omega)]
end Go.Proofs.Ytjcfooiibgidhaa.N
