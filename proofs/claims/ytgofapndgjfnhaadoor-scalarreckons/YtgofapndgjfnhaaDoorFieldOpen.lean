/-
  Layer 16: arrays of 32 bytes that came in.
-/
import Derived.Deep.Slices
import Derived.ProofKit
import Derived.OpenShut
import Derived.Test.YtgofapndgjfnhaaDoorFieldCode
import Derived.Test.YtgofapndgjfnhaaDoorRows
namespace Go.Proofs.YtgofapndgjfnhaaDoor.N
open Go.RowKit Go.Maps Go.ChangeShapes
set_option linter.unusedVariables false
set_option maxRecDepth 8192

theorem bounds_b8 {n : Int} (h : (Lit.int .u8 n).wf = true) : 0 ≤ n ∧ n ≤ 255 := by
  simp [Lit.wf, IntKind.min, IntKind.max, IntKind.signed, IntKind.bits] at h
  omega
def natOf : Value → Nat
  | .int _ z => z.toNat
  | _ => 0
/-- 32 bytes that came in. -/
theorem open_b32 {H : Type} {enc : TypeId × Value → H} {P : Program} {w : World} {base : Nat} {spare : Nat → Bool} {held : Bool} {r : Reach} {b0 : Nat} {t e : TypeId} {v : Value} {d : DataW H} {p : List MemPlace}
    (ht : P.underlying t = some (.array 32 e)) (hC : P.cellsOf t = 32) (he : P.underlying e = some (.int .u8)) (hce : P.cellsOf e = 1)
    (hv : Value.okWide P w r b0 t v) (h : DataW.Trod enc P w base spare held t v d p) : ∃ a : Nat, a < 2 ^ 256 ∧ v = .agg (bA a) := by
  simp only [Value.okWide, ht] at hv
  obtain ⟨cs, rfl, hsz, _⟩ := hv
  rw [hC] at hsz
  obtain ⟨fuel, hf⟩ := h
  obtain ⟨xs, m, _, hx, _, hlen, hfi⟩ := DataW.trod_array ht hf
  have g : ∀ i, i < 32 → ∃ n : Nat, n < 256 ∧ cs.toList[i]? = some (.int .u8 (n : Int)) := by
    intro i hi
    have h1 := hfi i hi
    have hil : i < cs.toList.length := by simp; omega
    have e1 : (((Value.agg cs).cells.toList.drop (i * P.cellsOf e)).take (P.cellsOf e)) = [cs.toList[i]] := by
      rw [hce, Nat.mul_one]
      show (cs.toList.drop i).take 1 = _
      rw [List.take_one, List.head?_drop, List.getElem?_eq_getElem hil]
      rfl
    rw [e1, List.getElem?_eq_getElem (show i < xs.length by omega)] at h1
    obtain ⟨n, en, _, wn⟩ := DataW.trod_int he h1
    have hb := bounds_b8 wn
    refine ⟨n.toNat, by omega, ?_⟩
    rw [List.getElem?_eq_getElem hil]
    simp only [List.cons.injEq, and_true] at en
    rw [en]
    congr 2
    omega
  have hl : (cs.toList.map natOf).length = 32 := by simp; omega
  have hd : Dig (cs.toList.map natOf) := by
    intro x hx
    obtain ⟨y, hy, rfl⟩ := List.mem_map.1 hx
    obtain ⟨i, hi, rfl⟩ := List.mem_iff_getElem.1 hy
    obtain ⟨n, hn, en⟩ := g i (by simp at hi; omega)
    rw [List.getElem?_eq_getElem hi] at en
    simp only [Option.some.injEq] at en
    rw [en]
    simpa [natOf] using hn
  have hv2 := hd.vL_lt
  rw [hl, b256] at hv2
  refine ⟨vL (cs.toList.map natOf), hv2, ?_⟩
  have e2 := digL_of hd
  rw [hl] at e2
  rw [bA_def, ← e2]
  congr 1
  apply Array.toList_inj.1
  apply List.ext_getElem?
  intro i
  rcases Nat.lt_or_ge i 32 with hi | hi
  · obtain ⟨n, hn, en⟩ := g i hi
    rw [en]
    simp [arr, nI, en, natOf]
  · rw [List.getElem?_eq_none (by simp; omega), List.getElem?_eq_none (by simp [arr, nI]; omega)]
end Go.Proofs.YtgofapndgjfnhaaDoor.N
