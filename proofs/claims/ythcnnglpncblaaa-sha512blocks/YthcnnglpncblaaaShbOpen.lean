/-
  Layer 14: an array of eight uint64 that came in.
-/
import Derived.Deep.Slices
import Derived.ProofKit
import Derived.OpenShut
import Derived.Test.YthcnnglpncblaaaShbCode
import Derived.Test.YthcnnglpncblaaaRows
namespace Go.Proofs.Ythcnnglpncblaaa.B
open Go.RowKit Go.Maps Go.ChangeShapes
set_option linter.unusedVariables false
set_option maxRecDepth 8192

theorem bounds_u64 {n : Int} (h : (Lit.int .u64 n).wf = true) : 0 ≤ n ∧ n ≤ 18446744073709551615 := by
  simp [Lit.wf, IntKind.min, IntKind.max, IntKind.signed, IntKind.bits] at h
  omega
/-- Eight words that came in. -/
theorem open_words8 {H : Type} {enc : TypeId × Value → H} {P : Program} {w : World} {base : Nat} {spare : Nat → Bool} {held : Bool} {r : Reach} {b0 : Nat} {t e : TypeId} {v : Value} {d : DataW H} {p : List MemPlace}
    (ht : P.underlying t = some (.array 8 e)) (hC : P.cellsOf t = 8) (he : P.underlying e = some (.int .u64)) (hce : P.cellsOf e = 1)
    (hv : Value.okWide P w r b0 t v) (h : DataW.Trod enc P w base spare held t v d p) : ∃ s : S8, s.Ok ∧ v = .agg ((nI s.list).map (Value.int .u64)).toArray := by
  simp only [Value.okWide, ht] at hv
  obtain ⟨cs, rfl, hsz, _⟩ := hv
  rw [hC] at hsz
  obtain ⟨fuel, hf⟩ := h
  obtain ⟨xs, m, _, hx, _, hlen, hfi⟩ := DataW.trod_array ht hf
  have g : ∀ i, i < 8 → ∃ n : Nat, n < 18446744073709551616 ∧ cs.toList[i]? = some (.int .u64 (n : Int)) := by
    intro i hi
    have h1 := hfi i hi
    have hil : i < cs.toList.length := by simp; omega
    have e1 : (((Value.agg cs).cells.toList.drop (i * P.cellsOf e)).take (P.cellsOf e)) = [cs.toList[i]] := by
      rw [hce, Nat.mul_one]
      show (cs.toList.drop i).take 1 = _
      rw [List.take_one, List.head?_drop, List.getElem?_eq_getElem hil]
      rfl
    rw [e1, List.getElem?_eq_getElem (show i < xs.length by omega)] at h1
    obtain ⟨n, en, _, wn⟩ := DataW.trod_int he h1
    have hb := bounds_u64 wn
    refine ⟨n.toNat, by omega, ?_⟩
    rw [List.getElem?_eq_getElem hil]
    simp only [List.cons.injEq, and_true] at en
    rw [en]
    congr 2
    omega
  obtain ⟨n0, l0, e0⟩ := g 0 (by omega)
  obtain ⟨n1, l1, e1⟩ := g 1 (by omega)
  obtain ⟨n2, l2, e2⟩ := g 2 (by omega)
  obtain ⟨n3, l3, e3⟩ := g 3 (by omega)
  obtain ⟨n4, l4, e4⟩ := g 4 (by omega)
  obtain ⟨n5, l5, e5⟩ := g 5 (by omega)
  obtain ⟨n6, l6, e6⟩ := g 6 (by omega)
  obtain ⟨n7, l7, e7⟩ := g 7 (by omega)
  refine ⟨⟨n0, n1, n2, n3, n4, n5, n6, n7⟩, ⟨l0, l1, l2, l3, l4, l5, l6, l7⟩, ?_⟩
  congr 1
  apply Array.toList_inj.1
  apply List.ext_getElem?
  intro i
  rcases Nat.lt_or_ge i 8 with hi | hi
  · rcases (show i = 0 ∨ i = 1 ∨ i = 2 ∨ i = 3 ∨ i = 4 ∨ i = 5 ∨ i = 6 ∨ i = 7 by omega) with rfl | rfl | rfl | rfl | rfl | rfl | rfl | rfl
    · exact e0
    · exact e1
    · exact e2
    · exact e3
    · exact e4
    · exact e5
    · exact e6
    · exact e7
  · rw [List.getElem?_eq_none (by simp; omega), List.getElem?_eq_none (by simp [nI, S8.list]; omega)]

theorem bytes_natB {zs : List Int} (h : ∀ n ∈ zs, 0 ≤ n ∧ n ≤ 255) : ∃ l : List Nat, zs = nI l ∧ ∀ x ∈ l, x < 256 := by
  refine ⟨zs.map Int.toNat, ?_, ?_⟩
  · unfold nI
    rw [List.map_map]
    have e : zs.map ((fun n : Nat => (n : Int)) ∘ Int.toNat) = zs.map id := by
      apply List.map_congr_left
      intro x hx
      have := h x hx
      simp
      omega
    rw [e, List.map_id]
  · intro x hx
    obtain ⟨y, hy, rfl⟩ := List.mem_map.1 hx
    have := h y hy
    omega
end Go.Proofs.Ythcnnglpncblaaa.B
