/-
  Layer 11's laws: tiny, small, awake; StoreNil, StoreOpens.
-/
import Derived.Test.YtgamakejaknagaaGreatPackZ
import Derived.Lib.SlBytesConst
namespace Go.Proofs.YtgamakejaknagaaGreat
open Go.RowKit Go.Maps
set_option linter.unusedVariables false
set_option maxRecDepth 8192

/-- Is a geometry looked at? -/
def small11 (b p s n f : Int) : Bool := mayG b p s n f && decide (s * n ≤ 32 ∧ b ≤ 12 ∧ p ≤ 5)
/-- A small geometry. -/
theorem geo11_ex {b p s n f : Int} (hs : small11 b p s n f = true) : ∃ G : Geo, b = G.b ∧ p = G.p ∧ s = G.s ∧ n = G.n ∧ f = G.f ∧ G.b ≤ 12 ∧ G.p ≤ 5 ∧ G.R ≤ 32 := by
  unfold small11 at hs
  rw [Bool.and_eq_true, decide_eq_true_iff] at hs
  obtain ⟨h, h1, h2, h3⟩ := hs
  obtain ⟨S, N, F, R, m, W, L, rfl, rfl, rfl, G⟩ := gok_ex h (by omega)
  refine ⟨⟨b, p, S, N, F, R, m, W, L, G⟩, rfl, rfl, rfl, rfl, rfl, h2, h3, ?_⟩
  have := G.hR
  show R ≤ 32
  rw [← Int.natCast_mul] at h1
  omega
theorem row_mark11 (k : IntKind) (w : World) (e : TypeId) (fr : Nat × Nat) (zs : List Int) (n : Nat) (hn : zs.length = n) (hm : n ≤ maxLen) (cs : Array Value) (hc : cs = (zs.map (Value.int k)).toArray) :
    Row k (w.alloc (.cells cs e fr)) (some ⟨w.heap.size, 0, none⟩) n n zs := by
  subst hc
  refine ⟨hn, Nat.le_refl _, hm, (fun h => by cases h), fun _ => ⟨w.heap.size, 0, rfl, by simp, fun i hi => ?_⟩⟩
  rw [World.cell?_alloc_mark, Nat.zero_add]
  simp [List.getElem?_map, List.getElem?_eq_getElem (show i < zs.length from by omega)]
theorem isB_abc : IsB [97, 98, 99] := fun z hz => by simp only [List.mem_cons, List.not_mem_nil, or_false] at hz; omega
end Go.Proofs.YtgamakejaknagaaGreat
