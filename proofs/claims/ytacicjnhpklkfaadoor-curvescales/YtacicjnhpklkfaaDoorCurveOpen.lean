/-
  Layer 17: points that came in; the curve's number in its variable as the row lists it.
-/
import Derived.Test.YtacicjnhpklkfaaDoorFieldOpen
import Derived.Test.YtacicjnhpklkfaaDoorCurveBase
import Derived.LaidMore
import Derived.MakeChecks
import Derived.Stop.Joined
namespace Go.Proofs.YtacicjnhpklkfaaDoor.N
open Go.RowKit Go.Maps Go.ChangeShapes
set_option linter.unusedVariables false
set_option maxRecDepth 8192

/-- Bytes that came in, as numbers. -/
theorem bytes17 {zs : List Int} (h : ∀ n ∈ zs, 0 ≤ n ∧ n ≤ 255) : ∃ l : List Nat, zs = nI l ∧ Dig l := by
  refine ⟨zs.map Int.toNat, ?_, ?_⟩
  · unfold nI
    rw [List.map_map]
    have e : zs.map ((fun n : Nat => (n : Int)) ∘ Int.toNat) = zs.map id := by
      apply List.map_congr_left
      intro x hx
      have := h x hx
      simp
      omega
    rw [e, List.map_id]
  · intro x hx
    obtain ⟨y, hy, rfl⟩ := List.mem_map.1 hx
    have := h y hy
    omega
/-- 32 bytes as cells, and as they read. -/
theorem trod_b32 {H : Type} {enc : TypeId × Value → H} {P : Program} {w : World} {base : Nat} {spare : Nat → Bool} {held : Bool} {fuel : Nat} {t e : TypeId} {cs : List Value} {x : DataW H × List MemPlace}
    (ht : P.underlying t = some (.array 32 e)) (hC : P.cellsOf t = 32) (he : P.underlying e = some (.int .u8)) (hce : P.cellsOf e = 1)
    (hf : DataW.trod enc P w base spare held fuel t cs = some x) : ∃ a : Nat, a < 2 ^ 256 ∧ cs = (bA a).toList ∧ x.1 = .agg ((digL a 32).map fun (n : Nat) => .lit (.int .u8 (n : Int))) := by
  obtain ⟨xs, m, _, hx, hcl, hlen, hfi⟩ := DataW.trod_array ht hf
  rw [hC] at hcl
  have g : ∀ i, i < 32 → ∃ n : Nat, n < 256 ∧ cs[i]? = some (.int .u8 (n : Int)) ∧ (xs[i]?).map (·.1) = some (.lit (.int .u8 (n : Int))) := by
    intro i hi
    have h1 := hfi i hi
    have hil : i < cs.length := by omega
    have e1 : ((cs.drop (i * P.cellsOf e)).take (P.cellsOf e)) = [cs[i]] := by
      rw [hce, Nat.mul_one, List.take_one, List.head?_drop, List.getElem?_eq_getElem hil]
      rfl
    rw [e1, List.getElem?_eq_getElem (show i < xs.length by omega)] at h1
    obtain ⟨n, en, hd, wn⟩ := DataW.trod_int he h1
    have hb := bounds_b8 wn
    have e3 : ((n.toNat : Nat) : Int) = n := by omega
    refine ⟨n.toNat, by omega, ?_, ?_⟩
    · rw [List.getElem?_eq_getElem hil]
      simp only [List.cons.injEq, and_true] at en
      rw [en, e3]
    · rw [List.getElem?_eq_getElem (show i < xs.length by omega), hd, e3]
      rfl
  have hl : (cs.map natOf).length = 32 := by rw [List.length_map]; exact hcl
  have hn : ∀ i, i < 32 → ∃ n : Nat, n < 256 ∧ (cs.map natOf)[i]? = some n ∧ cs[i]? = some (.int .u8 (n : Int)) ∧ (xs[i]?).map (·.1) = some (.lit (.int .u8 (n : Int))) := by
    intro i hi
    obtain ⟨n, h1, h2, h3⟩ := g i hi
    exact ⟨n, h1, by rw [List.getElem?_map, h2]; simp [natOf], h2, h3⟩
  have hd : Dig (cs.map natOf) := by
    intro y hy
    obtain ⟨i, hi, rfl⟩ := List.mem_iff_getElem.1 hy
    obtain ⟨n, h1, h2, _⟩ := hn i (by omega)
    rw [List.getElem?_eq_getElem hi] at h2
    rw [Option.some.inj h2]
    exact h1
  have hv2 := hd.vL_lt
  rw [hl, b256] at hv2
  have e2 := digL_of hd
  rw [hl] at e2
  refine ⟨vL (cs.map natOf), hv2, ?_, ?_⟩
  · rw [bA_def, ← e2]
    apply List.ext_getElem?
    intro i
    rcases Nat.lt_or_ge i 32 with hi | hi
    · obtain ⟨n, h1, h2, h3, _⟩ := hn i hi
      rw [h3]
      simp only [arr, nI, List.map_map, List.getElem?_map, List.toList_toArray] at h2 ⊢
      rw [h3]
      simp [natOf]
    · rw [List.getElem?_eq_none (by omega), List.getElem?_eq_none (by simp [arr, nI]; omega)]
  · rw [← e2, hx]
    show DataW.agg _ = DataW.agg _
    congr 1
    apply List.ext_getElem?
    intro i
    rcases Nat.lt_or_ge i 32 with hi | hi
    · obtain ⟨n, h1, h2, h3, h4⟩ := hn i hi
      rw [List.getElem?_map, h4, List.getElem?_map, h2]
      rfl
    · rw [List.getElem?_eq_none (by simp; omega), List.getElem?_eq_none (by simp; omega)]
/-- A point that came in. -/
theorem open_p64 {H : Type} {enc : TypeId × Value → H} {P : Program} {w : World} {base : Nat} {spare : Nat → Bool} {held : Bool} {r : Reach} {b0 : Nat} {t b e : TypeId} {f0 f1 : Field} {v : Value} {d : DataW H} {p : List MemPlace}
    (hs : P.underlying t = some (.struct #[f0, f1])) (hC : P.cellsOf t = 64) (ht : P.underlying b = some (.array 32 e)) (hCb : P.cellsOf b = 32) (he : P.underlying e = some (.int .u8)) (hce : P.cellsOf e = 1)
    (o0 : f0.offset = 0 ∧ f0.type = b) (o1 : f1.offset = 32 ∧ f1.type = b)
    (hv : Value.okWide P w r b0 t v) (h : DataW.Trod enc P w base spare held t v d p) : ∃ x y : Nat, x < 2 ^ 256 ∧ y < 2 ^ 256 ∧ v = .agg (pA x y) := by
  obtain ⟨cs, rfl, hsz⟩ := WideShapes.okWide_struct hs hv
  rw [hC] at hsz
  obtain ⟨fuel, hf⟩ := h
  obtain ⟨xs, n, _, hx, _, hlen, hfi⟩ := DataW.trod_struct hs hf
  have hlen2 : xs.length = 2 := hlen
  have hcs : (Value.agg cs).cells.toList = cs.toList := rfl
  have h0 := hfi 0 f0 rfl
  have h1 := hfi 1 f1 rfl
  rw [o0.1, o0.2, hCb, hcs, List.getElem?_eq_getElem (show 0 < xs.length by omega)] at h0
  rw [o1.1, o1.2, hCb, hcs, List.getElem?_eq_getElem (show 1 < xs.length by omega)] at h1
  obtain ⟨x, hxl, ex, _⟩ := trod_b32 ht hCb he hce h0
  obtain ⟨y, hyl, ey, _⟩ := trod_b32 ht hCb he hce h1
  refine ⟨x, y, hxl, hyl, ?_⟩
  congr 1
  apply Array.toList_inj.1
  rw [pA_def, Array.toList_append, ← ex, ← ey, List.drop_zero]
  have h3 : (cs.toList.drop 32).take 32 = cs.toList.drop 32 := List.take_of_length_le (by simp; omega)
  rw [h3, List.take_append_drop]
theorem gD : Tryd.prog.globalNamed "casemate/curve.d" = some 0 := by kernel_rfl
theorem tD : (Tryd.prog.globals[0]?).map (·.type) = some 22 := by kernel_rfl
theorem cB32 : Tryd.prog.cellsOf 22 = 32 := by kernel_rfl
theorem cU8 : Tryd.prog.cellsOf 5 = 1 := by kernel_rfl
theorem dL_map : (Rows.laid_casemate_curve_d : DataW Unit) = .agg ((digL dN 32).map fun (n : Nat) => .lit (.int .u8 (n : Int))) := by
  have h : digL dN 32 = [163, 120, 89, 19, 202, 77, 235, 117, 171, 216, 65, 65, 77, 10, 112, 0, 152, 232, 121, 119, 121, 64, 199, 140, 115, 254, 111, 43, 238, 108, 3, 82] := by decide +kernel
  rw [h]
  rfl
theorem dL_inj {a : Nat} (ha : a < 2 ^ 256) (h : (DataW.agg ((digL a 32).map fun (n : Nat) => .lit (.int .u8 (n : Int))) : DataW Unit) = .agg ((digL dN 32).map fun (n : Nat) => .lit (.int .u8 (n : Int)))) : a = dN := by
  have h1 := DataW.agg.inj h
  have h2 : digL a 32 = digL dN 32 := by
    apply List.ext_getElem?
    intro i
    have h3 := congrArg (·[i]?) h1
    simp only [List.getElem?_map] at h3
    cases e1 : (digL a 32)[i]? <;> cases e2 : (digL dN 32)[i]? <;> (try rw [e1, e2] at h3) <;> simp at h3
    congr 1
    omega
  have h3 := congrArg vL h2
  rwa [vL_digL_lt (by rw [b256]; exact ha), vL_digL_lt (by rw [b256]; exact elt256 dN_lt)] at h3
/-- The listed variable holds the curve's number. -/
theorem of_laid {W : World} (h : laidMetH Tryd.prog [("casemate/curve.d", Rows.laid_casemate_curve_d)] W) : DAt W := by
  rw [MakeChecks.laidMetH_plain _ _ _ (by kernel_rfl)] at h
  obtain ⟨ps, ⟨g0, t0, cs0, f0, p0, q0, hg0, ht0, hv0, hd0, _⟩, _, _⟩ := h
  obtain rfl := Option.some.inj (gD.symm.trans hg0)
  obtain rfl := Option.some.inj (tD.symm.trans ht0)
  obtain ⟨a, ha, hcs, hx⟩ := trod_b32 Tryd.underlying22 cB32 Tryd.underlying5 cU8 hd0
  obtain rfl : a = dN := dL_inj ha (hx.symm.trans dL_map)
  have hcs2 : cs0 = bA dN := Array.toList_inj.1 hcs
  subst hcs2
  simp only [World.var?, gD, Option.bind_some] at hv0
  split at hv0
  · rename_i cs T fr hh
    obtain rfl := Option.some.inj hv0
    exact ⟨T, fr, hh⟩
  · cases hv0
/-- The door's own heap meets the condition. -/
theorem door_met (os : Os) (args : Array Value) : laidMetH Tryd.prog [("casemate/curve.d", Rows.laid_casemate_curve_d)] ((World.doorLaid Tryd.prog 400 os).forCall (fun _ _ => 0) ⟨#[], args, []⟩).memory :=
  laidMetH_of_parts3 (fuel := 8) (laidMet_of_run' 8 (by kernel_rfl) (by kernel_rfl)) (by kernel_rfl) (by kernel_rfl)
end Go.Proofs.YtacicjnhpklkfaaDoor.N
