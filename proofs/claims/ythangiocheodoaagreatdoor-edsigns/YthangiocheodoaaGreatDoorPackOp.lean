/-
 Layer 16: arrays of 32 bytes that came in.
-/
import Derived.Deep.Slices
import Derived.ProofKit
import Derived.OpenShut
import Derived.Test.YthangiocheodoaaGreatDoorPackFb
import Derived.Test.YthangiocheodoaaGreatDoorRows
import Derived.LaidMore
import Derived.MakeChecks
import Derived.Stop.Joined
import Derived.Test.YthangiocheodoaaGreatDoorPackSs
import Derived.Test.YthangiocheodoaaGreatDoorPackCb
namespace Go.Proofs.YthangiocheodoaaGreatDoor.N
open Go.RowKit Go.Maps Go.ChangeShapes
set_option linter.unusedVariables false
set_option maxRecDepth 8192

theorem bounds_b8 {n : Int} (h : (Lit.int .u8 n).wf = true) : 0 ≤ n ∧ n ≤ 255 := by
 simp [Lit.wf, IntKind.min, IntKind.max, IntKind.signed, IntKind.bits] at h
 omega
def natOf : Value → Nat
 | .int _ z => z.toNat
 | _ => 0
/-- 32 bytes that came in. -/
theorem open_b32 {H : Type} {enc : TypeId × Value → H} {P : Program} {w : World} {base : Nat} {spare : Nat → Bool} {held : Bool} {r : Reach} {b0 : Nat} {t e : TypeId} {v : Value} {d : DataW H} {p : List MemPlace}
  (ht : P.underlying t = some (.array 32 e)) (hC : P.cellsOf t = 32) (he : P.underlying e = some (.int .u8)) (hce : P.cellsOf e = 1)
  (hv : Value.okWide P w r b0 t v) (h : DataW.Trod enc P w base spare held t v d p) : ∃ a : Nat, a < 2 ^ 256 ∧ v = .agg (bA a) := by
 simp only [Value.okWide, ht] at hv
 obtain ⟨cs, rfl, hsz, _⟩ := hv
 rw [hC] at hsz
 obtain ⟨fuel, hf⟩ := h
 obtain ⟨xs, m, _, hx, _, hlen, hfi⟩ := DataW.trod_array ht hf
 have g : ∀ i, i < 32 → ∃ n : Nat, n < 256 ∧ cs.toList[i]? = some (.int .u8 (n : Int)) := by
  intro i hi
  have h1 := hfi i hi
  have hil : i < cs.toList.length := by simp; omega
  have e1 : (((Value.agg cs).cells.toList.drop (i * P.cellsOf e)).take (P.cellsOf e)) = [cs.toList[i]] := by
   rw [hce, Nat.mul_one]
   show (cs.toList.drop i).take 1 = _
   rw [List.take_one, List.head?_drop, List.getElem?_eq_getElem hil]
   rfl
  rw [e1, List.getElem?_eq_getElem (show i < xs.length by omega)] at h1
  obtain ⟨n, en, _, wn⟩ := DataW.trod_int he h1
  have hb := bounds_b8 wn
  refine ⟨n.toNat, by omega, ?_⟩
  rw [List.getElem?_eq_getElem hil]
  simp only [List.cons.injEq, and_true] at en
  rw [en]
  congr 2
  omega
 have hl : (cs.toList.map natOf).length = 32 := by simp; omega
 have hd : Dig (cs.toList.map natOf) := by
  intro x hx
  obtain ⟨y, hy, rfl⟩ := List.mem_map.1 hx
  obtain ⟨i, hi, rfl⟩ := List.mem_iff_getElem.1 hy
  obtain ⟨n, hn, en⟩ := g i (by simp at hi; omega)
  rw [List.getElem?_eq_getElem hi] at en
  simp only [Option.some.injEq] at en
  rw [en]
  simpa [natOf] using hn
 have hv2 := hd.vL_lt
 rw [hl, b256] at hv2
 refine ⟨vL (cs.toList.map natOf), hv2, ?_⟩
 have e2 := digL_of hd
 rw [hl] at e2
 rw [bA_def, ← e2]
 congr 1
 apply Array.toList_inj.1
 apply List.ext_getElem?
 intro i
 rcases Nat.lt_or_ge i 32 with hi | hi
 ·obtain ⟨n, hn, en⟩ := g i hi
  rw [en]
  simp [arr, nI, en, natOf]
 ·rw [List.getElem?_eq_none (by simp; omega), List.getElem?_eq_none (by simp [arr, nI]; omega)]
end Go.Proofs.YthangiocheodoaaGreatDoor.N

/-
 Arrays of 32 bytes that came in; listed variables of 32 bytes, as the rows list them.
-/
namespace Go.Proofs.YthangiocheodoaaGreatDoor.N
open Go.RowKit Go.Maps Go.ChangeShapes
set_option linter.unusedVariables false
set_option maxRecDepth 8192

/-- Bytes that came in, as numbers. -/
theorem bytes17 {zs : List Int} (h : ∀ n ∈ zs, 0 ≤ n ∧ n ≤ 255) : ∃ l : List Nat, zs = nI l ∧ Dig l := by
 refine ⟨zs.map Int.toNat, ?_, ?_⟩
 ·unfold nI
  rw [List.map_map]
  have e : zs.map ((fun n : Nat => (n : Int)) ∘ Int.toNat) = zs.map id := by
   apply List.map_congr_left
   intro x hx
   have := h x hx
   simp
   omega
  rw [e, List.map_id]
 ·intro x hx
  obtain ⟨y, hy, rfl⟩ := List.mem_map.1 hx
  have := h y hy
  omega
/-- 32 bytes as cells, and as they read. -/
theorem trod_b32 {H : Type} {enc : TypeId × Value → H} {P : Program} {w : World} {base : Nat} {spare : Nat → Bool} {held : Bool} {fuel : Nat} {t e : TypeId} {cs : List Value} {x : DataW H × List MemPlace}
  (ht : P.underlying t = some (.array 32 e)) (hC : P.cellsOf t = 32) (he : P.underlying e = some (.int .u8)) (hce : P.cellsOf e = 1)
  (hf : DataW.trod enc P w base spare held fuel t cs = some x) : ∃ a : Nat, a < 2 ^ 256 ∧ cs = (bA a).toList ∧ x.1 = .agg ((digL a 32).map fun (n : Nat) => .lit (.int .u8 (n : Int))) := by
 obtain ⟨xs, m, _, hx, hcl, hlen, hfi⟩ := DataW.trod_array ht hf
 rw [hC] at hcl
 have g : ∀ i, i < 32 → ∃ n : Nat, n < 256 ∧ cs[i]? = some (.int .u8 (n : Int)) ∧ (xs[i]?).map (·.1) = some (.lit (.int .u8 (n : Int))) := by
  intro i hi
  have h1 := hfi i hi
  have hil : i < cs.length := by omega
  have e1 : ((cs.drop (i * P.cellsOf e)).take (P.cellsOf e)) = [cs[i]] := by
   rw [hce, Nat.mul_one, List.take_one, List.head?_drop, List.getElem?_eq_getElem hil]
   rfl
  rw [e1, List.getElem?_eq_getElem (show i < xs.length by omega)] at h1
  obtain ⟨n, en, hd, wn⟩ := DataW.trod_int he h1
  have hb := bounds_b8 wn
  have e3 : ((n.toNat : Nat) : Int) = n := by omega
  refine ⟨n.toNat, by omega, ?_, ?_⟩
  ·rw [List.getElem?_eq_getElem hil]
   simp only [List.cons.injEq, and_true] at en
   rw [en, e3]
  ·rw [List.getElem?_eq_getElem (show i < xs.length by omega), hd, e3]
   rfl
 have hl : (cs.map natOf).length = 32 := by rw [List.length_map]; exact hcl
 have hn : ∀ i, i < 32 → ∃ n : Nat, n < 256 ∧ (cs.map natOf)[i]? = some n ∧ cs[i]? = some (.int .u8 (n : Int)) ∧ (xs[i]?).map (·.1) = some (.lit (.int .u8 (n : Int))) := by
  intro i hi
  obtain ⟨n, h1, h2, h3⟩ := g i hi
  exact ⟨n, h1, by rw [List.getElem?_map, h2]; simp [natOf], h2, h3⟩
 have hd : Dig (cs.map natOf) := by
  intro y hy
  obtain ⟨i, hi, rfl⟩ := List.mem_iff_getElem.1 hy
  obtain ⟨n, h1, h2, _⟩ := hn i (by omega)
  rw [List.getElem?_eq_getElem hi] at h2
  rw [Option.some.inj h2]
  exact h1
 have hv2 := hd.vL_lt
 rw [hl, b256] at hv2
 have e2 := digL_of hd
 rw [hl] at e2
 refine ⟨vL (cs.map natOf), hv2, ?_, ?_⟩
 ·rw [bA_def, ← e2]
  apply List.ext_getElem?
  intro i
  rcases Nat.lt_or_ge i 32 with hi | hi
  ·obtain ⟨n, h1, h2, h3, _⟩ := hn i hi
   rw [h3]
   simp only [arr, nI, List.map_map, List.getElem?_map, List.toList_toArray] at h2 ⊢
   rw [h3]
   simp [natOf]
  ·rw [List.getElem?_eq_none (by omega), List.getElem?_eq_none (by simp [arr, nI]; omega)]
 ·rw [← e2, hx]
  show DataW.agg _ = DataW.agg _
  congr 1
  apply List.ext_getElem?
  intro i
  rcases Nat.lt_or_ge i 32 with hi | hi
  ·obtain ⟨n, h1, h2, h3, h4⟩ := hn i hi
   rw [List.getElem?_map, h4, List.getElem?_map, h2]
   rfl
  ·rw [List.getElem?_eq_none (by simp; omega), List.getElem?_eq_none (by simp; omega)]
/-- 32 bytes as a row lists them. -/
def datB (v : Nat) : DataW Unit := .agg ((digL v 32).map fun (n : Nat) => .lit (.int .u8 (n : Int)))
theorem datB_inj {a v : Nat} (ha : a < 2 ^ 256) (hv : v < 2 ^ 256) (h : (DataW.agg ((digL a 32).map fun (n : Nat) => .lit (.int .u8 (n : Int))) : DataW Unit) = datB v) : a = v := by
 have h1 := DataW.agg.inj h
 have h2 : digL a 32 = digL v 32 := by
  apply List.ext_getElem?
  intro i
  have h3 := congrArg (·[i]?) h1
  simp only [List.getElem?_map] at h3
  cases e1 : (digL a 32)[i]? <;> cases e2 : (digL v 32)[i]? <;> (try rw [e1, e2] at h3) <;> simp at h3
  congr 1
  omega
 exact bA_inj ha hv h2
theorem cB32 : Tryz.prog.cellsOf 22 = 32 := by kernel_rfl
theorem cU8 : Tryz.prog.cellsOf 5 = 1 := by kernel_rfl
/-- A listed variable of 32 bytes, and those behind it. -/
theorem laid_b32 {n : String} {g v : Nat} {D : DataW Unit} {rest : List (String × DataW Unit)} {ps : List MemPlace} {W : World} (hg : Tryz.prog.globalNamed n = some g) (ht : (Tryz.prog.globals[g]?).map (·.type) = some 22) (hv : v < 2 ^ 256) (hD : D = datB v)
  (h : DataW.LaidVars Tryz.prog W ((n, D) :: rest) ps) : (∃ T fr, W.heap[g]? = some (.cells (bA v) T fr)) ∧ ∃ q, DataW.LaidVars Tryz.prog W rest q := by
 obtain ⟨g0, t0, cs0, f0, p0, q0, hg0, ht0, hv0, hd0, hq, _⟩ := h
 obtain rfl := Option.some.inj (hg.symm.trans hg0)
 obtain rfl := Option.some.inj (ht.symm.trans ht0)
 refine ⟨?_, q0, hq⟩
 obtain ⟨a, ha, hcs, hx⟩ := trod_b32 Tryz.underlying22 cB32 Tryz.underlying5 cU8 hd0
 obtain rfl : a = v := datB_inj ha hv (hx.symm.trans hD)
 have hcs2 : cs0 = bA a := Array.toList_inj.1 hcs
 subst hcs2
 simp only [World.var?, hg, Option.bind_some] at hv0
 split at hv0
 ·rename_i cs T fr hh
  obtain rfl := Option.some.inj hv0
  exact ⟨T, fr, hh⟩
 ·cases hv0
end Go.Proofs.YthangiocheodoaaGreatDoor.N

/-
 Layer 18: the order in its variable as the row lists it.
-/
namespace Go.Proofs.YthangiocheodoaaGreatDoor.N
open Go.RowKit Go.Maps Go.ChangeShapes
set_option linter.unusedVariables false
set_option maxRecDepth 8192

/-- The listed variable holds the order. -/
theorem laid_order {rest : List (String × DataW Unit)} {ps : List MemPlace} {W : World} (h : DataW.LaidVars Tryz.prog W (("casemate/scalar.order", Rows.laid_casemate_scalar_order) :: rest) ps) : OAt W ∧ ∃ q, DataW.LaidVars Tryz.prog W rest q :=
 laid_b32 (g := 1) (v := oL) (by kernel_rfl) (by kernel_rfl) oL_lt256 (by
  have h : digL oL 32 = [237, 211, 245, 92, 26, 99, 18, 88, 214, 156, 247, 162, 222, 249, 222, 20, 0, 0, 0, 0, 0, 0, 0, 0, 0, 0, 0, 0, 0, 0, 0, 16] := by decide +kernel
  unfold datB
  rw [h]
  rfl) h
end Go.Proofs.YthangiocheodoaaGreatDoor.N

/-
 Layer 17: points that came in; the curve's number in its variable as the row lists it.
-/
namespace Go.Proofs.YthangiocheodoaaGreatDoor.N
open Go.RowKit Go.Maps Go.ChangeShapes
set_option linter.unusedVariables false
set_option maxRecDepth 8192

/-- The listed variable holds the curve's number. -/
theorem laid_d {rest : List (String × DataW Unit)} {ps : List MemPlace} {W : World} (h : DataW.LaidVars Tryz.prog W (("casemate/curve.d", Rows.laid_casemate_curve_d) :: rest) ps) : DAt W ∧ ∃ q, DataW.LaidVars Tryz.prog W rest q :=
 laid_b32 (g := 0) (v := dN) (by kernel_rfl) (by kernel_rfl) (elt256 dN_lt) (by
  have h : digL dN 32 = [163, 120, 89, 19, 202, 77, 235, 117, 171, 216, 65, 65, 77, 10, 112, 0, 152, 232, 121, 119, 121, 64, 199, 140, 115, 254, 111, 43, 238, 108, 3, 82] := by decide +kernel
  unfold datB
  rw [h]
  rfl) h
end Go.Proofs.YthangiocheodoaaGreatDoor.N
