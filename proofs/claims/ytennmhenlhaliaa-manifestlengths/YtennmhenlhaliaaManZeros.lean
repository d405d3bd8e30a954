/-
  Layer 20: noughts that are appended to a list of the call's own: 'append(x, make([]byte, k)...)'.
-/
import Derived.Test.YtennmhenlhaliaaManOwn
import Derived.Lib.AppendZerosOnto
namespace Go.Proofs.Ytennmhenlhaliaa.N
open Go.RowKit
set_option linter.unusedVariables false
set_option maxRecDepth 8192

theorem zero_cells (k : Nat) : (Builtin.zeroCells (Value.int .u8 0).cells k).toList = (List.replicate k (0 : Int)).map (Value.int .u8) := by
  apply List.ext_getElem?
  intro i
  rcases Nat.lt_or_ge i k with h | h
  · simp [Builtin.zeroCells, Value.cells, h, Nat.mod_one]
  · rw [List.getElem?_eq_none (by simp [Builtin.zeroCells, Value.cells]; omega), List.getElem?_eq_none (by simp; omega)]
theorem append_zeros {P : Program} {w : World} {t tn ty e : TypeId} {i : TypeInfo} {kn : IntKind} (ht : P.underlying t = some (.slice e)) (htn : P.underlying tn = some (.int kn)) (hi : P.info? e = some i) (hz : i.zero = some (.int .u8 0)) (hs : i.size = 1) (hb : i.bytes = 1)
    {B g n cap k : Nat} {D : List Int} (own : w.ownsRow B e 1 (.slice (some ⟨g, 0, none⟩) n cap) n (D.map (Value.int .u8))) (hB : B ≤ w.heap.size) (h0 : 0 < k) (hm : n + k ≤ 1000000) :
    ∃ v' w', Sem.run P (Builtin.append_ #[t, tn] ty #[.slice (some ⟨g, 0, none⟩) n cap, .int .i64 (k : Int)]) w = .ok v' w' ∧ w'.ownsRow B e 1 v' (n + k) ((D ++ List.replicate k 0).map (Value.int .u8)) ∧ w.grownBy w' (some g) := by
  have hk : k ≠ 0 := by omega
  have hw : IntKind.i64.wrap (k : Int) = k := by rw [IntKind.wrap_i64]; omega
  have hl : D.length = n := by have := own.1; simpa using this
  rcases own.2 with ⟨h, _⟩ | ⟨g', cap', cur, h', hg, hh, hnc, hcm, hcs, htake⟩
  · cases h
  cases h'
  by_cases hroom : n + k ≤ cap
  · have hfit : n + (Builtin.zeroCells (Value.int .u8 0).cells k).toList.length ≤ cur.size := by rw [zero_cells, hcs]; simp; omega
    have hst := run_storeCells_at P g n e (Builtin.zeroCells (Value.int .u8 0).cells k).toList 0 cur w hh (by simpa using hfit) (by rw [zero_cells]; exact ints_oneCell _ _)
    simp only [Nat.add_zero] at hst
    have h48i : ¬ (281474976710656 < (k : Int)) := by omega
    have hneg : ¬ ((k : Int) < 0) := by omega
    have hrun : Sem.run P (Builtin.append_ #[t, tn] ty #[.slice (some ⟨g, 0, none⟩) n cap, .int .i64 (k : Int)]) w = .ok (.slice (some ⟨g, 0, none⟩) (n + k) cap) (w.setRow g (cur.toList.take n ++ (Builtin.zeroCells (Value.int .u8 0).cells k).toList ++ cur.toList.drop (n + (Builtin.zeroCells (Value.int .u8 0).cells k).toList.length)).toArray) := by
      simp [Builtin.append_, run_underlying ht, run_underlying htn, sizeOf, typeInfo, zeroValue, hi, hz, hs, hb, asInt, asIntOf, hw, hroom, hneg, hk, h48i, plain_add, hst]
    refine ⟨_, _, hrun, ⟨by simp [hl], .inr ⟨g, cap, _, rfl, hg, setRow_heap w g cur _ e _ hh, hroom, hcm, ?_, ?_⟩⟩, ⟨rfl, rfl, rfl, by simp, fun j _ hj => setRow_other w g j _ (fun e => hj (by rw [e]))⟩⟩
    · have hzl : (Builtin.zeroCells (Value.int .u8 0).cells k).toList.length = k := by rw [zero_cells]; simp
      simp only [List.size_toArray, List.length_append, List.length_take, List.length_drop, hzl, Array.length_toList]
      omega
    · have ht2 : cur.toList.take n = D.map (Value.int .u8) := by simpa using htake
      rw [ht2, zero_cells, List.map_append]
      exact List.take_left' (by simp [hl])
  · have hold : (Builtin.firstCells i.size n (.slice (some ⟨g, 0, none⟩) n cap)).run P w.drew = .ok (D.map (Value.int .u8)).toArray w.drew := by
      have holds : ∀ j u, (D.map (Value.int .u8))[j]? = some u → w.drew.cell? ((⟨g, 0, none⟩ : Addr).add j) = some u := own.drew.cells (g := g) rfl
      have := run_firstCells_some (P := P) w.drew 1 n ⟨g, 0, none⟩ n cap (D.map (Value.int .u8)) (by simp [hl]) holds
      rw [hs]
      exact this
    have hge := grownCap_ge w (n + k) cap e
    have hcm' : grownCap w (n + k) cap e ≤ maxLen := grownCap_le_maxLen w (n + k) cap e (by unfold maxLen; omega)
    have hrun := Lib.run_append_grow_zeros (P := P) w t tn ty e i (.int .u8 0) .i64 kn ht htn hi hz (some ⟨g, 0, none⟩) n cap (D.map (Value.int .u8)) hold k h0 (by omega) (by omega) (by omega) (by rw [hb]; omega) (growslice_fits (by omega) (by rw [hb]; omega))
    refine ⟨_, _, hrun, ⟨by simp [hl], .inr ⟨w.heap.size, _, _, rfl, hB, heap_alloc_new w.drew _, hge, hcm', ?_, ?_⟩⟩, ⟨rfl, rfl, rfl, by simp, fun j hj _ => Below.heap_alloc w.drew _ j hj⟩⟩
    · simp [size_zeroCells, Value.cells, hl]
      omega
    · simp only [Array.toList_append, zero_cells]
      rw [List.map_append]
      exact List.take_left' (by simp [hl])
end Go.Proofs.Ytennmhenlhaliaa.N
