/-
  The code of layer 14 (sha512): a new run; Sum.
-/
import Derived.Test.YthcnnglpncblaaaShbHash2
import Derived.Great.FillDense
namespace Go.Proofs.Ythcnnglpncblaaa.B
open Go.RowKit
set_option linter.unusedVariables false
set_option maxRecDepth 8192

/-- A part that is laid into a struct. -/
theorem fill_one (pl : Nat → Option (Nat × Nat)) (i off n : Nat) (c cells : Array Value) (rest : List (Nat × Value)) (hp : pl i = some (off, n)) (hn : c.size = n) (hle : off + n ≤ cells.size) :
    ∃ cs, Instr.fill pl cells ((i, .agg c) :: rest) = Instr.fill pl cs rest ∧ cs.size = cells.size ∧ ∀ k, cs[k]? = if off ≤ k ∧ k < off + n then c[k - off]? else cells[k]? := by
  obtain ⟨g1, g2⟩ := Great.foldl_set off c.toList 0 cells
  have c0 : (Value.agg c).cells = c := rfl
  have l1 : c.toList.length = n := by simpa using hn
  refine ⟨(c.toList.zipIdx 0).foldl (fun cs (x : Value × Nat) => cs.setIfInBounds (off + x.2) x.1) cells, ?_, g1, fun k => ?_⟩
  · rw [Instr.fill]
    simp only [hp, c0, hn]
    rw [if_neg (by simp; omega)]
    congr 1
    rw [← Array.foldl_toList, Array.toList_zipIdx]
  · rw [g2 k, l1]
    by_cases h : off ≤ k ∧ k < off + n
    · rw [if_pos h, if_pos (by omega)]
      simp
    · rw [if_neg h, if_neg (by omega)]
def runPlaces : Array (Nat × Nat) := #[(0, 80), (80, 8), (88, 128), (216, 1)]
theorem fill_run (cK cS Z : Array Value) (hK : cK.size = 80) (hS : cS.size = 8) (hZ : Z.size = 217) :
    ∃ cs, Instr.fill (runPlaces[·]?) Z [(0, .agg cK), (1, .agg cS)] = some cs ∧ cs.size = 217 ∧ ∀ k, cs[k]? = if k < 80 then cK[k]? else if k < 88 then cS[k - 80]? else Z[k]? := by
  obtain ⟨c1, e1, s1, g1⟩ := fill_one (runPlaces[·]?) 0 0 80 cK Z [(1, .agg cS)] rfl hK (by omega)
  obtain ⟨c2, e2, s2, g2⟩ := fill_one (runPlaces[·]?) 1 80 8 cS c1 [] rfl hS (by omega)
  refine ⟨c2, by rw [e1, e2]; rfl, by omega, fun k => ?_⟩
  rw [g2 k, g1 k]
  by_cases h1 : k < 80
  · rw [if_pos h1, if_neg (by omega), if_pos (by omega), Nat.sub_zero]
  · rw [if_neg h1]
    by_cases h2 : k < 88
    · rw [if_pos h2, if_pos (by omega)]
    · rw [if_neg h2, if_neg (by omega), if_neg (by omega)]
/-- (A small seat's program has no name for the cells of a great zero value.) -/
def Try.zeroCells56 : Array Value := ((nI (List.replicate 88 0)).map (Value.int .u64) ++ ((nI (List.replicate 128 0)).map (Value.int .u8) ++ ([.int .i64 0] : List Value))).toArray
theorem Try.zeroValue56 (w : World) : Sem.run Try.prog (zeroValue 56) w = .ok (.agg Try.zeroCells56) w := by kernel_rfl
theorem Try.zeroCells56_size : Try.zeroCells56.size = 217 := by kernel_rfl
theorem Try.zeroCells56_ne : Try.zeroCells56 ≠ #[] := fun h => by have := Try.zeroCells56_size; rw [h] at this; simp at this
attribute [irreducible] Try.zeroCells56
theorem zeroRun : Try.zeroCells56 = ((nI (List.replicate 88 0)).map (Value.int .u64) ++ ((nI (List.replicate 128 0)).map (Value.int .u8) ++ ([.int .i64 0] : List Value))).toArray := by kernel_rfl
theorem builtRun (parts : List (Nat × Value)) : Try.prog.built 56 parts = Instr.fill (runPlaces[·]?) Try.zeroCells56 parts := by kernel_rfl
theorem Try.size56 : (Try.prog.info? 56).map (·.size) = some 217 := by kernel_rfl
/-- What the cells of a new run are. -/
structure NewRun (K s : List Nat) (cs : Array Value) : Prop where
  size : cs.size = 217
  at_ : ∀ k, cs[k]? = if k < 80 then ((nI K).map (Value.int .u64))[k]? else if k < 88 then ((nI s).map (Value.int .u64))[k - 80]? else if k < 216 then ((nI (List.replicate 128 0)).map (Value.int .u8))[k - 88]? else if k = 216 then some (.int .i64 0) else none
theorem zeroRun_at (k : Nat) (h : 88 ≤ k) : Try.zeroCells56[k]? = if k < 216 then ((nI (List.replicate 128 0)).map (Value.int .u8))[k - 88]? else if k = 216 then some (.int .i64 0) else none := by
  rw [zeroRun, List.getElem?_toArray, List.getElem?_append_right (by simp [nI]; omega)]
  have l1 : ((nI (List.replicate 88 0)).map (Value.int .u64)).length = 88 := by simp [nI]
  have l2 : ((nI (List.replicate 128 0)).map (Value.int .u8)).length = 128 := by simp [nI]
  rw [l1]
  by_cases h1 : k < 216
  · rw [if_pos h1, List.getElem?_append_left (by omega)]
  · rw [if_neg h1, List.getElem?_append_right (by omega), l2]
    by_cases h2 : k = 216
    · rw [if_pos h2]; subst h2; rfl
    · rw [if_neg h2, List.getElem?_eq_none (by simp; omega)]
theorem newRun (K s : List Nat) (hK : K.length = 80) (hs : s.length = 8) :
    ∃ cs, Try.prog.built 56 [(0, .agg ((nI K).map (Value.int .u64)).toArray), (1, .agg ((nI s).map (Value.int .u64)).toArray)] = some cs ∧ NewRun K s cs := by
  obtain ⟨cs, h1, h2, h3⟩ := fill_run ((nI K).map (Value.int .u64)).toArray ((nI s).map (Value.int .u64)).toArray Try.zeroCells56 (by simp [nI_length, hK]) (by simp [nI_length, hs]) Try.zeroCells56_size
  refine ⟨cs, by rw [builtRun, h1], h2, fun k => ?_⟩
  rw [h3 k]
  by_cases h : k < 80
  · rw [if_pos h, if_pos h, List.getElem?_toArray]
  · rw [if_neg h, if_neg h]
    by_cases h' : k < 88
    · rw [if_pos h', if_pos h', List.getElem?_toArray]
    · rw [if_neg h', if_neg h', zeroRun_at k (by omega)]
theorem NewRun.ones {K s : List Nat} {cs : Array Value} (h : NewRun K s cs) : cs.all (·.oneCell') = true := by
  rw [Array.all_eq_true]
  intro i hi
  have h1 := h.at_ i
  rw [Array.getElem?_eq_getElem hi] at h1
  have hm : ∀ (k : IntKind) (l : List Int) (j : Nat) (v : Value), some v = (l.map (Value.int k))[j]? → v.oneCell' = true := fun k l j v hv => by
    rw [List.getElem?_map] at hv
    cases hl : l[j]? with
    | none => rw [hl] at hv; simp at hv
    | some x => rw [hl] at hv; simp at hv; rw [hv]; rfl
  split at h1
  · exact hm _ _ _ _ h1
  · split at h1
    · exact hm _ _ _ _ h1
    · split at h1
      · exact hm _ _ _ _ h1
      · split at h1
        · simp at h1; rw [h1]; rfl
        · simp at h1
theorem NewRun.run {K s : List Nat} {cs : Array Value} (h : NewRun K s cs) (hK : K.length = 80) (hs : s.length = 8) {w : World} {g : Nat} {T : TypeId} (hg : w.heap[g]? = some (.cells cs T (0, 0))) : RunAt w g K s (List.replicate 128 0) 0 := by
  have hlt : g < w.heap.size := by
    rcases Nat.lt_or_ge g w.heap.size with h' | h'
    · exact h'
    · rw [Array.getElem?_eq_none h'] at hg; simp at hg
  have hc : ∀ j, w.cell? ⟨g, j, none⟩ = cs[j]? := fun j => cell_of_row w g j _ _ _ hg
  have th : w.there g 0 217 := fun j hj => by
    refine ⟨?_, by simp [World.frozen?, hg]⟩
    rw [hc, Nat.zero_add, Array.getElem?_eq_getElem (by rw [h.size]; exact hj)]
    rfl
  refine ⟨hlt, th, fun j v hv => ?_, fun j v hv => ?_, fun j v hv => ?_, ?_, hK, hs, by simp⟩
  · have hj : j < 80 := by have := (List.getElem?_eq_some_iff.1 hv).1; rwa [List.length_map, nI_length, hK] at this
    rw [hc, Nat.zero_add, h.at_ j, if_pos hj]; exact hv
  · have hj : j < 8 := by have := (List.getElem?_eq_some_iff.1 hv).1; rwa [List.length_map, nI_length, hs] at this
    rw [hc, h.at_ (80 + j), if_neg (by omega), if_pos (by omega), show 80 + j - 80 = j from by omega]; exact hv
  · have hj : j < 128 := by have := (List.getElem?_eq_some_iff.1 hv).1; rwa [List.length_map, nI_length, List.length_replicate] at this
    rw [hc, h.at_ (88 + j), if_neg (by omega), if_neg (by omega), if_pos (by omega), show 88 + j - 88 = j from by omega]; exact hv
  · rw [hc, h.at_ 216]; rfl
end Go.Proofs.Ythcnnglpncblaaa.B
