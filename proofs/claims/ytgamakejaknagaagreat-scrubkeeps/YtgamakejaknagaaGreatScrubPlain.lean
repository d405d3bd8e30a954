/-
  Layer 12, plain: how many bits Read puts right (cntJ), which logical blocks are worn (wornB, wornTo), what moving some makes of that (MvI).
-/
import Derived.Test.YtgamakejaknagaaGreatStoreFree
namespace Go.Proofs.YtgamakejaknagaaGreat
open Go.RowKit Go.Maps
set_option linter.unusedVariables false
set_option maxRecDepth 8192

/-- How many bits Read of j puts right in a sector, at most. -/
def cntJ (G : Geo) (S : CS) (st : List Int) (M : Int → Option (List Int)) (j : Nat) : Nat := mostW G (S.wr (st[j]?.getD 0)) (pagesOf G.R ((M j).getD []).length)
/-- Is j worn? -/
def wornB (G : Geo) (S : CS) (st : List Int) (M : Int → Option (List Int)) (t : Int) (j : Nat) : Bool := (M j).isSome && decide (t ≤ (cntJ G S st M j : Int))
/-- Which of the first n are. -/
def wornTo (C : Nat → Bool) (n : Nat) : List Int := ((List.range n).filter C).map fun i : Nat => (i : Int)
section
variable {C C' : Nat → Bool} {k n : Nat}
theorem wornTo_hit (h : C k = true) : wornTo C (k + 1) = wornTo C k ++ [(k : Int)] := by unfold wornTo; rw [List.range_succ, List.filter_append, List.map_append]; simp [h]
theorem wornTo_miss (h : C k = false) : wornTo C (k + 1) = wornTo C k := by unfold wornTo; rw [List.range_succ, List.filter_append, List.map_append]; simp [h]
theorem wornTo_len (C : Nat → Bool) (n : Nat) : (wornTo C n).length ≤ n := by
  unfold wornTo
  rw [List.length_map]
  have := List.length_filter_le C (List.range n)
  simpa using this
theorem mem_wornTo {x : Int} : x ∈ wornTo C n ↔ ∃ j : Nat, x = (j : Int) ∧ j < n ∧ C j = true := by
  unfold wornTo
  simp only [List.mem_map, List.mem_filter, List.mem_range]
  exact ⟨fun ⟨j, h, e⟩ => ⟨j, e.symm, h⟩, fun ⟨j, e, h⟩ => ⟨j, h, e.symm⟩⟩
theorem wornTo_eq (h : ∀ j, j < n → C j = C' j) : wornTo C n = wornTo C' n := by
  unfold wornTo
  rw [List.filter_congr (fun j hj => h j (List.mem_range.1 hj))]
theorem wornTo_none (h : ∀ j, j < n → C j = false) : wornTo C n = [] := by
  unfold wornTo
  rw [List.filter_eq_nil_iff.2 (fun j hj => by rw [h j (List.mem_range.1 hj)]; simp)]
  rfl
end
theorem updM_self {M : Int → Option (List Int)} {j : Int} {D : List Int} (h : M j = some D) : updM M j (some D) = M := by
  funext i; unfold updM; split
  · rename_i e; rw [e, h]
  · rfl
/-- No block is marked, none is weak. -/
structure Well (S : CS) : Prop where
  bd : ∀ y, S.bd y = false
  wk : ∀ y, S.wk y = false
theorem Well.next {S S1 : CS} (h : Well S) (wk : S1.wk = S.wk) (only : ∀ y, S1.bd y = true → S.bd y = true ∨ S.wk y = true) : Well S1 := by
  refine ⟨fun y => ?_, fun y => by rw [wk]; exact h.wk y⟩
  rw [Bool.eq_false_iff]
  intro e
  rcases only y e with e | e
  · rw [h.bd] at e; cases e
  · rw [h.wk] at e; cases e
/-- The logical blocks L were moved. -/
structure MvI (G : Geo) (S : CS) (st : List Int) (M : Int → Option (List Int)) (L : List Int) (S1 : CS) (st1 : List Int) : Prop where
  len : st1.length = st.length
  well : Well S1
  ah : S.ah = 0 → S1.ah = 0
  cnt : ∀ j : Nat, j < st.length → cntJ G S1 st1 M j = if (j : Int) ∈ L then 0 else cntJ G S st M j
section
variable {G : Geo} {S S1 S2 : CS} {st st1 st2 : List Int} {M : Int → Option (List Int)} {L : List Int}
theorem MvI.refl (h : Well S) : MvI G S st M [] S st := ⟨rfl, h, id, fun j _ => by rw [if_neg (by simp)]⟩
theorem MvI.step (h : MvI G S st M L S1 st1) {j : Nat} {D : List Int} (hD : M j = some D) (hC : D.length ≤ G.C) (hj : j < st.length) (wk : S2.wk = S1.wk) (ah : S1.ah = 0 → S2.ah = 0) (only : ∀ y, S2.bd y = true → S1.bd y = true ∨ S1.wk y = true) (wrs : ∀ y ∈ st1, S2.wr y = S1.wr y)
    (hx : ∃ x, x ∉ st1 ∧ st2 = st1.set j x ∧ ∀ p : Int, 0 ≤ p → p < G.p → S2.wr x p = fun _ => false) : MvI G S st M (L ++ [(j : Int)]) S2 st2 := by
  obtain ⟨x, hx, rfl, hw⟩ := hx
  have hl := h.len
  refine ⟨by rw [List.length_set]; exact h.len, h.well.next wk only, fun e => ah (h.ah e), fun i hi => ?_⟩
  by_cases e : i = j
  · subst e
    have hp := may_pages hC
    rw [if_pos (by simp)]
    unfold cntJ
    rw [List.getElem?_set_self (by omega), hD]
    exact mostW_zero G _ _ fun p h0 h1 => hw p h0 (by simp only [Option.getD_some] at h1; omega)
  · have hm : ((i : Int) ∈ L ++ [(j : Int)]) ↔ ((i : Int) ∈ L) := by
      rw [List.mem_append, List.mem_singleton]
      exact ⟨fun h => h.elim id (fun h => absurd h (by omega)), .inl⟩
    have e1 : cntJ G S2 (st1.set j x) M i = cntJ G S1 st1 M i := by
      unfold cntJ
      rw [List.getElem?_set_ne (Ne.symm e), wrs _ (mem_getD st1 i (by omega))]
    rw [e1, h.cnt i hi]
    simp only [hm]
/-- Behind it none is worn. -/
theorem MvI.none {t : Int} (h : MvI G S st M (wornTo (wornB G S st M t) st.length) S1 st1) (ht : 1 ≤ t) : ∀ j, j < st.length → wornB G S1 st1 M t j = false := by
  intro j hj
  unfold wornB
  rw [h.cnt j hj]
  split
  · rw [decide_eq_false (show ¬ t ≤ ((0 : Nat) : Int) by omega), Bool.and_false]
  · rename_i hn
    have : wornB G S st M t j = false := by
      rw [Bool.eq_false_iff]
      exact fun e => hn (mem_wornTo.2 ⟨j, rfl, hj, e⟩)
    exact this
end
end Go.Proofs.YtgamakejaknagaaGreat
