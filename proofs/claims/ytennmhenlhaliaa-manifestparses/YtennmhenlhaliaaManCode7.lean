/-
  The code of layer 20 (manifest), as it landed: Parse.
-/
import Derived.Test.YtennmhenlhaliaaManCode6
import Derived.Defers
import Derived.Recover
import Derived.Tactics2
namespace Go.Proofs.Ytennmhenlhaliaa.N
open Go.RowKit
set_option linter.unusedVariables false
set_option maxRecDepth 8192

theorem told_yes (w : World) : Sem.run Try.prog (Instr.typeAssert (.iface 26 (.int .i64 4)) 20 26 true) w = .ok (.tuple #[.int .i64 4, .bool true]) w := by kernel_rfl
theorem told_no (w : World) : Sem.run Try.prog (Instr.typeAssert .nilIface 20 26 true) w = .ok (.tuple #[.int .i64 0, .bool false]) w := by kernel_rfl
theorem catch_panicking (g : Nat) (v : Value) (w : World) (hc : w.cell? ⟨g, 0, none⟩ = some v) (hz : w.frozen? ⟨g, 0, none⟩ = false) :
    CallsD Try.prog 20 #[.pointer (some ⟨g, 0, none⟩)] (.panicking gaveUp) w fun e u' w' =>
      e = .returned (.tuple #[]) ∧ u' = .panicking [{ v := .iface 26 (.int .i64 4), recovered := true }] ∧ w' = w.setCell ⟨g, 0, none⟩ (.int .i64 4) := by
  refine callsD_of_wpS Try.func20 rfl fun c₀ cs hu => ?_
  unfold gaveUp at hu
  apply wpS_seq
  apply wpS_region
  simp [wpOpsS, go_sem, recoverD, hu, Try.ntmps20, Exit.thenS, told_yes]
  apply wpS_seq
  apply wpS_region
  simp [wpOpsS, go_sem, Exit.thenS]
  refine wpS_cond (t := true) (by simp [Act.eval, Array.replicate]) ?_
  simp only [if_true]
  apply wpS_region
  simp [wpOpsS, go_sem, hc, hz, bodyPostS, results, Try.results20, Array.replicate]
theorem catch_idle (g : Nat) (w : World) :
    CallsD Try.prog 20 #[.pointer (some ⟨g, 0, none⟩)] .returning w fun e u' w' => e = .returned (.tuple #[]) ∧ u' = .returning ∧ w' = w := by
  refine callsD_of_wpS Try.func20 rfl fun c₀ cs hu => ?_
  apply wpS_seq
  apply wpS_region
  simp [wpOpsS, go_sem, recoverD, hu, Try.ntmps20, Exit.thenS, told_no]
  apply wpS_seq
  apply wpS_region
  simp [wpOpsS, go_sem, Exit.thenS]
  refine wpS_cond (t := false) (by simp [Act.eval, Array.replicate]) ?_
  simp only [Bool.false_eq_true, if_false]
  refine wpS_of_wp (wp_skip ?_)
  cases c₀
  simp_all [bodyPostS, results, Try.results20]
set_option maxHeartbeats 1600000 in
theorem parse_any {w : World} {a : Option Addr} {n c : Nat} {D : List Int} (hr : Row .u8 w a n c D) (hD : IsB D) :
    Calls Try.prog 12 #[.slice a n c] w fun e w' => Below w.heap.size w w' ∧
      ((isMf D = true ∧ ∃ sa sc, e = .returned (.tuple #[.agg #[.int .i64 (numAt D 4), .int .i64 (numAt D 8), .int .i64 (numAt D 12), .int .i64 (numAt D 16), .slice sa ((cnt D)) sc], .int .i64 0]) ∧ SegRow w' sa (cnt D) sc (sgsTo D (cnt D))) ∨
        (isMf D = false ∧ e = .returned (.tuple #[.agg #[.int .i64 0, .int .i64 0, .int .i64 0, .int .i64 0, .slice none 0 0], .int .i64 4]))) := by
  have hmf : ∀ (fn : Fn) (first cap : Array Value) (w : World), (Instr.makeFunc fn first cap).run Try.prog w = .ok (.func fn first cap) w := fun _ _ _ _ => rfl
  go_enter_defers Try.func12, Try.ntmps12
  go_wp2_with fail
  have V3 := (((Vars.start w).new 24 #[.int .i64 0, .int .i64 0, .int .i64 0, .int .i64 0, .slice none 0 0]).new 26 #[.int .i64 0]).new 51 #[.slice a n c]
  simp only [World.size_alloc] at V3
  generalize ((w.alloc (.cells #[.int .i64 0, .int .i64 0, .int .i64 0, .int .i64 0, .slice none 0 0] 24)).alloc (.cells #[.int .i64 0] 26)).alloc (.cells #[.slice a n c] 51) = w3 at *
  have hs3 := lt_of_heap (V3.at 0 rfl)
  have hR : RAt w3 (w.heap.size + 1 + 1) a n c D := ⟨V3.at 0 rfl, hr.below V3.bel (Nat.le_refl _), fun h0 q hq => by
    obtain ⟨b, off, he, hb, _⟩ := hr.hcell h0
    rw [he] at hq
    cases hq
    show b < _
    omega⟩
  refine (manifest_any hR hD).mono ?_
  rintro e w4 ⟨G, hcase⟩
  have Q : Below (w.heap.size + 1 + 1) w3 w4 := grown_low G (by omega) (Nat.le_refl _)
  have hm4 : w4.heap[w.heap.size]? = some (.cells #[.int .i64 0, .int .i64 0, .int .i64 0, .int .i64 0, .slice none 0 0] 24 (0, 0)) := by rw [Q.block _ (by omega)]; exact V3.at 2 rfl
  have he4 : w4.heap[w.heap.size + 1]? = some (.cells #[.int .i64 0] 26 (0, 0)) := by rw [Q.block _ (by omega)]; exact V3.at 1 rfl
  have Q4 : Below w.heap.size w w4 := V3.bel.trans (Q.mono (by omega))
  clear V3 hR Q G
  rcases hcase with ⟨ht, sa, sc, rfl, row, hnw⟩ | ⟨hf, rfl⟩
  · have q5 : Below w.heap.size w4 (w4.setRow w.heap.size #[.int .i64 (numAt D 4), .int .i64 (numAt D 8), .int .i64 (numAt D 12), .int .i64 (numAt D 16), .slice sa ((cnt D)) sc]) := below_setRow (Below.refl _ _) (Nat.le_refl _) _
    have hm5 := setRow_heap w4 w.heap.size _ #[.int .i64 (numAt D 4), .int .i64 (numAt D 8), .int .i64 (numAt D 12), .int .i64 (numAt D 16), .slice sa ((cnt D)) sc] _ _ hm4
    have ho5 : ∀ k, k ≠ w.heap.size → (w4.setRow w.heap.size #[.int .i64 (numAt D 4), .int .i64 (numAt D 8), .int .i64 (numAt D 12), .int .i64 (numAt D 16), .slice sa ((cnt D)) sc]).heap[k]? = w4.heap[k]? := fun k hk => setRow_other w4 w.heap.size k _ hk
    have hz5 : (w4.setRow w.heap.size #[.int .i64 (numAt D 4), .int .i64 (numAt D 8), .int .i64 (numAt D 12), .int .i64 (numAt D 16), .slice sa ((cnt D)) sc]).heap.size = w4.heap.size := by simp [World.setRow]
    have he5 : (w4.setRow w.heap.size #[.int .i64 (numAt D 4), .int .i64 (numAt D 8), .int .i64 (numAt D 12), .int .i64 (numAt D 16), .slice sa ((cnt D)) sc]).heap[w.heap.size + 1]? = some (.cells #[.int .i64 0] 26 (0, 0)) := by rw [ho5 _ (by omega)]; exact he4
    have c5 := man_c he5 0
    have f5 := arr_unfrozen he5 0
    go_wp2_with (refine wpList_storeB hm4 _ (.tmp 8) rfl rfl rfl #[.int .i64 (numAt D 4), .int .i64 (numAt D 8), .int .i64 (numAt D 12), .int .i64 (numAt D 16), .slice sa ((cnt D)) sc] rfl rfl Try.szMf rfl rfl (mf_oneS _ _ _ _ _ _ _) ?_)
    clear c5 f5 hm4 he4
    have Q5 := Q4.trans q5
    clear q5
    generalize w4.setRow w.heap.size #[.int .i64 (numAt D 4), .int .i64 (numAt D 8), .int .i64 (numAt D 12), .int .i64 (numAt D 16), .slice sa ((cnt D)) sc] = w5 at *
    have q6 : Below w.heap.size w5 (w5.setCell ⟨w.heap.size + 1, 0, none⟩ (.int .i64 0)) := (Below.refl w.heap.size w5).setCell (show w.heap.size ≤ (⟨w.heap.size + 1, 0, none⟩ : Addr).block from Nat.le_succ _) _
    have he6 : (w5.setCell ⟨w.heap.size + 1, 0, none⟩ (.int .i64 0)).heap[w.heap.size + 1]? = some (.cells #[.int .i64 0] 26 (0, 0)) := heap_setCell_same w5 (w.heap.size + 1) 0 #[.int .i64 0] _ (.int .i64 0) he5
    have ho6 : ∀ k, k ≠ w.heap.size + 1 → (w5.setCell ⟨w.heap.size + 1, 0, none⟩ (.int .i64 0)).heap[k]? = w5.heap[k]? := fun k hk => Below.heap_setCell w5 _ _ k hk
    have hz6 : (w5.setCell ⟨w.heap.size + 1, 0, none⟩ (.int .i64 0)).heap.size = w5.heap.size := by simp
    generalize w5.setCell ⟨w.heap.size + 1, 0, none⟩ (.int .i64 0) = w6 at *
    have hm6 := (ho6 w.heap.size (by omega)).trans hm5
    have row6 : SegRow w6 sa (cnt D) sc (sgsTo D (cnt D)) := row.same (by rw [hz6, hz5]; exact Nat.le_refl _) (fun q hq => by
      have := hnw q hq
      rw [ho6 _ (by omega), ho5 _ (by omega)])
    have k0 : w6.cell? ⟨w.heap.size, 0, none⟩ = some (.int .i64 (numAt D 4)) := man_c hm6 0
    have k1 : w6.cell? ⟨w.heap.size, 1, none⟩ = some (.int .i64 (numAt D 8)) := man_c hm6 1
    have k2 : w6.cell? ⟨w.heap.size, 2, none⟩ = some (.int .i64 (numAt D 12)) := man_c hm6 2
    have k3 : w6.cell? ⟨w.heap.size, 3, none⟩ = some (.int .i64 (numAt D 16)) := man_c hm6 3
    have k4 : w6.cell? ⟨w.heap.size, 4, none⟩ = some (.slice sa (cnt D) sc) := man_c hm6 4
    have ke : w6.cell? ⟨w.heap.size + 1, 0, none⟩ = some (.int .i64 0) := man_c he6 0
    refine leaves_cons (f := 20) (args := #[.pointer (some ⟨w.heap.size + 1, 0, none⟩)]) (by simp) (by simp [go_sem]) ?_
    refine (catch_idle (w.heap.size + 1) _).mono ?_
    rintro e u' w'' ⟨rfl, rfl, rfl⟩
    refine ⟨.tuple #[.agg #[.int .i64 (numAt D 4), .int .i64 (numAt D 8), .int .i64 (numAt D 12), .int .i64 (numAt D 16), .slice sa ((cnt D)) sc], .int .i64 0], ?_, Q5.trans q6, .inl ⟨ht, sa, sc, rfl, row6⟩⟩
    simp [results, Try.results12, go_sem, k0, k1, k2, k3, k4, ke]
  · go_wp2_with fail
    have q6 : Below w.heap.size w4 (w4.setCell ⟨w.heap.size + 1, 0, none⟩ (.int .i64 4)) := (Below.refl w.heap.size w4).setCell (show w.heap.size ≤ (⟨w.heap.size + 1, 0, none⟩ : Addr).block from Nat.le_succ _) _
    have he6 : (w4.setCell ⟨w.heap.size + 1, 0, none⟩ (.int .i64 4)).heap[w.heap.size + 1]? = some (.cells #[.int .i64 4] 26 (0, 0)) := heap_setCell_same w4 (w.heap.size + 1) 0 #[.int .i64 0] _ (.int .i64 4) he4
    have hm6 : (w4.setCell ⟨w.heap.size + 1, 0, none⟩ (.int .i64 4)).heap[w.heap.size]? = some (.cells #[.int .i64 0, .int .i64 0, .int .i64 0, .int .i64 0, .slice none 0 0] 24 (0, 0)) := by
      rw [Below.heap_setCell w4 _ _ w.heap.size (by show w.heap.size ≠ w.heap.size + 1; omega)]
      exact hm4
    refine leaves_cons (f := 20) (args := #[.pointer (some ⟨w.heap.size + 1, 0, none⟩)]) (by simp) (by simp [go_sem]) ?_
    refine (catch_panicking (w.heap.size + 1) _ _ (man_c he4 0) (arr_unfrozen he4 0)).mono ?_
    rintro e u' w'' ⟨rfl, rfl, rfl⟩
    generalize w4.setCell ⟨w.heap.size + 1, 0, none⟩ (.int .i64 4) = w6 at *
    have k0 : w6.cell? ⟨w.heap.size, 0, none⟩ = some (.int .i64 0) := man_c hm6 0
    have k1 : w6.cell? ⟨w.heap.size, 1, none⟩ = some (.int .i64 0) := man_c hm6 1
    have k2 : w6.cell? ⟨w.heap.size, 2, none⟩ = some (.int .i64 0) := man_c hm6 2
    have k3 : w6.cell? ⟨w.heap.size, 3, none⟩ = some (.int .i64 0) := man_c hm6 3
    have k4 : w6.cell? ⟨w.heap.size, 4, none⟩ = some (.slice none 0 0) := man_c hm6 4
    have ke : w6.cell? ⟨w.heap.size + 1, 0, none⟩ = some (.int .i64 4) := man_c he6 0
    refine ⟨.tuple #[.agg #[.int .i64 0, .int .i64 0, .int .i64 0, .int .i64 0, .slice none 0 0], .int .i64 4], ?_, Q4.trans q6, .inr ⟨hf, rfl⟩⟩
    simp [results, Try.results12, go_sem, k0, k1, k2, k3, k4, ke]
end Go.Proofs.Ytennmhenlhaliaa.N
