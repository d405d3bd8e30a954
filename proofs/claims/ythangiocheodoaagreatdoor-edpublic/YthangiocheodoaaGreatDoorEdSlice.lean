/-
 Layer 19: parts of 64 bytes: slices of an array from a place on, up to a place; a slice as an array; 64 bytes compared.
-/
import Derived.Test.YthangiocheodoaaGreatDoorEdBase
namespace Go.Proofs.YthangiocheodoaaGreatDoor.N
open Go.RowKit
set_option linter.unusedVariables false
set_option maxRecDepth 8192

theorem run_sliceFrom {P : Program} (t e : TypeId) (n k : Nat) (hu : P.underlying t = some (.array n e)) (he : (P.info? e).map (·.size) = some 1) (b : Nat) (hk : k < n) (w : World) :
  (Instr.sliceAt t (.pointer (some ⟨b, 0, none⟩)) (some (.int .i64 (k : Int))) none none).run P w = .ok (.slice (some ⟨b, k, none⟩) (n - k) (n - k)) w := by
 have hal : P.arrayLen t = n := by simp [Program.arrayLen, hu]
 have hel : P.elem t = e := by simp [Program.elem, hu]
 obtain ⟨inf, hq, hs⟩ := Option.map_eq_some_iff.1 he
 rw [run_sliceAt_array_l w t ⟨b, 0, none⟩ (by rw [hal, hel]; exact hu) .i64 (k : Int) (by omega) (by rw [hal]; omega)]
 rw [hal, hel]
 simp [sizeOf, typeInfo, hq, hs, slicedAt, show ¬ n = k by omega, plain_add]
/-- The first k of one list, the rest of another. -/
def mixL (a b : List Nat) (k : Nat) : List Nat := a.take k ++ b.drop k
theorem mixL_zero (a b : List Nat) : mixL a b 0 = b := by simp [mixL]
theorem mixL_all {a b : List Nat} {n : Nat} (h : a.length = n) (h' : b.length = n) : mixL a b n = a := by
 unfold mixL
 rw [List.take_of_length_le (by omega), List.drop_eq_nil_of_le (by omega), List.append_nil]
theorem mixL_len {a b : List Nat} {k : Nat} (h : a.length = b.length) (hk : k ≤ b.length) : (mixL a b k).length = b.length := by
 unfold mixL
 rw [List.length_append, List.length_take, List.length_drop]
 omega
theorem mixL_next {a b : List Nat} {k : Nat} (h : a.length = b.length) (hk : k < b.length) : (mixL a b k).set k (dg a k) = mixL a b (k + 1) := by
 unfold mixL dg
 have h1 : (a.take k).length = k := by rw [List.length_take]; omega
 rw [List.set_append_right _ _ (by omega), h1, Nat.sub_self, List.drop_eq_getElem_cons hk, List.set_cons_zero, List.take_add_one, List.append_assoc, List.getElem?_eq_getElem (by omega)]
 rfl
/-- A row that the call itself made, beside its variables. -/
theorem own_var19 {w0 w1 w2 : World} {l : List AV} (V : Vars w0 w1 l) {e : TypeId} {v : Value} {n : Nat} {z : List Nat} (h : w2.ownsRow w1.heap.size e 1 v n ((nI z).map (Value.int .u8))) (q : Below w1.heap.size w1 w2) :
  ∃ a cap m, v = .slice a n cap ∧ Vars w0 w2 (l ++ m) ∧ ∀ w' : World, (∀ u ∈ m, w'.heap[u.g]? = some (.cells u.X u.T (0, 0))) → Row .u8 w' a n cap (nI z) := by
 have V2 := V.call q
 rcases h.2 with ⟨rfl, hn⟩ | ⟨g, cap, cur, rfl, hg, hh, hr⟩
 ·subst hn
  refine ⟨none, 0, [], rfl, by rw [List.append_nil]; exact V2, fun w' _ => ?_⟩
  have hz : z = [] := by
   have := h.1
   simpa [nI] using this
  rw [hz]
  exact ⟨rfl, Nat.le_refl _, Nat.zero_le _, fun _ => rfl, fun h => absurd h (Nat.lt_irrefl _)⟩
 ·refine ⟨some ⟨g, 0, none⟩, cap, [⟨g, e, cur⟩], rfl, ⟨V2.bel, fun u hu => ?_, fun u hu => ?_, List.pairwise_append.2 ⟨V2.apart, List.pairwise_singleton _ _, fun u hu x hx => ?_⟩⟩, fun w' hw => ?_⟩
  ·rcases List.mem_append.1 hu with h1 | h1
   ·exact V2.low u h1
   ·rw [List.mem_singleton.1 h1]; exact Nat.le_trans V.size hg
  ·rcases List.mem_append.1 hu with h1 | h1
   ·exact V2.holds u h1
   ·rw [List.mem_singleton.1 h1]; exact hh
  ·rw [List.mem_singleton.1 hx]
   exact Nat.ne_of_lt (Nat.lt_of_lt_of_le (lt_of_heap (V.holds u hu)) hg)
  ·have h3 : w'.ownsRow w1.heap.size e 1 (.slice (some ⟨g, 0, none⟩) n cap) n ((nI z).map (Value.int .u8)) := ⟨h.1, .inr ⟨g, cap, cur, rfl, hg, hw ⟨g, e, cur⟩ (List.mem_singleton.2 rfl), hr⟩⟩
   obtain ⟨a', c', e', r⟩ := row_of_owns h3
   cases e'
   exact r
theorem exec_sliceHL {a : Act} {o : Oper} {w : World} (g k : Nat) (hk : k < 64) (x y : Operand) (ho : o.op = .slice 40 x (some y) none none) (hx : a.eval x = .pointer (some ⟨g, 0, none⟩)) (hy : a.eval y = .int .i64 (k : Int)) :
  (execOp a.eval o).run Tryz.prog w = .ok (.value (.slice (some ⟨g, k, none⟩) (64 - k) (64 - k))) w := by
 unfold execOp
 simp only [ho, hx, hy, Option.map_none, Option.map_some, run_sliceFrom 40 5 64 k Tryz.underlying40 Tryz.sz8 g hk w, Sem.run_bind, Sem.run_pure, Result.andThen_ok]
end Go.Proofs.YthangiocheodoaaGreatDoor.N
