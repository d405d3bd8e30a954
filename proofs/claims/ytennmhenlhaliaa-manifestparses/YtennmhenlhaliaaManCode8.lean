/-
  The code of layer 20 (manifest), as it landed: bytes.Clone, Split.
-/
import Derived.Test.YtennmhenlhaliaaManCode4
namespace Go.Proofs.Ytennmhenlhaliaa.N
open Go.RowKit
set_option linter.unusedVariables false
set_option maxRecDepth 8192

/-- '[]byte{}'. -/
theorem own_lit (w : World) : (w.alloc (.cells #[] 5)).ownsRow w.heap.size 5 1 (.slice (some ⟨w.heap.size, 0, none⟩) 0 0) 0 [] :=
  World.ownsRow_lit (base := w.heap.size) (e := 5) (size := 1) w #[] 0 (Nat.le_refl _) (Nat.zero_le _) rfl
theorem nil_nil20 (w : World) : Sem.run Try.prog (binOp BinOp.eql 25 (.slice none 0 0) (.slice none 0 0)) w = .ok (.bool true) w := by kernel_rfl
theorem some_nil20 (a : Addr) (l c : Nat) (w : World) : Sem.run Try.prog (binOp BinOp.eql 25 (.slice (some a) l c) (.slice none 0 0)) w = .ok (.bool false) w := by kernel_rfl
theorem clone_any {w : World} {a : Option Addr} {n c : Nat} {D : List Int} (hr : Row .u8 w a n c D) (hn : n ≤ 100000) :
    Calls Try.prog 23 #[.slice a n c] w fun e w' => ∃ v, e = .returned v ∧ w'.ownsRow w.heap.size 5 1 v n (D.map (Value.int .u8)) ∧ Below w.heap.size w w' := by
  obtain ⟨i0, hi0, hz0, hz1, hz2⟩ := info_parts Try.info5
  cases a with
  | none =>
    obtain rfl : c = 0 := hr.hnil rfl
    obtain rfl : n = 0 := by have := hr.hcap; omega
    have hD : D = [] := List.eq_nil_of_length_eq_zero hr.hlen
    have hq := nil_nil20 w
    subst hD
    go_enter Try.func23, Try.ntmps23
    go_wp2
    go_ret
    exact ⟨_, rfl, World.ownsRow_nil _ _ _ _, Below.refl _ _⟩
  | some ad =>
    have hq := some_nil20 ad n c w
    have q1 := below_one w (.cells #[] 5)
    have hown0 := own_lit w
    have rd := hr.below q1 (Nat.le_refl _)
    go_enter Try.func23, Try.ntmps23
    go_wp2_with (at_builtin; refine wpList_append_row _ rfl _ _ 25 rfl w.heap.size 5 i0 (.int .u8 0) 1 Try.underlying25 hi0 hz0 hz1 hz2 rfl _ 0 [] rfl hown0 .u8 (some ad) n c _ rfl rd (by unfold maxLen; omega) (by omega) (by simp) ?_; intro v1 wo own1 hg1)
    have q2 : Below w.heap.size w wo := q1.grown hg1 (by simp) (fun k hk => (hown0.lt k hk).1)
    rw [List.nil_append, Nat.zero_add] at own1
    go_ret
    exact ⟨_, rfl, own1, q2⟩
theorem split_no {w : World} {a : Option Addr} {n c : Nat} (hn : n < 64) :
    Calls Try.prog 15 #[.slice a n c] w fun e w' => e = .returned (.tuple #[.slice none 0 0, .slice none 0 0, .int .i64 4]) ∧ w = w' := by
  have hn' : (n : Int) < 64 := by omega
  go_enter Try.func15, Try.ntmps15
  go_wp2
  go_ret3
  exact ⟨rfl, rfl⟩
set_option maxHeartbeats 800000 in
theorem split_yes {w : World} {a : Option Addr} {m c : Nat} {D : List Int} (hr : Row .u8 w a (m + 64) c D) (hm : m ≤ 10000) :
    Calls Try.prog 15 #[.slice a (m + 64) c] w fun e w' => ∃ v1 v2, e = .returned (.tuple #[v1, v2, .int .i64 0]) ∧ w'.ownsRow w.heap.size 5 1 v1 m ((D.take m).map (Value.int .u8)) ∧ w'.ownsRow w.heap.size 5 1 v2 64 ((D.drop m).map (Value.int .u8)) ∧ Below w.heap.size w w' := by
  have hcap := hr.hcap
  have hmax := hr.hmax
  unfold maxLen at hmax
  obtain ⟨b, off, rfl, hbs, hcell⟩ := hr.hcell (by omega)
  clear hcell
  have r1 := row_take hr m (by omega)
  have r2 := row_drop hr m (by omega)
  rw [show m + 64 - m = 64 by omega] at r2
  have hmc : ¬ c = m := by omega
  go_enter Try.func15, Try.ntmps15
  go_wp2_with fail
  refine av_open (fun _ => True) (by kernel_rfl) ?_
  refine held_reads (rs := [0, 1, 2, 4, 5, 6]) (fuel := 5) (by kernel_rfl) (fun c d v a w h => by cases d <;> exact h) (by kernel_rfl) trivial (fun K hK => ?_)
  refine calm_move _ rfl (by rfl) rfl ?_
  go_simp
  refine calm_move _ rfl (by rfl) rfl ?_
  go_simp
  refine calm_do (.slice (some ⟨b, off, none⟩) m c) rfl (by rfl) (fun w' hw' => ?_) ?_
  · go_simp
    intro h
    omega
  go_simp
  refine calm_move _ rfl (by rfl) rfl ?_
  go_simp
  refine calm_move _ rfl (by rfl) rfl ?_
  go_simp
  refine calm_do (.slice (some ⟨b, off + m, none⟩) 64 (c - m)) rfl (by rfl) (fun w' hw' => ?_) ?_
  · go_simp
    intro h
    omega
  go_simp
  refine calm_nil (hK.out _ ?_)
  clear hK K
  replace r1 := r1.below ((Below.refl _ _).drew) (Nat.le_refl _)
  replace r2 := r2.below ((Below.refl _ _).drew) (Nat.le_refl _)
  have q0 : Below w.heap.size w w.drew := (Below.refl _ _).drew
  have hwz : w.drew.heap.size = w.heap.size := rfl
  generalize w.drew = wd at *
  refine av_op (i := 3) (fuel := 4) (by kernel_rfl) rfl (by rfl) (fun K hK => ?_)
  go_simp
  refine (clone_any r1 (by omega)).mono ?_
  rintro e w1 ⟨v1, rfl, o1, q1⟩
  refine hK _ _ trivial ?_
  clear hK K
  replace r2 := r2.below q1 (Nat.le_refl _)
  refine av_op (i := 7) (fuel := 3) (by kernel_rfl) rfl (by rfl) (fun K hK => ?_)
  go_simp
  refine (clone_any r2 (by omega)).mono ?_
  rintro e w2 ⟨v2, rfl, o2, q2⟩
  refine hK _ _ trivial ?_
  clear hK K
  have o1' := owns_base (own_below o1 q2) (show w.heap.size ≤ wd.heap.size by omega)
  have o2' := owns_base o2 (show w.heap.size ≤ w1.heap.size by have := q1.size; omega)
  have qq : Below w.heap.size w w2 := btrans (q0.trans (q1.mono (by omega))) (q2.mono (Nat.le_refl _))
  clear o1 o2 q0 q1 q2 r1 r2 hwz
  refine held_reads (rs := [8, 9, 10]) (fuel := 0) (by kernel_rfl) (fun c d v a w h => by cases d <;> exact h) (by kernel_rfl) trivial (fun K hK => ?_)
  go_simp
  refine calm_assign _ rfl (by rfl) rfl ?_
  go_simp
  refine calm_assign _ rfl (by rfl) rfl ?_
  go_simp
  refine calm_assign _ rfl (by rfl) rfl ?_
  go_simp
  refine calm_nil (hK.out _ ?_)
  clear hK K
  refine wpAnyH_done (by kernel_rfl) ?_ _
  go_wp2
  go_ret3
  exact ⟨v1, v2, rfl, o1', o2', qq⟩
end Go.Proofs.Ytennmhenlhaliaa.N
