/-
 Layer 11's laws: reads, all.
-/
import Derived.Test.YtbafkakhhelcmaaGreatStoreRef2
namespace Go.Proofs.YtbafkakhhelcmaaGreat
open Go.RowKit Go.Maps
set_option linter.unusedVariables false
set_option maxRecDepth 8192

section
variable {W w w' : World} {G : Geo} {B : CB} {F F' : Nat → Prop} {N N' : Nat} {S S' : CS} {K K' : Int → BK} {M M' : Int → Option (List Int)} {c : Int} {d s g : Nat} {st st' : List Int} {nu nu' : Int}
set_option maxHeartbeats 3200000 in
set_option maxRecDepth 100000 in
theorem reads11_any (h : LS W G B F N S K M c d s g st nu w) (hb db c1 c2 : Nat) (hm : MapAt w hb db st.length M') (hB : ∀ (i : Nat) D, M' i = some D → IsB D) (j : Nat) (hj : j < st.length) :
  Calls Tryz.prog 28 #[.pointer (some ⟨s, 0, none⟩), mapV hb db st.length c1 c2, .int .i64 (j : Int)] w fun e w' => e = .returned (.bool (decide (M j = M' j))) ∧ Below w.heap.size w w' := by
 have hlen := h.len
 have q0 := below_one w (.cells #[.slice (some ⟨hb, 0, none⟩) st.length c1, .slice (some ⟨db, 0, none⟩) st.length c2] 40)
 have v0 := vrow_box w 40 (.slice (some ⟨hb, 0, none⟩) st.length c1) (.slice (some ⟨db, 0, none⟩) st.length c2)
 have h0 := h.below q0
 have vh := hm.hs.below q0
 obtain ⟨E, e1, e2⟩ := hm.ds
 replace e1 := e1.below q0
 have hj' : (j : Int) < (st.length : Int) := by omega
 clear h hm
 cases hMj : M j with
 | none =>
  have hrd := h0.read_none j hj hMj
  have hhas := h0.has j hj
  rw [hMj] at hhas
  generalize st.length = L at *
  have b0 := v0.at 0 (by omega)
  have x0 := vh.at j hj
  simp only [if_true] at b0
  cases hMj' : M' j with
  | none =>
   rw [hMj'] at x0
   have HQ : Hid (Below w.heap.size w (w.alloc (.cells #[.slice (some ⟨hb, 0, none⟩) L c1, .slice (some ⟨db, 0, none⟩) L c2] 40))) := q0
   clear q0 v0 vh e1 h0 hlen
   unfold mapV
   go_enter Tryz.func28, Tryz.ntmps28
   go_wp2_with fail
   generalize w.alloc (.cells #[.slice (some ⟨hb, 0, none⟩) L c1, .slice (some ⟨db, 0, none⟩) L c2] 40) = w0 at *
   refine hrd.mono ?_
   rintro e w1 ⟨rfl, rfl⟩
   clear hrd
   go_wp2_with fail
   refine hhas.mono ?_
   rintro e w1 ⟨rfl, rfl⟩
   clear hhas
   go_wp2_with fail
   go_ret
   exact ⟨ret_bool (by simp), HQ.out⟩
  | some D' =>
   rw [hMj'] at x0
   have HQ : Hid (Below w.heap.size w (w.alloc (.cells #[.slice (some ⟨hb, 0, none⟩) L c1, .slice (some ⟨db, 0, none⟩) L c2] 40)).drew) := q0.drew
   clear q0 vh e1 h0 hlen
   unfold mapV
   go_enter Tryz.func28, Tryz.ntmps28
   go_wp2_with fail
   generalize w.alloc (.cells #[.slice (some ⟨hb, 0, none⟩) L c1, .slice (some ⟨db, 0, none⟩) L c2] 40) = w0 at *
   refine hrd.mono ?_
   rintro e w1 ⟨rfl, rfl⟩
   clear hrd hhas
   go_wp2_with fail
   refine held_begin (by kernel_rfl) ?_
   refine held_reads (rs := [0, 1, 2, 3, 4, 5, 6, 7, 8, 9, 10, 11, 12, 13, 14, 15, 16, 17, 18, 19, 20, 21]) (fuel := 0) (by kernel_rfl) (fun c d v a w h => by cases d <;> exact h) (by kernel_rfl) (Since.drew _) (fun K hK => ?_)
   refine calm_move _ rfl (by rfl) rfl ?_
   go_simp
   refine calm_do (.bool false) rfl (by rfl) (fun w' hw' => ?_) ?_
   ·go_simp
   go_simp
   refine calm_move _ rfl (by rfl) rfl ?_
   go_simp
   refine calm_skip rfl (by rfl) ?_
   go_simp
   refine calm_skip rfl (by rfl) ?_
   go_simp
   refine calm_skip rfl (by rfl) ?_
   go_simp
   refine calm_skip rfl (by rfl) ?_
   go_simp
   refine calm_skip rfl (by rfl) ?_
   go_simp
   refine calm_skip rfl (by rfl) ?_
   go_simp
   refine calm_skip rfl (by rfl) ?_
   go_simp
   refine calm_skip rfl (by rfl) ?_
   go_simp
   refine calm_do (.bool false) rfl (by rfl) (fun w' hw' => ?_) ?_
   ·go_simp
   go_simp
   refine calm_move _ rfl (by rfl) rfl ?_
   go_simp
   refine calm_skip rfl (by rfl) ?_
   go_simp
   refine calm_skip rfl (by rfl) ?_
   go_simp
   refine calm_do (.bool false) rfl (by rfl) (fun w' hw' => ?_) ?_
   ·go_simp
   go_simp
   refine calm_move _ rfl (by rfl) rfl ?_
   go_simp
   refine calm_skip rfl (by rfl) ?_
   go_simp
   refine calm_skip rfl (by rfl) ?_
   go_simp
   refine calm_skip rfl (by rfl) ?_
   go_simp
   refine calm_do (.bool false) rfl (by rfl) (fun w' hw' => ?_) ?_
   ·go_simp
   go_simp
   refine calm_assign _ rfl (by rfl) rfl ?_
   go_simp
   refine calm_nil (hK.out _ ?_)
   clear hK K
   refine wpAnyH_done (by kernel_rfl) ?_ _
   go_wp2_with fail
   go_ret
   exact ⟨ret_bool (by simp), HQ.out⟩
 | some D =>
  have hrd := h0.read_some j hj hMj
  have hhas := fun w' (q : Below _ _ w') => (h0.below q).has j hj
  rw [hMj] at hhas
  generalize st.length = L at *
  have x0 := fun w' (q : Below _ _ w') => (vh.below q).at j hj
  cases hMj' : M' j with
  | none =>
   rw [hMj'] at x0
   clear vh e1 h0 hlen hhas
   unfold mapV
   go_enter Tryz.func28, Tryz.ntmps28
   go_wp2_with fail
   generalize w.alloc (.cells #[.slice (some ⟨hb, 0, none⟩) L c1, .slice (some ⟨db, 0, none⟩) L c2] 40) = w0 at *
   refine hrd.mono ?_
   rintro e w1 ⟨a1, cap1, k1, ⟨⟨_, _, hDC⟩, _⟩, rfl, r1, q1⟩
   have HQ : Hid (Below w.heap.size w w1) := btrans q0 q1
   have x1 := x0 w1 q1
   have b0 := (v0.below q1).at 0 (by omega)
   simp only [if_true] at b0
   clear hrd x0 q0 v0 q1 r1
   generalize D.length = dl at *
   go_wp2_with fail
   go_ret
   exact ⟨ret_bool (by simp), HQ.out⟩
  | some D' =>
   rw [hMj'] at x0
   have hEj := e2 j D' hMj'
   have hBj := hB j D' hMj'
   by_cases hDD : D = D'
   ·subst hDD
    clear vh h0 hlen
    unfold mapV
    go_enter Tryz.func28, Tryz.ntmps28
    go_wp2_with fail
    generalize w.alloc (.cells #[.slice (some ⟨hb, 0, none⟩) L c1, .slice (some ⟨db, 0, none⟩) L c2] 40) = w0 at *
    refine hrd.mono ?_
    rintro e w1 ⟨a1, cap1, k1, ⟨⟨_, hBD, hDC⟩, _⟩, rfl, r1, q1⟩
    have HQ : Hid (Below w.heap.size w w1.drew) := (btrans q0 q1).drew
    have x1 := x0 w1 q1
    replace v0 := v0.below q1
    replace e1 := e1.below q1
    replace hhas := hhas w1.drew (btrans q1 (Below.refl _ w1).drew)
    have b0 := v0.at 0 (by omega)
    simp only [if_true] at b0
    have hk0 : (0 : Int) ≤ (k1 : Int) := by omega
    clear hrd x0 q0 q1
    have HEj : Hid (E j = D) := hEj
    clear hEj e2
    generalize D.length = dl at *
    go_wp2_with fail
    refine held_begin (by kernel_rfl) ?_
    refine held_reads (rs := [0, 1, 2, 3, 4, 5, 6, 7, 8, 9, 10, 11, 12, 13, 14, 15, 16, 17, 18]) (fuel := 3) (by kernel_rfl) (fun c d v a w h => by cases d <;> exact h) (by kernel_rfl) (Since.drew _) (fun K hK => ?_)
    refine calm_move _ rfl (by rfl) rfl ?_
    go_simp
    refine calm_do (.bool true) rfl (by rfl) (fun w' hw' => ?_) ?_
    ·go_simp
    go_simp
    refine calm_move _ rfl (by rfl) rfl ?_
    go_simp
    refine calm_move _ rfl (by rfl) rfl ?_
    go_simp
    refine calm_do (Value.string (strOfNums D)) rfl (by rfl) (fun w' hw' => ?_) ?_
    ·have kz := conv_row (P := Tryz.prog) Tryz.underlying43 Tryz.underlying5 Tryz.underlying9 (r1.below hw' (Nat.le_refl _))
     go_simp
    go_simp
    refine calm_do (.pointer (some ⟨w.heap.size, 1, none⟩)) rfl (by rfl) (fun w' hw' => ?_) ?_
    ·go_simp
    go_simp
    refine calm_do (.slice (some ⟨db, 0, none⟩) L c2) rfl (by rfl) (fun w' hw' => ?_) ?_
    ·have cz := (v0.below hw').at 1 (by omega)
     simp only [show ¬ (1 : Nat) = 0 by decide, if_false] at cz
     go_simp
    go_simp
    refine calm_move _ rfl (by rfl) rfl ?_
    go_simp
    refine calm_do (.pointer (some ⟨db, j, none⟩)) rfl (by rfl) (fun w' hw' => ?_) ?_
    ·go_simp
    go_simp
    refine calm_do (Value.string (strOfNums D)) rfl (by rfl) (fun w' hw' => ?_) ?_
    ·have cz := (e1.below hw').at j hj
     rw [show E j = D from HEj.out] at cz
     go_simp
    go_simp
    refine calm_do (.bool true) rfl (by rfl) (fun w' hw' => ?_) ?_
    ·go_simp
    go_simp
    refine calm_do (.bool true) rfl (by rfl) (fun w' hw' => ?_) ?_
    ·go_simp
    go_simp
    refine calm_move _ rfl (by rfl) rfl ?_
    go_simp
    refine calm_move _ rfl (by rfl) rfl ?_
    go_simp
    refine calm_do (.bool true) rfl (by rfl) (fun w' hw' => ?_) ?_
    ·go_simp
    go_simp
    refine calm_do (.bool true) rfl (by rfl) (fun w' hw' => ?_) ?_
    ·go_simp
    go_simp
    refine calm_move _ rfl (by rfl) rfl ?_
    go_simp
    refine calm_move _ rfl (by rfl) rfl ?_
    go_simp
    refine calm_move _ rfl (by rfl) rfl ?_
    go_simp
    refine calm_nil (hK.out _ ?_)
    clear hK K
    refine held_call (i := 19) (fuel := 2) (by kernel_rfl) rfl (by rfl) (fun K hK => ?_)
    go_simp
    refine hhas.mono ?_
    rintro e w2 ⟨rfl, rfl⟩
    refine hK _ _ (Since.drew _) ?_
    clear hK K
    refine held_reads (rs := [20, 21]) (fuel := 0) (by kernel_rfl) (fun c d v a w h => by cases d <;> exact h) (by kernel_rfl) (Since.refl _) (fun K hK => ?_)
    go_simp
    refine calm_do (.bool true) rfl (by rfl) (fun w' hw' => ?_) ?_
    ·go_simp
    go_simp
    refine calm_assign _ rfl (by rfl) rfl ?_
    go_simp
    refine calm_nil (hK.out _ ?_)
    clear hK K
    refine wpAnyH_done (by kernel_rfl) ?_ _
    go_wp2_with fail
    go_ret
    exact ⟨ret_bool (by simp), HQ.out⟩
   ·clear vh h0 hlen hhas
    unfold mapV
    go_enter Tryz.func28, Tryz.ntmps28
    go_wp2_with fail
    generalize w.alloc (.cells #[.slice (some ⟨hb, 0, none⟩) L c1, .slice (some ⟨db, 0, none⟩) L c2] 40) = w0 at *
    refine hrd.mono ?_
    rintro e w1 ⟨a1, cap1, k1, ⟨⟨_, hBD, hDC⟩, _⟩, rfl, r1, q1⟩
    have HQ : Hid (Below w.heap.size w w1.drew) := (btrans q0 q1).drew
    have x1 := x0 w1 q1
    replace v0 := v0.below q1
    replace e1 := e1.below q1
    have b0 := v0.at 0 (by omega)
    simp only [if_true] at b0
    have hne : ¬ (strOfNums D).toList = (strOfNums D').toList := by have := str_beq hBD hBj; rw [decide_eq_false hDD] at this; simpa using this
    have HEj : Hid (E j = D') := hEj
    have HDD : Hid (¬ D = D') := hDD
    clear hrd x0 q0 q1 hEj hDD e2
    generalize D.length = dl at *
    go_wp2_with fail
    refine held_begin (by kernel_rfl) ?_
    refine held_reads (rs := [0, 1, 2, 3, 4, 5, 6, 7, 8, 9, 10, 11, 12, 13, 14, 15, 16, 17, 18, 19, 20, 21]) (fuel := 0) (by kernel_rfl) (fun c d v a w h => by cases d <;> exact h) (by kernel_rfl) (Since.drew _) (fun K hK => ?_)
    refine calm_move _ rfl (by rfl) rfl ?_
    go_simp
    refine calm_do (.bool true) rfl (by rfl) (fun w' hw' => ?_) ?_
    ·go_simp
    go_simp
    refine calm_move _ rfl (by rfl) rfl ?_
    go_simp
    refine calm_move _ rfl (by rfl) rfl ?_
    go_simp
    refine calm_do (Value.string (strOfNums D)) rfl (by rfl) (fun w' hw' => ?_) ?_
    ·have kz := conv_row (P := Tryz.prog) Tryz.underlying43 Tryz.underlying5 Tryz.underlying9 (r1.below hw' (Nat.le_refl _))
     go_simp
    go_simp
    refine calm_do (.pointer (some ⟨w.heap.size, 1, none⟩)) rfl (by rfl) (fun w' hw' => ?_) ?_
    ·go_simp
    go_simp
    refine calm_do (.slice (some ⟨db, 0, none⟩) L c2) rfl (by rfl) (fun w' hw' => ?_) ?_
    ·have cz := (v0.below hw').at 1 (by omega)
     simp only [show ¬ (1 : Nat) = 0 by decide, if_false] at cz
     go_simp
    go_simp
    refine calm_move _ rfl (by rfl) rfl ?_
    go_simp
    refine calm_do (.pointer (some ⟨db, j, none⟩)) rfl (by rfl) (fun w' hw' => ?_) ?_
    ·go_simp
    go_simp
    refine calm_do (Value.string (strOfNums D')) rfl (by rfl) (fun w' hw' => ?_) ?_
    ·have cz := (e1.below hw').at j hj
     rw [show E j = D' from HEj.out] at cz
     go_simp
    go_simp
    refine calm_do (.bool false) rfl (by rfl) (fun w' hw' => ?_) ?_
    ·go_simp
    go_simp
    refine calm_do (.bool false) rfl (by rfl) (fun w' hw' => ?_) ?_
    ·go_simp
    go_simp
    refine calm_move _ rfl (by rfl) rfl ?_
    go_simp
    refine calm_skip rfl (by rfl) ?_
    go_simp
    refine calm_skip rfl (by rfl) ?_
    go_simp
    refine calm_do (.bool false) rfl (by rfl) (fun w' hw' => ?_) ?_
    ·go_simp
    go_simp
    refine calm_move _ rfl (by rfl) rfl ?_
    go_simp
    refine calm_skip rfl (by rfl) ?_
    go_simp
    refine calm_skip rfl (by rfl) ?_
    go_simp
    refine calm_skip rfl (by rfl) ?_
    go_simp
    refine calm_do (.bool false) rfl (by rfl) (fun w' hw' => ?_) ?_
    ·go_simp
    go_simp
    refine calm_assign _ rfl (by rfl) rfl ?_
    go_simp
    refine calm_nil (hK.out _ ?_)
    clear hK K
    refine wpAnyH_done (by kernel_rfl) ?_ _
    go_wp2_with fail
    go_ret
    exact ⟨ret_bool (by simp [HDD.out]), HQ.out⟩
end
end Go.Proofs.YtbafkakhhelcmaaGreat
