/-
  The code of layer 11 (store), as it landed: slices.Chunk's iterator.
-/
import Derived.Test.YtbafkakhhelcmaaGreatStoreLim
namespace Go.Proofs.YtbafkakhhelcmaaGreat
open Go.RowKit Go.Maps Go.Shelf
set_option linter.unusedVariables false
set_option maxRecDepth 8192
attribute [local go_sem] Oper.semAt_some

set_option maxHeartbeats 2000000 in
set_option maxRecDepth 100000 in
theorem chunk_stops (n : Nat) (hn : 1 ≤ n) (b1 b2 b off : Nat) (a : Option Addr) (len cap R : Nat) (ha : 0 < len → a = some ⟨b, off, none⟩) (hlc : len ≤ cap) (hcm : cap ≤ maxLen) (hlen : len ≤ 100000) (hR : 1 ≤ R ∧ R ≤ 1000) (w : World) (hb1 : b1 < w.heap.size) (hb2 : b2 < w.heap.size)
    (hc1 : w.cell? ⟨b1, 0, none⟩ = some (.slice a len cap)) (hc2 : w.cell? ⟨b2, 0, none⟩ = some (.int .i64 (R : Int))) :
    SeqStopsK Fence.wide n Tryz.prog 119 #[.pointer (some ⟨b1, 0, none⟩), .pointer (some ⟨b2, 0, none⟩)] (fun c : Ch R len => #[.slice (some ⟨b, off + c.1 * R, none⟩) (min R (len - c.1 * R)) (min R (len - c.1 * R))]) (Keeps2 b1 b2)
      (fun xs => xs.map (·.1) = List.range (pagesOf R len)) (fun pre => ∃ k, k ≤ pagesOf R len ∧ pre.map (·.1) = List.range k) (pagesOf R len) w := fun l J Jx W hW hJ hJx hY h0J => by
  have hc1W : W.cell? ⟨b1, 0, none⟩ = some (.slice a len cap) := by rw [hW.cell (p := ⟨b1, 0, none⟩) hb1]; exact hc1
  have hc2W : W.cell? ⟨b2, 0, none⟩ = some (.int .i64 (R : Int)) := by rw [hW.cell (p := ⟨b2, 0, none⟩) hb2]; exact hc2
  have hcap : cap ≤ 9223372036854775807 := by unfold maxLen at hcm; omega
  clear hc1 hc2 hJx hW hcm
  have HJ : Hid (AbidesFrom W.heap.size J) := hJ
  clear hJ
  refine callsIn_of_wp Tryz.func119 rfl trivial ?_ rfl
  simp only [Tryz.ntmps119, List.size_toArray, List.length_cons, List.length_nil, Nat.reduceAdd, Nat.reduceSub, Array.replicate_succ, Array.replicate_zero, List.push_toArray, List.append_toArray, List.nil_append, List.cons_append]
  gi_wp2
  gi_loopw [4] (fun p wr => ∃ (k : Nat) (pre : List (Ch R len)), k ≤ pagesOf R len ∧ p = .int .i64 ((k * R : Nat) : Int) ∧ pre.map (·.1) = List.range k ∧ wr.cell? ⟨b1, 0, none⟩ = some (.slice a len cap) ∧ wr.cell? ⟨b2, 0, none⟩ = some (.int .i64 (R : Int)) ∧ J pre wr)
    (fun p _ => len + 2000 - (intOf p).toNat)
  case atStart => exact ⟨0, [], Nat.zero_le _, by simp, rfl, hc1W, hc2W, h0J⟩
  case round =>
    clear hc1W hc2W h0J
    obtain ⟨k, pre, hk, rfl, hpre, hc1, hc2, hJs⟩ := hrel
    have HPRE : Hid (pre.map (·.1) = List.range k) := hpre
    clear hpre
    by_cases hlt : k * R < len
    · have hkp : k < pagesOf R len := (pagesOf_lt (by omega)).2 hlt
      have hl0 : pre.length < pagesOf R len := by have := congrArg List.length HPRE.out; simp at this; omega
      have ha' := ha (by omega)
      subst ha'
      obtain ⟨m, hm⟩ : ∃ m, m = min R (len - k * R) := ⟨_, rfl⟩
      have HMI : Hid (m = min R (len - k * R)) := hm
      have hm1 : m ≤ R ∧ k * R + m ≤ len ∧ 1 ≤ m := by omega
      have HSUC : Hid ((k + 1) * R = k * R + R) := by show _ = _; rw [Nat.add_mul, Nat.one_mul]
      have hJd : J pre wr.drew := HJ.out pre wr wr.drew none hJs ⟨rfl, rfl, rfl, Nat.le_refl _, fun _ _ _ => rfl⟩ (fun r e => by cases e)
      obtain ⟨c, hck⟩ : ∃ c : Ch R len, c.1 = k := ⟨⟨k, hlt⟩, rfl⟩
      obtain ⟨fn, tmps, assign, body, hy, hR'⟩ := hY pre c wr.drew hJd hl0
      rw [hck, ← hm] at hy
      have HPR2 : Hid ((pre ++ [c]).map (·.1) = List.range (k + 1)) := by show _ = _; rw [List.map_append, HPRE.out, List.range_succ]; simp [hck]
      have HYR : Hid _ := hR'
      clear hR' HPRE hY ha hm hck HJ
      generalize hkr : k * R = o at *
      have HKR : Hid (k * R = o) := hkr
      clear hkr
      have hlt' : (o : Int) < (len : Int) := by omega
      have hoc : o ≤ cap := by omega
      gi_wp2
      refine wpIn_wide.2 ?_
      refine held_begin (by kernel_rfl) ?_
      refine held_reads (rs := [0, 1, 2, 3, 4, 5, 6]) (fuel := 0) (by kernel_rfl) (fun c d v a w h => by cases d <;> exact h) (by kernel_rfl) (Since.drew _) (fun K hK => ?_)
      refine calm_do (.int .i64 (R : Int)) rfl (by rfl) (fun w' hw' => ?_) ?_
      · have c2 : w'.cell? ⟨b2, 0, none⟩ = some (.int .i64 (R : Int)) := by rw [Below.cell hw' (p := ⟨b2, 0, none⟩) (lt_of_cell hc2)]; exact hc2
        go_simp
      go_simp
      refine calm_do (.slice (some ⟨b, off, none⟩) len cap) rfl (by rfl) (fun w' hw' => ?_) ?_
      · have c1 : w'.cell? ⟨b1, 0, none⟩ = some (.slice (some ⟨b, off, none⟩) len cap) := by rw [Below.cell hw' (p := ⟨b1, 0, none⟩) (lt_of_cell hc1)]; exact hc1
        go_simp
      go_simp
      refine calm_move _ rfl (by rfl) rfl ?_
      go_simp
      refine calm_do (.slice (some ⟨b, off + o, none⟩) (len - o) (cap - o)) rfl (by rfl) (fun w' hw' => ?_) ?_
      · go_simp
        rw [if_pos (by omega), if_neg (by omega)]
      go_simp
      refine calm_do (.int .i64 ((len - o : Nat) : Int)) rfl (by rfl) (fun w' hw' => ?_) ?_
      · go_simp
      go_simp
      refine calm_do (.int .i64 (m : Int)) rfl (by rfl) (fun w' hw' => ?_) ?_
      · go_simp
        have := HMI.out
        omega
      go_simp
      refine calm_assign _ rfl (by rfl) rfl ?_
      go_simp
      refine calm_nil (hK.out _ ?_)
      clear hK K
      refine wpAnyH_done (by kernel_rfl) ?_ _
      have hc1d : wr.drew.cell? ⟨b1, 0, none⟩ = some (.slice (some ⟨b, off, none⟩) len cap) := hc1
      have hc2d : wr.drew.cell? ⟨b2, 0, none⟩ = some (.int .i64 (R : Int)) := hc2
      clear hc1 hc2 hJs hJd
      generalize wr.drew = wd at *
      gi_wp2
      refine RoundIn.mono HYR.out ?_
      rintro e W3 (⟨rfl, hJ3, hk3⟩ | ⟨rfl, hJx3⟩)
      · have hc13 := hk3.1 _ hc1d
        have hc23 := hk3.2 _ hc2d
        clear hy HYR hc1d hc2d hk3
        gi_wp2
        go_roundw
        case rel => exact ⟨k + 1, _, by omega, by rw [HSUC.out]; go_num, HPR2.out, hc13, hc23, hJ3⟩
        case measure => simp [intOf]; omega
      · gi_wp2
        refine bodyPost_ret (results_none rfl _ _ _) rfl ?_
        exact ⟨⟨_, rfl⟩, .inr ⟨_, ⟨k + 1, by omega, HPR2.out⟩, hJx3⟩⟩
    · have hkp : ¬ k < pagesOf R len := fun h => hlt ((pagesOf_lt (by omega)).1 h)
      obtain rfl : k = pagesOf R len := by omega
      have hlt' : ¬ ((pagesOf R len * R : Nat) : Int) < (len : Int) := by omega
      generalize pagesOf R len * R = o at *
      clear hY ha hlt hkp
      gi_wp2
      go_end0
      exact ⟨⟨_, rfl⟩, .inl ⟨_, HPRE.out, hJs⟩⟩
theorem chunk_any (a : Option Addr) (len cap R : Nat) (hR : 1 ≤ R ∧ R ≤ 1000) (w : World) : Calls Tryz.prog 95 #[.slice a len cap, .int .i64 (R : Int)] w fun e w' => e = .returned (.func (.func 119) #[] #[.pointer (some ⟨w.heap.size, 0, none⟩), .pointer (some ⟨w.heap.size + 1, 0, none⟩)]) ∧ w' = (w.alloc (.cells #[.slice a len cap] 43)).alloc (.cells #[.int .i64 (R : Int)] 3) := by
  have hR1 : ¬ (R : Int) < 1 := by omega
  go_enter Tryz.func95, Tryz.ntmps95
  go_wp2_with fail
  go_ret
  exact ⟨rfl, rfl⟩
end Go.Proofs.YtbafkakhhelcmaaGreat
