/-
  The code of layer 18 (scalar): what is left behind all steps.
-/
import Derived.Test.YtgofapndgjfnhaaDoorScalarCode
namespace Go.Proofs.YtgofapndgjfnhaaDoor.N
open Go.RowKit
set_option linter.unusedVariables false
set_option maxRecDepth 8192

theorem rest_len {v : Nat} : (nb (v % oL)).length ≤ 32 := nb_len (Nat.lt_of_lt_of_le (mod_oL256 v) (by decide))
set_option maxHeartbeats 3200000 in
theorem rest_any (z : List Nat) (dz : Dig z) (a : Option Addr) (len cap ls : Nat) (sa : Option Addr) (fs bx vs : Nat → Nat) (w : World) (ho : OAt w) (hr : Row .u8 w a len cap (nI z)) (hl : len ≤ 50000) (hv : vL z = vs 0) (hls : ls ≤ 2)
    (hc : ∀ k, k < ls → ∃ sb so, sa = some ⟨sb, so, none⟩ ∧ w.cell? ⟨sb, so + k, none⟩ = some (.func (.func (fs k)) #[] #[.pointer (some ⟨bx k, 0, none⟩)]))
    (hf : ∀ k, k < ls → ∀ args w, Sem.run Tryd.prog (callFunc (fs k) args) w = .ok (.enter (fs k) args) w)
    (hs : ∀ k, k < ls → ∀ (w' : World) (y : List Nat) (a' : Option Addr) (l' c' : Nat), Below w.heap.size w w' → Dig y → vL y = vs k → Row .u8 w' a' l' c' (nI y) → l' ≤ 50000 → Calls Tryd.prog (fs k) #[.slice a' l' c', .pointer (some ⟨bx k, 0, none⟩)] w' (Gives w' (nb (vs (k + 1)))))
    (hn : ∀ k, k ≤ ls → 0 < k → (nb (vs k)).length ≤ 50000) :
    Calls Tryd.prog 22 #[.slice a len cap, .slice sa ls ls] w fun e w' => e = .returned (.agg (bA (vs ls % oL))) ∧ Below w.heap.size w w' := by
  have HC : Hid (∀ k, k < ls → ∃ sb so, sa = some ⟨sb, so, none⟩ ∧ w.cell? ⟨sb, so + k, none⟩ = some (.func (.func (fs k)) #[] #[.pointer (some ⟨bx k, 0, none⟩)])) := hc
  have HF : Hid (∀ k, k < ls → ∀ args w, Sem.run Tryd.prog (callFunc (fs k) args) w = .ok (.enter (fs k) args) w) := hf
  have HS : Hid (∀ k, k < ls → ∀ (w' : World) (y : List Nat) (a' : Option Addr) (l' c' : Nat), Below w.heap.size w w' → Dig y → vL y = vs k → Row .u8 w' a' l' c' (nI y) → l' ≤ 50000 → Calls Tryd.prog (fs k) #[.slice a' l' c', .pointer (some ⟨bx k, 0, none⟩)] w' (Gives w' (nb (vs (k + 1))))) := hs
  have HN : Hid (∀ k, k ≤ ls → 0 < k → (nb (vs k)).length ≤ 50000) := hn
  have HY : Hid (∃ y, Dig y ∧ vL y = vs 0 ∧ Row .u8 w a len cap (nI y)) := ⟨z, dz, hv, hr⟩
  clear hc hf hs hn hr dz hv
  have V0 := Vars.start w
  go_enter Tryd.func22, Tryd.ntmps22
  go_wp2_with (refine wpList_allocV V0 4 23 rfl rfl rfl (bA 0) zeroB ?_; intro w1 g1 V1)
  go_loopw [0, 6, 13] (fun n nx i wr => ∃ (k l' c' : Nat) (a' : Option Addr), k ≤ ls ∧ n = .slice a' l' c' ∧ i = .int .i64 (k : Int) ∧ l' ≤ 50000 ∧ Hid (∃ y, Dig y ∧ vL y = vs k ∧ Row .u8 wr a' l' c' (nI y)) ∧ Hid (Vars w wr [⟨g1, 23, bA 0⟩])) (fun n nx i _ => ls - (intOf i).toNat)
  case atStart =>
    obtain ⟨y, h1, h2, h3⟩ := HY.out
    exact ⟨0, len, cap, a, by omega, rfl, rfl, hl, ⟨y, h1, h2, h3.below V1.bel (Nat.le_refl _)⟩, V1⟩
  case round =>
    clear V1 V0 HY hl
    obtain ⟨k, l', c', a', hk, rfl, rfl, hl', HY, HV⟩ := hrel
    by_cases hlt : k < ls
    · obtain ⟨sb, so, rfl, hcell⟩ := HC.out k hlt
      have V2 := HV.out
      have hsb := lt_of_cell hcell
      rw [← V2.bel.cell (p := ⟨sb, so + k, none⟩) hsb] at hcell
      have hfk := HF.out k hlt
      have HSK : Hid (Calls Tryd.prog (fs k) #[.slice a' l' c', .pointer (some ⟨bx k, 0, none⟩)] wr (Gives wr (nb (vs (k + 1))))) := by
        obtain ⟨y, h1, h2, h3⟩ := HY.out
        exact HS.out k hlt wr y a' l' c' V2.bel h1 h2 h3 hl'
      have HNK : Hid ((nb (vs (k + 1))).length ≤ 50000) := HN.out (k + 1) hlt (by omega)
      have HD : Hid (Dig (nb (vs (k + 1))) ∧ vL (nb (vs (k + 1))) = vs (k + 1)) := ⟨dig_nb _, vL_nb _⟩
      generalize nb (vs (k + 1)) = y1 at *
      have hlt9 : (k : Int) < (ls : Int) := by omega
      clear HY HV
      go_wp2_with fail
      refine HSK.out.mono ?_
      rintro e w3 ⟨a1, c1, rfl, r1, q1⟩
      have V3 := V2.call q1
      have HY3 : Hid (∃ y, Dig y ∧ vL y = vs (k + 1) ∧ Row .u8 w3 a1 y1.length c1 (nI y)) := ⟨y1, HD.out.1, HD.out.2, r1⟩
      have HV3 : Hid (Vars w w3 [⟨g1, 23, bA 0⟩]) := V3
      have hy9 := HNK.out
      clear HSK V2 V3 q1 r1 HNK HD hcell
      generalize y1.length = l1 at *
      go_wp2_with fail
      go_roundw
      case rel => exact ⟨k + 1, l1, c1, a1, by omega, rfl, by go_num, hy9, HY3, HV3⟩
      case measure => simp [intOf]; omega
    · obtain rfl : k = ls := by omega
      have V2 := HV.out
      have HO : Hid (∀ w, OAt w → Calls Tryd.prog 7 #[] w fun e w' => e = .returned (.agg (bA oL)) ∧ Below w.heap.size w w') := fun w h => order18_any w h
      have HM : Hid (∀ (w' : World) (h : Nat), Below wr.heap.size wr w' → w'.heap[h]? = some (.cells (bA oL) 23 (0, 0)) → Calls Tryd.prog 40 #[.slice a' l' c', .slice (some ⟨h, 0, none⟩) 32 32] w' (GivesE w' (nb (vs k % oL)) 0)) := by
        intro w' h q hh
        obtain ⟨y, h1, h2, h3⟩ := HY.out
        have := mod_any y (digL oL 32) a' (some ⟨h, 0, none⟩) l' c' 32 32 w' h1 (digL_dig _ _) (h3.below q (Nat.le_refl _)) (row_bA hh) (by omega) (by decide) (by rw [vB oL_lt256]; exact Nat.pos_iff_ne_zero.1 oL_pos)
        rwa [vB oL_lt256, h2] at this
      have HL : Hid ((nb (vs k % oL)).length ≤ 32 ∧ Dig (nb (vs k % oL)) ∧ vL (nb (vs k % oL)) = vs k % oL) := ⟨rest_len, dig_nb _, vL_nb _⟩
      generalize nb (vs k % oL) = ys at *
      generalize her : vs k % oL = r at *
      have HER : Hid (vs k % oL = r) := her
      clear her
      have hk0 : ¬ (k : Int) < (k : Int) := by omega
      clear HY HV HS HF HC HN hlt
      have U0 := Vars.start wr
      go_wp2_with fail
      refine (HO.out wr (ho.of V2)).mono ?_
      rintro e w3 ⟨rfl, q3⟩
      have U3 := U0.call q3
      clear q3 U0
      go_wp2_with (first
        | (refine wpList_allocV U3 7 23 rfl rfl rfl (bA 0) zeroB ?_; intro w4 g4 U4)
        | (refine wpList_storeV U4 0 rfl _ (.tmp 21) rfl rfl rfl (bA oL) rfl rfl Tryd.szB (bA_size _) (bA_size _) (bA_one _) ?_; intro w5 U5)
        | (refine wpList_exec rfl (exec_sliceB U5 0 rfl _ rfl rfl) ?_))
      refine (HM.out w5 g4 U5.bel (U5.at 0 rfl)).mono ?_
      rintro e w6 ⟨a6, c6, rfl, r6, q6⟩
      have U6 := U5.call q6
      have V6 := V2.call U6.bel
      have X6 := Vars.start w6
      clear U3 U4 U5 q6 HM HO V2 U6
      generalize ys.length = ly at *
      have hl32 := HL.out.1
      go_wp2_with (first
        | (refine wpList_allocV X6 10 23 rfl rfl rfl _ zeroB32 ?_; intro w7 g7 X7)
        | (refine wpList_exec rfl (exec_sliceB X7 0 rfl _ rfl rfl) ?_))
      obtain ⟨w8, hrun, hg8, ho8, q8⟩ := copy_out (P := Tryd.prog) (dT := 22) (elem := 5) (ty := 3) (w0 := w) (B := 0) Tryd.underlying22 (by kernel_rfl) (X7.at 0 rfl) hl32 (r6.below X7.bel (Nat.le_refl _)) HL.out.2.1
      rw [hrun]
      rw [HL.out.2.2, ← bA_def] at hg8
      have X8 : Vars w6 w8 [⟨g7, 23, bA r⟩] := X7.turn 0 rfl (q8.mono (X7.low _ (List.mem_singleton.2 rfl))) hg8 ho8
      have V8 := V6.call X8.bel
      clear hrun hg8 ho8 q8 X7 X6 V6 r6
      go_wp2_with (first
        | (refine wpList_loadV X8 0 rfl 31 _ rfl rfl rfl rfl Tryd.underlying23 Tryd.szB (bA_size _) ?_)
        | (refine wpList_storeV V8 0 rfl _ (.tmp 31) rfl rfl rfl (bA r) rfl rfl Tryd.szB (bA_size _) (bA_size _) (bA_one _) ?_; intro w9 V9))
      exact bodyPost_ret (resV1 rfl _ V9 0 rfl rfl Tryd.underlying23 Tryd.szB (bA_size _)) rfl ⟨by rw [HER.out], V9.bel⟩
theorem reduce_any (z : List Nat) (dz : Dig z) (a : Option Addr) (len cap : Nat) (w : World) (ho : OAt w) (hr : Row .u8 w a len cap (nI z)) (hl : len ≤ 50000) :
    Calls Tryd.prog 8 #[.slice a len cap] w fun e w' => e = .returned (.agg (bA (vL z % oL))) ∧ Below w.heap.size w w' := by
  have HR : Hid (∀ w', Below w.heap.size w w' → OAt w' → Calls Tryd.prog 22 #[.slice a len cap, .slice none 0 0] w' fun e w'' => e = .returned (.agg (bA (vL z % oL))) ∧ Below w'.heap.size w' w'') := fun w' q h =>
    rest_any z dz a len cap 0 none (fun _ => 0) (fun _ => 0) (fun _ => vL z) w' h (hr.below q (Nat.le_refl _)) hl rfl (by omega) (fun k hk => absurd hk (Nat.not_lt_zero _)) (fun k hk => absurd hk (Nat.not_lt_zero _)) (fun k hk => absurd hk (Nat.not_lt_zero _)) (fun k hk h0 => by omega)
  clear dz hr hl
  generalize vL z % oL = r at *
  have V0 := Vars.start w
  go_enter Tryd.func8, Tryd.ntmps8
  go_wp2_with (refine wpList_allocV V0 2 23 rfl rfl rfl (bA 0) zeroB ?_; intro w1 g2 V3)
  refine (HR.out w1 V3.bel (ho.of V3)).mono ?_
  rintro e w4 ⟨rfl, q6⟩
  have V5 := V3.call q6
  clear q6 V3
  go_wp2_with (refine wpList_storeV V5 0 rfl _ (.tmp 4) rfl rfl rfl (bA r) rfl rfl Tryd.szB (bA_size _) (bA_size _) (bA_one _) ?_; intro w7 V8)
  exact bodyPost_ret (resV1 rfl _ V8 0 rfl rfl Tryd.underlying23 Tryd.szB (bA_size _)) rfl ⟨rfl, V8.bel⟩
theorem made_steps (g h : Nat) (w : World) : (Instr.buildSlice 57 2 [(0, .func (.func 46) #[] #[.pointer (some ⟨g, 0, none⟩)]), (1, .func (.func 48) #[] #[.pointer (some ⟨h, 0, none⟩)])].toArray).run Tryd.prog w = .ok (.slice (some ⟨w.heap.size, 0, none⟩) 2 2) (w.alloc (.cells #[.func (.func 46) #[] #[.pointer (some ⟨g, 0, none⟩)], .func (.func 48) #[] #[.pointer (some ⟨h, 0, none⟩)]] 48)) := by kernel_rfl
set_option maxHeartbeats 1600000 in
theorem rest_two (a b c : Nat) (w : World) (ho : OAt w) (ha : a < 2 ^ 256) (hb : b < 2 ^ 256) (hc : c < 2 ^ 256) (g g1 g2 gs : Nat) (hg : w.heap[g]? = some (.cells (bA a) 23 (0, 0))) (h1 : w.heap[g1]? = some (.cells (bA b) 23 (0, 0))) (h2 : w.heap[g2]? = some (.cells (bA c) 23 (0, 0)))
    (hs : w.heap[gs]? = some (.cells #[.func (.func 46) #[] #[.pointer (some ⟨g1, 0, none⟩)], .func (.func 48) #[] #[.pointer (some ⟨g2, 0, none⟩)]] 48 (0, 0))) :
    Calls Tryd.prog 22 #[.slice (some ⟨g, 0, none⟩) 32 32, .slice (some ⟨gs, 0, none⟩) 2 2] w fun e w' => e = .returned (.agg (bA ((a * b + c) % oL))) ∧ Below w.heap.size w w' := by
  have l1 := lt_of_heap h1
  have l2 := lt_of_heap h2
  refine rest_any (digL a 32) (digL_dig _ _) (some ⟨g, 0, none⟩) 32 32 2 (some ⟨gs, 0, none⟩) (fun k => if k = 0 then 46 else 48) (fun k => if k = 0 then g1 else g2) (fun k => if k = 0 then a else if k = 1 then a * b else a * b + c) w ho (row_bA hg) (by decide) (vB ha) (by decide) ?_ ?_ ?_ ?_
  · intro k hk
    refine ⟨gs, 0, rfl, ?_⟩
    rw [cell_of_row w gs _ _ _ _ hs, Nat.zero_add]
    rcases Nat.lt_or_ge k 1 with h | h
    · obtain rfl : k = 0 := by omega
      rfl
    · obtain rfl : k = 1 := by omega
      rfl
  · intro k hk args w
    rcases Nat.lt_or_ge k 1 with h | h
    · obtain rfl : k = 0 := by omega
      rfl
    · obtain rfl : k = 1 := by omega
      rfl
  · intro k hk w' y a' l' c' q dy hy hr hl
    rcases Nat.lt_or_ge k 1 with h | h
    · obtain rfl : k = 0 := by omega
      have h := times18_step y dy a' l' c' g1 b w' hr (by omega) hb (by rw [q.block g1 l1]; exact h1)
      rw [hy] at h
      exact h
    · obtain rfl : k = 1 := by omega
      have h := plus18_step y dy a' l' c' g2 c w' hr (by omega) hc (by rw [q.block g2 l2]; exact h2)
      rw [hy] at h
      exact h
  · intro k hk h0
    have e1 : a * b < 256 ^ (32 + 32) := mul_lt (by rw [b256]; exact ha) (by rw [b256]; exact hb)
    have e2 : a * b + c < 256 ^ 65 := by
      have := b256
      have h65 : (256 : Nat) ^ 65 = 256 * 256 ^ (32 + 32) := by decide
      have h32 : (256 : Nat) ^ 32 ≤ 256 ^ (32 + 32) := Nat.pow_le_pow_right (by decide) (by decide)
      omega
    rcases Nat.lt_or_ge k 2 with h | h
    · obtain rfl : k = 1 := by omega
      exact Nat.le_trans (nb_len e1) (by decide)
    · obtain rfl : k = 2 := by omega
      exact Nat.le_trans (nb_len e2) (by decide)
set_option maxHeartbeats 1600000 in
theorem mulAdd_any (a b c : Nat) (w : World) (ho : OAt w) (ha : a < 2 ^ 256) (hb : b < 2 ^ 256) (hc : c < 2 ^ 256) : Calls Tryd.prog 14 #[.agg (bA a), .agg (bA b), .agg (bA c)] w fun e w' => e = .returned (.agg (bA ((a * b + c) % oL))) ∧ Below w.heap.size w w' := by
  have HR : Hid (∀ (w : World) (g g1 g2 gs : Nat), OAt w → w.heap[g]? = some (.cells (bA a) 23 (0, 0)) → w.heap[g1]? = some (.cells (bA b) 23 (0, 0)) → w.heap[g2]? = some (.cells (bA c) 23 (0, 0)) → w.heap[gs]? = some (.cells #[.func (.func 46) #[] #[.pointer (some ⟨g1, 0, none⟩)], .func (.func 48) #[] #[.pointer (some ⟨g2, 0, none⟩)]] 48 (0, 0)) → Calls Tryd.prog 22 #[.slice (some ⟨g, 0, none⟩) 32 32, .slice (some ⟨gs, 0, none⟩) 2 2] w fun e w' => e = .returned (.agg (bA ((a * b + c) % oL))) ∧ Below w.heap.size w w') := fun w g g1 g2 gs ho hg h1 h2 hs => rest_two a b c w ho ha hb hc g g1 g2 gs hg h1 h2 hs
  have HT : Hid (∀ w, Calls Tryd.prog 29 #[.agg (bA b)] w fun e w' => ∃ g, e = .returned (.func (.func 46) #[] #[.pointer (some ⟨g, 0, none⟩)]) ∧ w.heap.size ≤ g ∧ w'.heap[g]? = some (.cells (bA b) 23 (0, 0)) ∧ Below w.heap.size w w') := times18_any b
  have HP : Hid (∀ w, Calls Tryd.prog 30 #[.agg (bA c)] w fun e w' => ∃ g, e = .returned (.func (.func 48) #[] #[.pointer (some ⟨g, 0, none⟩)]) ∧ w.heap.size ≤ g ∧ w'.heap[g]? = some (.cells (bA c) 23 (0, 0)) ∧ Below w.heap.size w w') := plus18_any c
  generalize (a * b + c) % oL = r at *
  clear ha hb hc
  have V0 := Vars.start w
  go_enter Tryd.func14, Tryd.ntmps14
  go_wp2_with (first
    | (refine wpList_boxV V0 3 23 _ rfl rfl rfl (bA a) rfl ?_; intro w1 g2 V3)
    | (refine wpList_boxV V3 4 23 _ rfl rfl rfl (bA b) rfl ?_; intro w4 g5 V6)
    | (refine wpList_boxV V6 5 23 _ rfl rfl rfl (bA c) rfl ?_; intro w7 g8 V9)
    | (refine wpList_allocV V9 6 23 rfl rfl rfl (bA 0) zeroB ?_; intro w10 g11 V12))
  refine av_open (fun w' => Vars w w' [⟨g8, 23, bA c⟩, ⟨g5, 23, bA b⟩, ⟨g2, 23, bA a⟩]) (by kernel_rfl) ?_
  have V13 := V12.drew
  refine held_reads (rs := [0, 1, 3]) (fuel := 5) (by kernel_rfl) (fun c d v a w h => by cases d <;> exact h) (by kernel_rfl) (V13.tail) (fun K hK => ?_)
  refine calm_do (.slice (some ⟨g2, 0, none⟩) 32 32) rfl (by rfl) (fun w' hw' => exec_sliceB hw' 2 rfl _ rfl rfl) ?_
  go_simp
  refine calm_do (.agg (bA b)) rfl (by rfl) (fun w' hw' => exec_loadV hw' 1 rfl _ rfl rfl Tryd.underlying23 Tryd.szB (bA_size _)) ?_
  go_simp
  refine calm_do (.agg (bA c)) rfl (by rfl) (fun w' hw' => exec_loadV hw' 0 rfl _ rfl rfl Tryd.underlying23 Tryd.szB (bA_size _)) ?_
  go_simp
  refine calm_nil (hK.out _ ?_)
  clear hK K
  refine av_op (i := 2) (fuel := 4) (by kernel_rfl) rfl (by rfl) (fun K hK => ?_)
  go_simp
  refine (HT.out w10.drew).mono ?_
  rintro e w14 ⟨g17, rfl, hg, hh, q16⟩
  have V15 := V13.made q16 hg hh
  refine hK _ _ (V15.tail.tail) ?_
  clear hK K hg hh q16
  refine av_op (i := 4) (fuel := 3) (by kernel_rfl) rfl (by rfl) (fun K hK => ?_)
  go_simp
  refine (HP.out w14).mono ?_
  rintro e w18 ⟨g21, rfl, hg, hh, q20⟩
  have V19 := V15.made q20 hg hh
  refine hK _ _ (V19.tail.tail.tail) ?_
  clear hK K hg hh q20
  refine av_op (i := 5) (fuel := 2) (by kernel_rfl) rfl (by rfl) (fun K hK => ?_)
  refine wp_sliceX V19 12 57 2 _ rfl rfl 48 (#[.func (.func 46) #[] #[.pointer (some ⟨g17, 0, none⟩)], .func (.func 48) #[] #[.pointer (some ⟨g21, 0, none⟩)]]) (made_steps _ _) (fun w22 g23 V24 => ?_)
  refine hK _ _ (V24.tail.tail.tail.tail) ?_
  clear hK K
  try go_simp
  refine av_op (i := 6) (fuel := 1) (by kernel_rfl) rfl (by rfl) (fun K hK => ?_)
  go_simp
  refine (HR.out w22 g2 g17 g21 g23 (ho.of V24) (V24.at 6 rfl) (V24.at 2 rfl) (V24.at 1 rfl) (V24.at 0 rfl)).mono ?_
  rintro e w25 ⟨rfl, q27⟩
  have V26 := V24.call q27
  refine hK _ _ (V26.tail.tail.tail.tail) ?_
  clear hK K q27
  refine av_op (i := 7) (fuel := 0) (by kernel_rfl) rfl (by rfl) (fun K hK => ?_)
  refine wp_storeV V26 3 rfl _ _ rfl rfl (bA r) rfl rfl Tryd.szB (bA_size _) (bA_size _) (bA_one _) (fun w28 V29 => ?_)
  refine hK _ _ (V29.tail.tail.tail.tail) ?_
  clear hK K
  refine wpAnyH_done (by kernel_rfl) ?_ _
  go_wp2_with fail
  exact bodyPost_ret (resV1 rfl _ V29 3 rfl rfl Tryd.underlying23 Tryd.szB (bA_size _)) rfl ⟨rfl, V29.bel⟩
end Go.Proofs.YtgofapndgjfnhaaDoor.N
