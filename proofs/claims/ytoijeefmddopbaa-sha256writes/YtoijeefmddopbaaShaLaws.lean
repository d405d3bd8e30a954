/-
  Layer 13's laws: the walks of Sha256Pads and Sha256Sums. (Written by tools/gen/sha_laws.py.)
-/
import Derived.Test.YtoijeefmddopbaaShaAwake
import Derived.Test.YtoijeefmddopbaaShaRef8
namespace Go.Proofs.Ytoijeefmddopbaa
open Go.RowKit
set_option linter.unusedVariables false
set_option maxRecDepth 8192

theorem bytes_nat {zs : List Int} (h : ∀ n ∈ zs, 0 ≤ n ∧ n ≤ 255) : ∃ l : List Nat, zs = nI l ∧ ∀ x ∈ l, x < 256 := by
  refine ⟨zs.map Int.toNat, ?_, ?_⟩
  · unfold nI
    rw [List.map_map]
    have e : zs.map ((fun n : Nat => (n : Int)) ∘ Int.toNat) = zs.map id := by
      apply List.map_congr_left
      intro x hx
      have := h x hx
      simp
      omega
    rw [e, List.map_id]
  · intro x hx
    obtain ⟨y, hy, rfl⟩ := List.mem_map.1 hx
    have := h y hy
    omega
set_option maxHeartbeats 3200000 in
theorem walk_Sha256Pads (z : List Nat) (a : Option Addr) (len cap : Nat) (w : World) (hr : Row .u8 w a len cap (nI z)) (hz : ∀ x ∈ z, x < 256) : Calls Try.prog 4 #[.slice a len cap] w fun e w' => e = .returned (.bool true) ∧ Below w.heap.size w w' := by
  obtain ⟨i0, hi0, hz0, hz1, hz2⟩ := info_parts Try.info5
  by_cases hbig : 5000 < len
  · go_enter Try.func4, Try.ntmps4
    go_wp2
    go_ret
    exact ⟨rfl, Below.refl _ _⟩
  have hown0 := World.ownsRow_lit (base := w.heap.size) (e := 5) (size := 1) w #[] 0 (Nat.le_refl _) (Nat.zero_le _) rfl
  have q1 := below_one w (.cells #[] 5)
  have hr1 := hr.below q1 (Nat.le_refl _)
  go_enter Try.func4, Try.ntmps4
  go_wp2_with (at_builtin; refine wpList_append_row _ rfl _ _ 36 rfl w.heap.size 5 i0 (.int .u8 0) 1 Try.underlying36 hi0 hz0 hz1 hz2 rfl _ 0 [] rfl hown0 .u8 a len cap _ rfl hr1 (by unfold maxLen; omega) (by omega) (by simp) ?_)
  intro v1 w1 own1 hg1
  replace q1 : Below w.heap.size w w1 := q1.grown hg1 (by simp) (fun k hk => (hown0.lt k hk).1)
  clear hg1 hown0 hr1
  try rw [List.nil_append, Nat.zero_add] at own1
  obtain ⟨ao, co, rfl, ro⟩ := row_of_owns own1
  clear own1
  have rd := hr.below q1 (Nat.le_refl _)
  have hsm : len ≤ 5000 := by omega
  go_wp2_with fail
  refine (pad_any z ao len co _ ro (by omega)).mono ?_
  rintro e w2 ⟨v2, rfl, own2, qq⟩
  replace ro := ro.below qq (Nat.le_refl _)
  replace rd := rd.below qq (Nat.le_refl _)
  replace q1 := btrans q1 qq
  clear qq
  obtain ⟨ap, cp, rfl, rp⟩ := row_of_owns own2
  clear own2
  go_wp2_with fail
  refine held_begin (by kernel_rfl) ?_
  refine held_call (i := 0) (fuel := 16) (by kernel_rfl) rfl (by rfl) (fun K hK => ?_)
  go_simp
  have qd := Since.drew w2
  replace ro := ro.below qd (Nat.le_refl _)
  replace rd := rd.below qd (Nat.le_refl _)
  replace rp := rp.below qd (Nat.le_refl _)
  replace q1 := btrans q1 qd
  clear qd
  refine (awake13_any _).mono ?_
  rintro e w3 ⟨rfl, qq0⟩
  refine hK _ _ (Since.trans (Since.drew _) qq0) ?_
  have qq : Since _ _ := qq0
  clear hK K qq0
  replace ro := ro.below qq (Nat.le_refl _)
  replace rd := rd.below qq (Nat.le_refl _)
  replace rp := rp.below qq (Nat.le_refl _)
  replace q1 := btrans q1 qq
  clear qq
  refine held_reads (rs := [1, 2, 3, 4, 5, 6, 7, 8, 9, 10, 11]) (fuel := 5) (by kernel_rfl) (fun c d v a w h => by cases d <;> exact h) (by kernel_rfl) (Since.refl _) (fun K hK => ?_)
  go_simp
  refine calm_move _ rfl (by rfl) rfl ?_
  go_simp
  refine calm_move _ rfl (by rfl) rfl ?_
  go_simp
  refine calm_do (.string (strOfNums (nI z))) rfl (by rfl) (fun w' hw' => ?_) ?_
  · have hcc := conv_row Try.underlying36 Try.underlying5 Try.underlying9 (ro.below hw' (Nat.le_refl _))
    go_simp
  go_simp
  refine calm_move _ rfl (by rfl) rfl ?_
  go_simp
  refine calm_do (.string (strOfNums (nI z))) rfl (by rfl) (fun w' hw' => ?_) ?_
  · have hcc := conv_row Try.underlying36 Try.underlying5 Try.underlying9 (rd.below hw' (Nat.le_refl _))
    go_simp
  go_simp
  refine calm_do (.bool true) rfl (by rfl) (fun w' hw' => ?_) ?_
  · go_simp
  go_simp
  refine calm_do (.bool true) rfl (by rfl) (fun w' hw' => ?_) ?_
  · go_simp
  go_simp
  refine calm_move _ rfl (by rfl) rfl ?_
  go_simp
  refine calm_move _ rfl (by rfl) rfl ?_
  go_simp
  refine calm_do (.string (strOfNums (nI (z ++ padL len)))) rfl (by rfl) (fun w' hw' => ?_) ?_
  · have hcc := conv_row Try.underlying36 Try.underlying5 Try.underlying9 (rp.below hw' (Nat.le_refl _))
    go_simp
  go_simp
  refine calm_move _ rfl (by rfl) rfl ?_
  go_simp
  refine calm_nil (hK.out _ ?_)
  clear hK K
  refine held_call (i := 12) (fuel := 4) (by kernel_rfl) rfl (by rfl) (fun K hK => ?_)
  go_simp
  refine (refPad13 z a len cap _ rd (by omega)).mono ?_
  rintro e w4 ⟨v4, rfl, own4, qq0⟩
  refine hK _ _ (Since.trans (Since.refl _) qq0) ?_
  have qq : Since _ _ := qq0
  clear hK K qq0
  replace ro := ro.below qq (Nat.le_refl _)
  replace rd := rd.below qq (Nat.le_refl _)
  replace rp := rp.below qq (Nat.le_refl _)
  replace q1 := btrans q1 qq
  clear qq
  obtain ⟨af, cf, rfl, rf⟩ := row_of_owns own4
  clear own4
  refine held_reads (rs := [13, 14, 15, 16]) (fuel := 0) (by kernel_rfl) (fun c d v a w h => by cases d <;> exact h) (by kernel_rfl) (Since.refl _) (fun K hK => ?_)
  go_simp
  refine calm_do (.string (strOfNums (nI (z ++ padL len)))) rfl (by rfl) (fun w' hw' => ?_) ?_
  · have hcc := conv_row Try.underlying36 Try.underlying5 Try.underlying9 (rf.below hw' (Nat.le_refl _))
    go_simp
  go_simp
  refine calm_do (.bool true) rfl (by rfl) (fun w' hw' => ?_) ?_
  · go_simp
  go_simp
  refine calm_do (.bool true) rfl (by rfl) (fun w' hw' => ?_) ?_
  · go_simp
  go_simp
  refine calm_assign _ rfl (by rfl) rfl ?_
  go_simp
  refine calm_nil (hK.out _ ?_)
  clear hK K
  refine wpAnyH_done (by kernel_rfl) ?_ _
  go_wp2
  go_ret
  exact ⟨rfl, q1⟩
set_option maxHeartbeats 3200000 in
theorem walk_Sha256Sums (z : List Nat) (a : Option Addr) (len cap : Nat) (w : World) (hr : Row .u8 w a len cap (nI z)) (hz : ∀ x ∈ z, x < 256) : Calls Try.prog 6 #[.slice a len cap] w fun e w' => e = .returned (.bool true) ∧ Below w.heap.size w w' := by
  obtain ⟨i0, hi0, hz0, hz1, hz2⟩ := info_parts Try.info5
  by_cases hbig : 400 < len
  · go_enter Try.func6, Try.ntmps6
    go_wp2
    go_ret
    exact ⟨rfl, Below.refl _ _⟩
  have hown0 := World.ownsRow_lit (base := w.heap.size) (e := 5) (size := 1) w #[] 0 (Nat.le_refl _) (Nat.zero_le _) rfl
  have q1 := below_one w (.cells #[] 5)
  have hr1 := hr.below q1 (Nat.le_refl _)
  go_enter Try.func6, Try.ntmps6
  go_wp2_with (at_builtin; refine wpList_append_row _ rfl _ _ 36 rfl w.heap.size 5 i0 (.int .u8 0) 1 Try.underlying36 hi0 hz0 hz1 hz2 rfl _ 0 [] rfl hown0 .u8 a len cap _ rfl hr1 (by unfold maxLen; omega) (by omega) (by simp) ?_)
  intro v1 w1 own1 hg1
  replace q1 : Below w.heap.size w w1 := q1.grown hg1 (by simp) (fun k hk => (hown0.lt k hk).1)
  clear hg1 hown0 hr1
  try rw [List.nil_append, Nat.zero_add] at own1
  obtain ⟨ao, co, rfl, ro⟩ := row_of_owns own1
  clear own1
  have rd := hr.below q1 (Nat.le_refl _)
  have hsm : len ≤ 400 := by omega
  have HL : Hid ((nI (sumL KL S0 z)).length = 32) := by show _ = _; rw [nI_length]; rfl
  have hsum := sum13_any w1 z ao len co ro hz (by omega)
  have href := fun w r => refSum13 z a len cap w r hz (by omega)
  generalize sumL KL S0 z = sm at *
  go_wp2_with fail
  refine (hsum).mono ?_
  rintro e w2 ⟨rfl, qq⟩
  replace ro := ro.below qq (Nat.le_refl _)
  replace rd := rd.below qq (Nat.le_refl _)
  replace q1 := btrans q1 qq
  clear qq
  have A2 := Arr.new w2 43 .u8 (nI (List.replicate 32 0)) _ rfl
  go_wp2_with (refine wpList_storeA rfl 43 _ _ rfl w2.heap.size (nI sm) rfl rfl A2 Try.size43 (by decide +kernel) HL.out ?_)
  rw [show ∀ a : Act, a.put none undef = a from fun _ => rfl]
  have s2 := q1.size
  have rs := (A2.whole (nI sm)).row (by rw [HL.out]; decide) 32 HL.out
  have qq : Below w2.heap.size w2 ((w2.alloc (.cells ((nI (List.replicate 32 0)).map (Value.int .u8)).toArray 43)).setRow w2.heap.size ((nI sm).map (Value.int .u8)).toArray) := below_setRow (below_one w2 _) (Nat.le_refl _) _
  replace ro := ro.below qq (Nat.le_refl _)
  replace rd := rd.below qq (Nat.le_refl _)
  replace q1 := btrans q1 qq
  clear qq A2 hsum s2
  change Code.wp _ _ _ _ ((w2.alloc (.cells ((nI (List.replicate 32 0)).map (Value.int .u8)).toArray 43)).setRow w2.heap.size ((nI sm).map (Value.int .u8)).toArray)
  generalize (w2.alloc (.cells ((nI (List.replicate 32 0)).map (Value.int .u8)).toArray 43)).setRow w2.heap.size ((nI sm).map (Value.int .u8)).toArray = w3 at *
  generalize w2.heap.size = g4 at *
  refine held_begin (by kernel_rfl) ?_
  refine held_call (i := 0) (fuel := 16) (by kernel_rfl) rfl (by rfl) (fun K hK => ?_)
  go_simp
  have qd := Since.drew w3
  replace ro := ro.below qd (Nat.le_refl _)
  replace rd := rd.below qd (Nat.le_refl _)
  replace rs := rs.below qd (Nat.le_refl _)
  replace q1 := btrans q1 qd
  clear qd
  refine (awake13_any _).mono ?_
  rintro e w4 ⟨rfl, qq0⟩
  refine hK _ _ (Since.trans (Since.drew _) qq0) ?_
  have qq : Since _ _ := qq0
  clear hK K qq0
  replace ro := ro.below qq (Nat.le_refl _)
  replace rd := rd.below qq (Nat.le_refl _)
  replace rs := rs.below qq (Nat.le_refl _)
  replace q1 := btrans q1 qq
  clear qq
  refine held_reads (rs := [1, 2, 3, 4, 5, 6, 7, 8, 9, 10, 11]) (fuel := 5) (by kernel_rfl) (fun c d v a w h => by cases d <;> exact h) (by kernel_rfl) (Since.refl _) (fun K hK => ?_)
  go_simp
  refine calm_move _ rfl (by rfl) rfl ?_
  go_simp
  refine calm_move _ rfl (by rfl) rfl ?_
  go_simp
  refine calm_do (.string (strOfNums (nI z))) rfl (by rfl) (fun w' hw' => ?_) ?_
  · have hcc := conv_row Try.underlying36 Try.underlying5 Try.underlying9 (ro.below hw' (Nat.le_refl _))
    go_simp
  go_simp
  refine calm_move _ rfl (by rfl) rfl ?_
  go_simp
  refine calm_do (.string (strOfNums (nI z))) rfl (by rfl) (fun w' hw' => ?_) ?_
  · have hcc := conv_row Try.underlying36 Try.underlying5 Try.underlying9 (rd.below hw' (Nat.le_refl _))
    go_simp
  go_simp
  refine calm_do (.bool true) rfl (by rfl) (fun w' hw' => ?_) ?_
  · go_simp
  go_simp
  refine calm_do (.bool true) rfl (by rfl) (fun w' hw' => ?_) ?_
  · go_simp
  go_simp
  refine calm_move _ rfl (by rfl) rfl ?_
  go_simp
  refine calm_do (.slice (some ⟨g4, 0, none⟩) 32 32) rfl (by rfl) (fun w' hw' => ?_) ?_
  · have hsl := run_sliceAtAll (P := Try.prog) 43 5 32 Try.underlying43 Try.one5 g4 0 (by decide) w'
    go_simp
  go_simp
  refine calm_do (.string (strOfNums (nI sm))) rfl (by rfl) (fun w' hw' => ?_) ?_
  · have hcc := conv_row Try.underlying36 Try.underlying5 Try.underlying9 (rs.below hw' (Nat.le_refl _))
    go_simp
  go_simp
  refine calm_move _ rfl (by rfl) rfl ?_
  go_simp
  refine calm_nil (hK.out _ ?_)
  clear hK K
  refine held_call (i := 12) (fuel := 4) (by kernel_rfl) rfl (by rfl) (fun K hK => ?_)
  go_simp
  refine (href _ rd).mono ?_
  rintro e w5 ⟨v5, rfl, own5, qq0⟩
  refine hK _ _ (Since.trans (Since.refl _) qq0) ?_
  have qq : Since _ _ := qq0
  clear hK K qq0
  replace ro := ro.below qq (Nat.le_refl _)
  replace rd := rd.below qq (Nat.le_refl _)
  replace rs := rs.below qq (Nat.le_refl _)
  replace q1 := btrans q1 qq
  clear qq
  obtain ⟨af, cf, rfl, rf⟩ := row_of_owns own5
  clear own5
  refine held_reads (rs := [13, 14, 15, 16]) (fuel := 0) (by kernel_rfl) (fun c d v a w h => by cases d <;> exact h) (by kernel_rfl) (Since.refl _) (fun K hK => ?_)
  go_simp
  refine calm_do (.string (strOfNums (nI sm))) rfl (by rfl) (fun w' hw' => ?_) ?_
  · have hcc := conv_row Try.underlying36 Try.underlying5 Try.underlying9 (rf.below hw' (Nat.le_refl _))
    go_simp
  go_simp
  refine calm_do (.bool true) rfl (by rfl) (fun w' hw' => ?_) ?_
  · go_simp
  go_simp
  refine calm_do (.bool true) rfl (by rfl) (fun w' hw' => ?_) ?_
  · go_simp
  go_simp
  refine calm_assign _ rfl (by rfl) rfl ?_
  go_simp
  refine calm_nil (hK.out _ ?_)
  clear hK K
  refine wpAnyH_done (by kernel_rfl) ?_ _
  go_wp2
  go_ret
  exact ⟨rfl, q1⟩
end Go.Proofs.Ytoijeefmddopbaa
