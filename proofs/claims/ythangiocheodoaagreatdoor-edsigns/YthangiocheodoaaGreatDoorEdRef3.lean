/-
 The document's answers of layer 19: hash, Number, K, Secret.
-/
import Derived.Test.YthangiocheodoaaGreatDoorPackFb
import Derived.Test.YthangiocheodoaaGreatDoorEdRefBase
import Derived.Test.YthangiocheodoaaGreatDoorEdSlice
import Derived.Test.YthangiocheodoaaGreatDoorEdCode2
import Derived.Test.YthangiocheodoaaGreatDoorScalarRef
import Derived.Test.YthangiocheodoaaGreatDoorShbRef5
namespace Go.Proofs.YthangiocheodoaaGreatDoor.N
open Go.RowKit
set_option linter.unusedVariables false
set_option maxRecDepth 8192

theorem row_hA32 {w : World} {g : Nat} {T : TypeId} {a : Nat} (h : w.heap[g]? = some (.cells (hA a) T (0, 0))) : Row .u8 w (some ⟨g, 32, none⟩) 32 32 (nI (digL (a / 2 ^ 256) 32)) := by
 have := row_drop (row_hA h) 32 (by decide)
 rw [nI_drop, digL_two, List.drop_left' (digL_length _ _)] at this
 exact this
set_option maxHeartbeats 1600000 in
theorem hash19_any (R : Nat → B.PartV) (w : World) (a : Option Addr) (len cap : Nat) (hP : B.PartsAt w a len cap R) (dz : Dig (B.catTo R len)) (hb : (B.catTo R len).length ≤ 1000) :
  Calls Tryz.prog 37 #[.slice a len cap] w fun e w' => e = .returned (.agg (bA (numN (B.catTo R len)))) ∧ Below w.heap.size w w' := by
 obtain ⟨i0, hi0, hz0, hz1, hz2⟩ := info_parts Tryz.info5
 have HB0 : Hid (∀ i, i ≤ len → (B.catTo R i).length ≤ 1000) := fun i hi => Nat.le_trans (B.catTo_le R hi) hb
 have HS : Hid (∀ (w : World) (a' : Option Addr) (c' : Nat), Row .u8 w a' (B.catTo R len).length c' (nI (B.catTo R len)) → Rt Tryz.prog 23 #[.slice a' (B.catTo R len).length c'] (.agg (hA (hN (B.catTo R len)))) w) := fun w a' c' hr => by
  have h := B.refSum14 (B.catTo R len) a' _ c' w hr dz hb
  rw [hN_bytes] at h
  rw [hA_def]
  exact h
 have HRD : Hid (∀ (w : World) (g : Nat), w.heap[g]? = some (.cells (hA (hN (B.catTo R len))) 40 (0, 0)) → Rt Tryz.prog 38 #[.slice (some ⟨g, 0, none⟩) 64 64] (.agg (bA (numN (B.catTo R len)))) w) := fun w g hg => by
  have h := refReduce_any (digL (hN (B.catTo R len)) 64) (digL_dig _ _) (some ⟨g, 0, none⟩) 64 64 w (row_hA hg) (by decide)
  rw [vH (hN_lt _), ← numN_eq] at h
  exact h
 generalize numN (B.catTo R len) = r at *
 generalize hN (B.catTo R len) = h at *
 have hlm : len ≤ maxLen := Nat.le_trans hP.hlen hP.hmax
 unfold maxLen at hlm
 have hlc := hP.hlen
 have HP0 : Hid (B.PartsAt w a len cap R) := hP
 clear hb hP dz
 have V0 := Vars.start w
 go_enter Tryz.func37, Tryz.ntmps37
 go_wp2_with (refine zA V0 2 rfl rfl rfl ?_; intro w1 g2 V1)
 have HP : Hid (B.PartsAt w1 a len cap R) := HP0.out.below V1.bel (Nat.le_refl _)
 clear HP0 V0
 go_loopw [3, 4] (fun v y wr => ∃ k n : Nat, k ≤ len ∧ y = .int .i64 (k : Int) ∧ Hid ((B.catTo R k).length = n) ∧ Hid (wr.ownsRow w1.heap.size 5 1 v n ((nI (B.catTo R k)).map (Value.int .u8))) ∧ Hid (Below w1.heap.size w1 wr)) (fun v y _ => len - (intOf y).toNat)
 case atStart => exact ⟨0, 0, by omega, rfl, rfl, World.ownsRow_nil _ _ _ _, Below.refl _ _⟩
 case round =>
  obtain ⟨k, n, hk, rfl, HN, HO, HB⟩ := hrel
  have sB := HB.out.size
  have hn1 := HB0.out k hk
  rw [HN.out] at hn1
  by_cases hlt : k < len
  ·obtain ⟨b, off, rfl, hb, hpe⟩ := HP.out.each (by omega)
   obtain ⟨x0, hri, hzi⟩ := hpe k hlt
   have HC : Hid (B.catTo R (k + 1) = B.catTo R k ++ (R k).num) := rfl
   have hn2 := HB0.out (k + 1) (by omega)
   rw [HC.out, List.length_append, HN.out] at hn2
   generalize hRi : R k = r at x0 hri hzi HC hn2
   clear hRi hpe hzi
   obtain ⟨ar, l, cr, zr⟩ := r
   simp only at x0 hri HC hn2
   rw [nI_out] at hri
   have HLZ : Hid (zr.length = l) := by have := hri.hlen; rw [nI_length] at this; exact this
   rw [HLZ.out] at hn2
   have x1 : wr.cell? ⟨b, off + k, none⟩ = some (.slice ar l cr) := by rw [HB.out.cell hb]; exact x0
   have hrr := hri.below HB.out (Nat.le_refl _)
   have hown := HO.out
   have HL2 : Hid ((B.catTo R (k + 1)).length = n + l) := by show _ = _; rw [HC.out, List.length_append, HN.out, HLZ.out]
   have hii : (k : Int) < (len : Int) := by omega
   clear x0 hri
   go_wp2_with (at_builtin; refine wpList_append_row _ rfl _ _ 24 rfl w1.heap.size 5 i0 (.int .u8 0) 1 Tryz.underlying24 hi0 hz0 hz1 hz2 rfl _ n _ rfl hown .u8 ar l cr _ rfl hrr (by unfold maxLen; omega) (by omega) sB ?_)
   intro v1 w2 own1 g1
   have q1 : Below w1.heap.size w1 w2 := HB.out.grown g1 sB (fun j hj => (hown.lt j hj).1)
   rw [← List.map_append, ← nI_append, ← HC.out] at own1
   have HO1 : Hid (w2.ownsRow w1.heap.size 5 1 v1 (n + l) ((nI (B.catTo R (k + 1))).map (Value.int .u8))) := own1
   have HQ1 : Hid (Below w1.heap.size w1 w2) := q1
   clear own1 q1 g1 hown hrr x1 HO HB HC
   go_wp2
   go_roundw
   case rel => exact ⟨k + 1, n + l, by omega, by go_num, HL2, HO1, HQ1⟩
   case measure => simp [intOf]; omega
  ·obtain rfl : k = len := by omega
   obtain ⟨a1, c1, rfl, r1⟩ := row_of_owns HO.out
   rw [HN.out] at HS
   have HR1 : Hid (Row .u8 wr a1 n c1 (nI (B.catTo R k))) := r1
   have VR := V1.call HB.out
   clear r1 HO V1 HP HB
   go_wp2_with fail
   refine (HS.out wr a1 c1 HR1.out).mono ?_
   rintro e w101 ⟨rfl, q103⟩
   have V102 := VR.call q103
   clear q103 VR
   go_wp2_with (first
    | (refine wpList_allocV V102 5 40 rfl rfl rfl (hA 0) zeroH ?_; intro w104 g105 V106)
    | (refine wpList_storeV V106 0 rfl _ (.tmp 19) rfl rfl rfl (hA h) rfl rfl Tryz.szH (hA_size _) (hA_size _) (hA_one _) ?_; intro w107 V108)
    | (refine wpList_exec rfl (exec_sliceH V108 0 rfl _ rfl rfl) ?_))
   refine (HRD.out w107 g105 (V108.at 0 rfl)).mono ?_
   rintro e w109 ⟨rfl, q111⟩
   have V110 := V108.call q111
   clear q111 V108
   go_wp2_with (refine zL V110 1 rfl _ (.tmp 21) rfl rfl rfl r rfl rfl ?_; intro w112 V113)
   exact bodyPost_ret (resV1 rfl _ V113 1 rfl rfl Tryz.underlying22 Tryz.szB (bA_size _)) rfl ⟨rfl, V113.bel⟩
set_option maxHeartbeats 1600000 in
theorem number19_any {z z' : List Nat} (dz : Dig z) (dz' : Dig z') (hl : z.length + z'.length ≤ 1000) {a a' : Option Addr} {len cap len' cap' : Nat} {w : World} (hr : Row .u8 w a len cap (nI z)) (hr' : Row .u8 w a' len' cap' (nI z')) :
  Calls Tryz.prog 15 #[.slice a len cap, .slice a' len' cap'] w fun e w' => e = .returned (.agg (bA (numN (z ++ z')))) ∧ Below w.heap.size w w' := by
 have HH : Hid (∀ (w' : World) (g : Nat), Below w.heap.size w w' → w'.heap[g]? = some (.cells #[.slice a len cap, .slice a' len' cap'] 24 (0, 0)) → Rt Tryz.prog 37 #[.slice (some ⟨g, 0, none⟩) 2 2] (.agg (bA (numN (z ++ z')))) w') := fun w' g q hg => by
  have h := hash19_any _ w' _ 2 2 (B.parts_two (lt_of_heap hg) (part_in hg 0 rfl (hr.below q (Nat.le_refl _)) dz (by omega)) (part_in hg 1 rfl (hr'.below q (Nat.le_refl _)) dz' (by omega))) (by rw [B.cat_two]; exact dig_both dz dz') (by rw [B.cat_two]; simp only [List.length_append]; omega)
  rw [B.cat_two] at h
  exact h
 generalize numN (z ++ z') = r at *
 clear hr hr' hl dz dz'
 have V0 := Vars.start w
 go_enter Tryz.func15, Tryz.ntmps15
 go_wp2_with (refine zA V0 4 rfl rfl rfl ?_; intro w1 g2 V1)
 have V2 := V1.new 24 #[.slice a len cap, .slice a' len' cap']
 generalize w1.alloc (.cells #[.slice a len cap, .slice a' len' cap'] 24) = w2 at *
 generalize w1.heap.size = g3 at *
 refine (HH.out w2 g3 V2.bel (V2.at 0 rfl)).mono ?_
 rintro e w3 ⟨rfl, q3⟩
 have V3 := V2.call q3
 clear q3 V2 HH
 go_wp2_with (refine zL V3 1 rfl _ (.tmp 8) rfl rfl rfl r rfl rfl ?_; intro w101 V102)
 exact bodyPost_ret (resV1 rfl _ V102 1 rfl rfl Tryz.underlying22 Tryz.szB (bA_size _)) rfl ⟨rfl, V102.bel⟩
theorem made_r3 (a a' a'' : Option Addr) (l c l' c' l'' c'' : Nat) (w : World) : (Instr.buildSlice 63 3 [(0, .slice a l c), (1, .slice a' l' c'), (2, .slice a'' l'' c'')].toArray).run Tryz.prog w = .ok (.slice (some ⟨w.heap.size, 0, none⟩) 3 3) (w.alloc (.cells #[.slice a l c, .slice a' l' c', .slice a'' l'' c''] 24)) := by kernel_rfl
set_option maxHeartbeats 1600000 in
theorem k19_any (R pu : Nat) {m : List Nat} (dm : Dig m) (hl : m.length ≤ 900) {pm : Option Addr} {lm km : Nat} {w : World} (hm : Row .u8 w pm lm km (nI m)) :
  Calls Tryz.prog 16 #[.agg (bA R), .agg (bA pu), .slice pm lm km] w fun e w' => e = .returned (.agg (bA (kN R pu m))) ∧ Below w.heap.size w w' := by
 have l32 := fun x => digL_length x 32
 have HH : Hid (∀ (w' : World) (g h i : Nat), Below w.heap.size w w' → w'.heap[g]? = some (.cells #[.slice (some ⟨h, 0, none⟩) 32 32, .slice (some ⟨i, 0, none⟩) 32 32, .slice pm lm km] 24 (0, 0)) → w'.heap[h]? = some (.cells (bA R) 22 (0, 0)) → w'.heap[i]? = some (.cells (bA pu) 22 (0, 0)) → Rt Tryz.prog 37 #[.slice (some ⟨g, 0, none⟩) 3 3] (.agg (bA (kN R pu m))) w') := fun w' g h i q hg hh hi => by
  have h := hash19_any _ w' _ 3 3 (B.parts_three (lt_of_heap hg) (part_in hg 0 rfl (row_bA hh) (digL_dig _ _) (by rw [l32]; decide)) (part_in hg 1 rfl (row_bA hi) (digL_dig _ _) (by rw [l32]; decide)) (part_in hg 2 rfl (hm.below q (Nat.le_refl _)) dm (by omega))) (by rw [B.cat_three]; exact dig_both (dig_both (digL_dig _ _) (digL_dig _ _)) dm) (by rw [B.cat_three]; simp only [List.length_append, l32]; omega)
  rw [B.cat_three] at h
  exact h
 generalize kN R pu m = r at *
 clear hm hl dm l32
 have V0 := Vars.start w
 go_enter Tryz.func16, Tryz.ntmps16
 go_wp2_with (first
  | (refine wpList_boxV V0 3 22 _ rfl rfl rfl (bA R) rfl ?_; intro w1 g2 V3)
  | (refine wpList_boxV V3 4 22 _ rfl rfl rfl (bA pu) rfl ?_; intro w4 g5 V6)
  | (refine zA V6 6 rfl rfl rfl ?_; intro w7 g8 V9))
 refine av_open (fun w' => Vars w w' [⟨g5, 22, bA pu⟩, ⟨g2, 22, bA R⟩]) (by kernel_rfl) ?_
 have V10 := V9.drew
 refine zR [0, 1, 2] 3 (by kernel_rfl) (fun _ _ _ _ _ h => h) (V10.tail) fun K hK => ?_
 refine zC (.slice (some ⟨g2, 0, none⟩) 32 32) rfl (by rfl) (fun w' hw' => exec_sliceB hw' 1 rfl _ rfl rfl) ?_
 go_simp
 refine zC (.slice (some ⟨g5, 0, none⟩) 32 32) rfl (by rfl) (fun w' hw' => exec_sliceB hw' 0 rfl _ rfl rfl) ?_
 go_simp
 refine calm_move _ rfl (by rfl) rfl ?_
 go_simp
 refine calm_nil (hK.out _ ?_)
 clear hK K
 refine zO 3 2 (by kernel_rfl) rfl (by rfl) fun K hK => ?_
 refine wp_sliceX V10 10 63 3 _ rfl rfl 24 (#[.slice (some ⟨g2, 0, none⟩) 32 32, .slice (some ⟨g5, 0, none⟩) 32 32, .slice pm lm km]) (made_r3 _ _ _ _ _ _ _ _ _) (fun w11 g12 V13 => ?_)
 refine hK _ _ (V13.tail.tail) ?_
 clear hK K
 try go_simp
 refine zO 4 1 (by kernel_rfl) rfl (by rfl) fun K hK => ?_
 go_simp
 refine (HH.out w11 g12 g2 g5 V13.bel (V13.at 0 rfl) (V13.at 3 rfl) (V13.at 2 rfl)).mono ?_
 rintro e w14 ⟨rfl, q16⟩
 have V15 := V13.call q16
 refine hK _ _ (V15.tail.tail) ?_
 clear hK K q16
 refine zO 5 0 (by kernel_rfl) rfl (by rfl) fun K hK => ?_
 refine zS V15 1 rfl _ _ rfl rfl r rfl rfl (fun w17 V18 => ?_)
 refine hK _ _ (V18.tail.tail) ?_
 clear hK K
 refine wpAnyH_done (by kernel_rfl) ?_ _
 go_wp2_with fail
 exact bodyPost_ret (resV1 rfl _ V18 1 rfl rfl Tryz.underlying22 Tryz.szB (bA_size _)) rfl ⟨rfl, V18.bel⟩
set_option maxHeartbeats 3200000 in
theorem secret19_any (sd : Nat) (w : World) : Calls Tryz.prog 7 #[.agg (bA sd)] w fun e w' => ∃ g, e = .returned (.tuple #[.agg (bA (secA sd)), .slice (some ⟨g, 32, none⟩) 32 32]) ∧ w.heap.size ≤ g ∧ w'.heap[g]? = some (.cells (hA (hN (digL sd 32))) 40 (0, 0)) ∧ Below w.heap.size w w' := by
 have HS : Hid (∀ (w : World) (g : Nat), w.heap[g]? = some (.cells (bA sd) 22 (0, 0)) → Rt Tryz.prog 23 #[.slice (some ⟨g, 0, none⟩) 32 32] (.agg (hA (hN (digL sd 32)))) w) := fun w g hg => by
  have h := B.refSum14 (digL sd 32) _ 32 32 w (row_bA hg) (digL_dig _ _) (by decide)
  rw [hN_bytes] at h
  rw [hA_def]
  exact h
 have HC : Hid (∀ w, Rt Tryz.prog 24 #[.agg (bA (hN (digL sd 32) % 2 ^ 256))] (.agg (bA (secA sd))) w) := fun w => by
  rw [secA_eq]
  exact refClamp_any _ w
 have HZ : Hid (∀ k, k < 32 → (hA (hN (digL sd 32)))[k]? = some (.int .u8 ((dg (digL (hN (digL sd 32) % 2 ^ 256) 32) k : Nat) : Int))) := fun k hk => by rw [hA_get _ k (by omega), digL_low, dg_digL hk]
 have HL : Hid ((digL (hN (digL sd 32) % 2 ^ 256) 32).length = 32 ∧ Dig (digL (hN (digL sd 32) % 2 ^ 256) 32)) := ⟨digL_length _ _, digL_dig _ _⟩
 have HSZ : Hid (arr .u8 (digL (hN (digL sd 32) % 2 ^ 256) 32) = bA (hN (digL sd 32) % 2 ^ 256)) := by show _ = _; rw [bA_def]
 generalize digL (hN (digL sd 32) % 2 ^ 256) 32 = zs at *
 generalize hN (digL sd 32) % 2 ^ 256 = lo at *
 generalize hN (digL sd 32) = h at *
 generalize secA sd = sa at *
 have V0 := Vars.start w
 go_enter Tryz.func7, Tryz.ntmps7
 go_wp2_with (first
  | (refine wpList_boxV V0 1 22 _ rfl rfl rfl (bA sd) rfl ?_; intro w1 g2 V3)
  | (refine zA V3 2 rfl rfl rfl ?_; intro w4 g5 V6)
  | (refine wpList_exec rfl (exec_sliceB V6 1 rfl _ rfl rfl) ?_))
 refine (HS.out w4 g2 (V6.at 1 rfl)).mono ?_
 rintro e w7 ⟨rfl, q9⟩
 have V8 := V6.call q9
 clear q9 V6
 go_wp2_with (first
  | (refine wpList_allocV V8 4 40 rfl rfl rfl (hA 0) zeroH ?_; intro w10 g11 V12)
  | (refine wpList_storeV V12 0 rfl _ (.tmp 8) rfl rfl rfl (hA h) rfl rfl Tryz.szH (hA_size _) (hA_size _) (hA_one _) ?_; intro w13 V14)
  | (refine zA V14 5 rfl rfl rfl ?_; intro w15 g16 V17))
 go_loopw [6] (fun y wr => ∃ k : Nat, k ≤ 32 ∧ y = .int .i64 (k : Int) ∧ Hid (Vars w wr [⟨g16, 22, arr .u8 (mixL zs (List.replicate 32 0) k)⟩, ⟨g11, 40, hA h⟩, ⟨g5, 22, bA 0⟩, ⟨g2, 22, bA sd⟩])) (fun y _ => 32 - (intOf y).toNat)
 case atStart => exact ⟨0, by omega, rfl, by rw [mixL_zero, ← bA_zero]; exact V17⟩
 case round =>
  clear V17
  obtain ⟨k, hk, rfl, HV4⟩ := hrel
  have hk9 : (k : Int) ≤ 32 := by omega
  by_cases hlt : k < 32
  ·have V4 := HV4.out
   have hc2 := arr_cell (V4.at 0 rfl) k (by rw [mixL_len (by rw [HL.out.1, List.length_replicate]) (by rw [List.length_replicate]; omega), List.length_replicate]; exact hlt)
   have hfz := arr_unfrozen (V4.at 0 rfl) k
   have hc1 : wr.cell? ⟨g11, k, none⟩ = some (.int .u8 ((dg zs k : Nat) : Int)) := cell_byte V4 1 rfl k (HZ.out k hlt)
   generalize (mixL zs (List.replicate 32 0) k)[k]?.getD 0 = old at *
   have V5 := V4.setc 0 rfl k (dg zs k)
   rw [mixL_next (by rw [HL.out.1, List.length_replicate]) (by rw [List.length_replicate]; exact hlt)] at V5
   have HV5 : Hid (Vars w (wr.setCell ⟨g16, k, none⟩ (.int .u8 ((dg zs k : Nat) : Int))) [⟨g16, 22, arr .u8 (mixL zs (List.replicate 32 0) (k + 1))⟩, ⟨g11, 40, hA h⟩, ⟨g5, 22, bA 0⟩, ⟨g2, 22, bA sd⟩]) := V5
   have hx9 := HL.out.2.at k
   clear V4 V5 HV4
   generalize dg zs k = x at *
   have hk32 : (k : Int) < 32 := by omega
   have hk64 : (k : Int) < 64 := by omega
   go_wp2
   go_roundw
   case rel => exact ⟨k + 1, by omega, by go_num, HV5⟩
   case measure => simp [intOf]; omega
  ·obtain rfl : k = 32 := by omega
   have V6 := HV4.out
   rw [mixL_all HL.out.1 (by rw [List.length_replicate]), HSZ.out] at V6
   clear HV4
   go_wp2_with fail
   refine av_open (fun w' => Vars w w' [⟨g16, 22, bA lo⟩, ⟨g11, 40, hA h⟩, ⟨g2, 22, bA sd⟩]) (by kernel_rfl) ?_
   have V18 := V6.drew
   refine zR [0, 2] 3 (by kernel_rfl) (fun _ _ _ _ _ h => h) ((V18.del 2)) fun K hK => ?_
   refine zC (.agg (bA lo)) rfl (by rfl) (fun w' hw' => zB hw' 0 rfl _ rfl rfl) ?_
   go_simp
   refine zC (.slice (some ⟨g11, 32, none⟩) 32 32) rfl (by rfl) (fun w' hw' => exec_sliceHL g11 32 (by decide) _ _ rfl rfl rfl) ?_
   go_simp
   refine calm_nil (hK.out _ ?_)
   clear hK K
   refine zO 1 2 (by kernel_rfl) rfl (by rfl) fun K hK => ?_
   go_simp
   refine (HC.out wr.drew).mono ?_
   rintro e w19 ⟨rfl, q21⟩
   have V20 := V18.call q21
   refine hK _ _ ((V20.del 2)) ?_
   clear hK K q21
   refine zO 3 1 (by kernel_rfl) rfl (by rfl) fun K hK => ?_
   refine zS V20 2 rfl _ _ rfl rfl sa rfl rfl (fun w22 V23 => ?_)
   refine hK _ _ ((V23.del 2)) ?_
   clear hK K
   refine zR [4] 0 (by kernel_rfl) (fun _ _ _ _ _ h => h) ((V23.del 2)) fun K hK => ?_
   go_simp
   refine calm_assign _ rfl (by rfl) rfl ?_
   go_simp
   refine calm_nil (hK.out _ ?_)
   clear hK K
   refine wpAnyH_done (by kernel_rfl) ?_ _
   go_wp2_with fail
   exact bodyPost_ret (resV2 rfl _ V23 2 rfl rfl Tryz.underlying22 Tryz.szB (bA_size _)) rfl ⟨g11, rfl, V23.low _ (List.mem_of_getElem? (i := 1) rfl), V23.at 1 rfl, V23.bel⟩
end Go.Proofs.YthangiocheodoaaGreatDoor.N
