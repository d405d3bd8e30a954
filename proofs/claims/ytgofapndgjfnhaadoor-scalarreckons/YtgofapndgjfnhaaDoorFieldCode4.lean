/-
  The code of layer 16 (field): folded, product.
-/
import Derived.Test.YtgofapndgjfnhaaDoorFieldCode3
namespace Go.Proofs.YtgofapndgjfnhaaDoor.N
open Go.RowKit
set_option linter.unusedVariables false
set_option maxRecDepth 8192

theorem lA_at (b k : Nat) (hk : k < 8) : (lA b)[k]? = some (.int .u64 ((W.dg (W.digL b 8) k : Nat) : Int)) := by
  rw [lA_def, arr_get _ _ k (by rw [W.digL_length]; exact hk)]
  rfl
theorem lV {a : Nat} (h : a < 18446744073709551616 ^ 8) : W.vL (W.digL a 8) = a := W.vL_digL_lt h
theorem two_fP : 2 * fP < 2 ^ 256 := by have := fP_eq; omega
theorem fold_lt {m c hi lo p : Nat} (hp : p = 2 ^ 256) (hm : m < p) (hlo : lo < p) (h : m + c * p = 38 * hi + lo) (hc : c ≤ 38) (t r : Nat) (ht : t = 2 * c + m / 2 ^ 255) (hr : r = m % 2 ^ 255) (V : Nat) (hV : V = lo + p * hi) : (r + t * 19) < 2 * fP ∧ (r + t * 19) % fP = V % fP ∧ t ≤ 77 := by
  have e1 := Nat.div_add_mod m (2 ^ 255)
  have e2 : m / 2 ^ 255 < 2 := Nat.div_lt_of_lt_mul (by omega)
  have e3 : m % 2 ^ 255 < 2 ^ 255 := Nat.mod_lt _ (by decide)
  have e4 : fP = 2 ^ 255 - 19 := fP_eq
  refine ⟨by omega, ?_, by omega⟩
  have e5 : V = (r + t * 19) + fP * (t + 2 * hi) := by
    generalize fP = f at *
    have e6 : f * t + 19 * t = 2 ^ 255 * t := by rw [← Nat.add_mul, show f + 19 = 2 ^ 255 from by omega]
    have e7 : f * (2 * hi) + 19 * (2 * hi) = 2 ^ 255 * (2 * hi) := by rw [← Nat.add_mul, show f + 19 = 2 ^ 255 from by omega]
    rw [Nat.mul_add]
    generalize f * t = ft at *
    generalize f * (2 * hi) = fh at *
    subst hp hV
    omega
  rw [e5, Nat.add_mul_mod_self_left]
theorem wA_one1 (x : Nat) (hx : x < 18446744073709551616) : Tryd.prog.built 70 [(0, .int .u64 (x : Int))] = some (wA x) := by
  have e : wA x = arr .u64 [x, 0, 0, 0] := by
    rw [wA_def]
    congr 1
    refine (W.digL_dig _ _).ext (fun y hy => ?_) (by rw [W.digL_length]; rfl) ?_
    · simp only [List.mem_cons, List.not_mem_nil, or_false] at hy
      rcases hy with rfl | rfl | rfl | rfl <;> omega
    · rw [W.vL_digL_lt (by omega)]
      simp [W.vL, W.vTo, W.dg]
  rw [e]
  rfl
set_option maxHeartbeats 1600000 in
theorem folded_any (a : Nat) (ha : a < 18446744073709551616 ^ 8) (cR : ∀ (x : Nat) (w : World), x < 2 * fP → Calls Tryd.prog 82 #[.agg (wA x)] w fun e w' => e = .returned (.agg (wA (x % fP))) ∧ Below w.heap.size w w') (w : World) :
    Calls Tryd.prog 81 #[.agg (lA a)] w fun e w' => e = .returned (.agg (wA (a % fP))) ∧ Below w.heap.size w w' := by
  have HA : Hid (a < 18446744073709551616 ^ 8) := ha
  clear ha
  have V0 := Vars.start w
  go_enter Tryd.func81, Tryd.ntmps81
  go_wp2_with (first
    | (refine wpList_boxV V0 1 92 _ rfl rfl rfl (lA a) rfl ?_; intro w1 g1 V1)
    | (refine wpList_allocV V1 2 70 rfl rfl rfl (wA 0) zeroW ?_; intro w2 g2 V2)
    | (refine wpList_allocV V2 3 70 rfl rfl rfl _ zeroW4 ?_; intro w3 g3 V3))
  clear V0 V1 V2
  have HD : Hid (W.Dig (W.digL a 8)) := W.digL_dig _ _
  go_loopw [4, 7] (fun cv y wr => ∃ (k c : Nat) (m : List Nat), k ≤ 4 ∧ c ≤ 38 ∧ y = .int .i64 (k : Int) ∧ cv = .int .u64 (c : Int) ∧ Hid (W.FoldI (W.digL a 8) m k c) ∧ Hid (Vars w wr [⟨g3, 70, arr .u64 m⟩, ⟨g2, 70, wA 0⟩, ⟨g1, 92, lA a⟩])) (fun _ y _ => 4 - (intOf y).toNat)
  case atStart => exact ⟨0, 0, List.replicate 4 0, by omega, by omega, rfl, rfl, W.FoldI.start _, V3⟩
  case round =>
    clear V3
    obtain ⟨k, c, m, hk, hc1, rfl, rfl, HI, HV⟩ := hrel
    by_cases hlt : k < 4
    · have V4 := HV.out
      have hc := arr_cell (V4.at 0 rfl) k (by rw [HI.out.len]; exact hlt)
      have hfz := arr_unfrozen (V4.at 0 rfl) k
      have hx9 := HD.out.at k
      have hy9 := HD.out.at (k + 4)
      have HN := HI.out.next HD.out hlt rfl
      have hst := fun w => step_any (W.dg (W.digL a 8) (k + 4)) 38 (W.dg (W.digL a 8) k) c w hy9 (by decide) hx9 (by omega)
      have HI5 : Hid (W.FoldI (W.digL a 8) (m.set k (stLo (W.dg (W.digL a 8) (k + 4)) 38 (W.dg (W.digL a 8) k) c)) (k + 1) (stHi (W.dg (W.digL a 8) (k + 4)) 38 (W.dg (W.digL a 8) k) c)) := HN
      have hc5 : stHi (W.dg (W.digL a 8) (k + 4)) 38 (W.dg (W.digL a 8) k) c ≤ 38 := HN.cl
      clear HN
      generalize stLo (W.dg (W.digL a 8) (k + 4)) 38 (W.dg (W.digL a 8) k) c = x5 at *
      generalize stHi (W.dg (W.digL a 8) (k + 4)) 38 (W.dg (W.digL a 8) k) c = c5 at *
      have V5 := V4.setc 0 rfl k x5
      have HV5 : Hid (Vars w (wr.setCell ⟨g3, k, none⟩ (.int .u64 ((x5 : Nat) : Int))) [⟨g3, 70, arr .u64 (m.set k x5)⟩, ⟨g2, 70, wA 0⟩, ⟨g1, 92, lA a⟩]) := V5
      have HCL : Hid (∀ w' : World, (∃ z : List Nat, z.length = 4 ∧ Vars w w' [⟨g3, 70, arr .u64 z⟩, ⟨g2, 70, wA 0⟩, ⟨g1, 92, lA a⟩]) → w'.cell? ⟨g1, k, none⟩ = some (.int .u64 ((W.dg (W.digL a 8) k : Nat) : Int))) := by
        rintro w' ⟨z, hz, hv⟩
        rw [cell_of_row w' g1 _ _ _ _ (hv.at 2 rfl), lA_at a _ (by omega)]
      have HCH : Hid (∀ w' : World, (∃ z : List Nat, z.length = 4 ∧ Vars w w' [⟨g3, 70, arr .u64 z⟩, ⟨g2, 70, wA 0⟩, ⟨g1, 92, lA a⟩]) → w'.cell? ⟨g1, k + 4, none⟩ = some (.int .u64 ((W.dg (W.digL a 8) (k + 4) : Nat) : Int))) := by
        rintro w' ⟨z, hz, hv⟩
        rw [cell_of_row w' g1 _ _ _ _ (hv.at 2 rfl), lA_at a _ (by omega)]
      clear V4 V5
      generalize W.dg (W.digL a 8) (k + 4) = y at *
      generalize W.dg (W.digL a 8) k = x at *
      generalize m[k]?.getD 0 = old at *
      have ek : (((k : Int) + 4)).toNat = k + 4 := by omega
      have ekw : IntKind.i64.wrap ((k : Int) + 4) = (k : Int) + 4 := by rw [IntKind.wrap_i64]; omega
      have ek1 : (0 : Int) ≤ (k : Int) + 4 := by omega
      have ek2 : (k : Int) + 4 < 8 := by omega
      have ek3 : (k : Int) < 8 := by omega
      have ek4 : (k : Int) < 4 := by omega
      go_wp2
      have sD : (fun w' : World => ∃ z : List Nat, z.length = 4 ∧ Vars w w' [⟨g3, 70, arr .u64 z⟩, ⟨g2, 70, wA 0⟩, ⟨g1, 92, lA a⟩]) wr.drew := ⟨m, HI.out.len, HV.out.drew⟩
      refine av_open (fun w' : World => ∃ z : List Nat, z.length = 4 ∧ Vars w w' [⟨g3, 70, arr .u64 z⟩, ⟨g2, 70, wA 0⟩, ⟨g1, 92, lA a⟩]) (by kernel_rfl) ?_
      refine held_reads (rs := [0, 1, 2, 3, 4, 5, 6, 7, 8]) (fuel := 7) (by kernel_rfl) (fun c d v a w h => by cases d <;> exact h) (by kernel_rfl) sD (fun K hK => ?_)
      refine calm_move _ rfl (by rfl) rfl ?_
      go_simp
      refine calm_move _ rfl (by rfl) rfl ?_
      go_simp
      refine calm_do (.int .i64 ((k : Int) + 4)) rfl (by rfl) (fun w' hw' => ?_) ?_
      · go_simp
      go_simp
      refine calm_do (.pointer (some ⟨g1, k + 4, none⟩)) rfl (by rfl) (fun w' hw' => ?_) ?_
      · go_simp
      go_simp
      refine calm_do (.int .u64 (y : Int)) rfl (by rfl) (fun w' hw' => ?_) ?_
      · have hcc := HCH.out w' hw'
        go_simp
      go_simp
      refine calm_move _ rfl (by rfl) rfl ?_
      go_simp
      refine calm_do (.pointer (some ⟨g1, k, none⟩)) rfl (by rfl) (fun w' hw' => ?_) ?_
      · go_simp
      go_simp
      refine calm_do (.int .u64 (x : Int)) rfl (by rfl) (fun w' hw' => ?_) ?_
      · have hcc := HCL.out w' hw'
        go_simp
      go_simp
      refine calm_move _ rfl (by rfl) rfl ?_
      go_simp
      refine calm_nil (hK.out _ ?_)
      clear hK K
      refine av_op (i := 9) (fuel := 6) (by kernel_rfl) rfl (by rfl) (fun K hK => ?_)
      go_simp
      refine (hst _).mono ?_
      rintro e w' ⟨rfl, rfl⟩
      refine hK _ _ sD ?_
      clear hK K
      refine held_reads (rs := [10, 11, 12, 13]) (fuel := 2) (by kernel_rfl) (fun c d v a w h => by cases d <;> exact h) (by kernel_rfl) sD (fun K hK => ?_)
      go_simp
      refine calm_move _ rfl (by rfl) rfl ?_
      go_simp
      refine calm_do (.int .u64 (x5 : Int)) rfl (by rfl) (fun w' hw' => ?_) ?_
      · go_simp
      go_simp
      refine calm_do (.int .u64 (c5 : Int)) rfl (by rfl) (fun w' hw' => ?_) ?_
      · go_simp
      go_simp
      refine calm_do (.pointer (some ⟨g3, k, none⟩)) rfl (by rfl) (fun w' hw' => ?_) ?_
      · go_simp
      go_simp
      refine calm_nil (hK.out _ ?_)
      clear hK K
      refine av_op (i := 14) (fuel := 1) (by kernel_rfl) rfl (by rfl) (fun K hK => ?_)
      go_simp
      have sE : (fun w' : World => ∃ z : List Nat, z.length = 4 ∧ Vars w w' [⟨g3, 70, arr .u64 z⟩, ⟨g2, 70, wA 0⟩, ⟨g1, 92, lA a⟩]) (wr.drew.setCell ⟨g3, k, none⟩ (.int .u64 (x5 : Int))) := ⟨m.set k x5, by rw [List.length_set]; exact HI.out.len, HV5.out.drew⟩
      refine hK _ _ sE ?_
      clear hK K
      refine held_reads (rs := [15]) (fuel := 0) (by kernel_rfl) (fun c d v a w h => by cases d <;> exact h) (by kernel_rfl) sE (fun K hK => ?_)
      go_simp
      refine calm_assign _ rfl (by rfl) rfl ?_
      go_simp
      refine calm_nil (hK.out _ ?_)
      clear hK K
      refine wpAnyH_done (by kernel_rfl) ?_ _
      go_wp2
      go_roundw
      case rel => exact ⟨k + 1, c5, m.set k x5, by omega, hc5, by go_num, rfl, HI5, HV5.out.drew⟩
      case measure => simp [intOf]; omega
    · obtain rfl : k = 4 := by omega
      have hm := HI.out.dig.vL_lt
      rw [HI.out.len] at hm
      obtain ⟨hi, lo, f1, f2, f3⟩ := HI.out.done rfl (k := 8) rfl (W.digL_length _ _) HD.out
      rw [lV HA.out] at f1
      have F := fold_lt w256 hm f2 f3 HI.out.cl _ _ rfl rfl a (by rw [f1])
      have hx9 := HI.out.dig.at 3
      have ht := W.top_split HI.out.len HI.out.dig
      have HF1 : Hid (W.vL m % 2 ^ 255 + (2 * c + W.vL m / 2 ^ 255) * 19 < 2 * fP) := F.1
      have HF2 : Hid ((W.vL m % 2 ^ 255 + (2 * c + W.vL m / 2 ^ 255) * 19) % fP = a % fP) := F.2.1
      have ht77 := F.2.2
      rw [← ht.1] at HF1 HF2 ht77
      have HM5 : Hid (arr .u64 (m.set 3 (W.dg m 3 % 9223372036854775808)) = wA (W.vL m % 2 ^ 255)) := by
        show _ = _
        rw [wA_def, ← ht.2]
      clear F f1 f2 f3 hm ht
      have V4 := HV.out
      have hc := arr_cell (V4.at 0 rfl) 3 (by rw [HI.out.len]; decide)
      rw [show m[3]?.getD 0 = W.dg m 3 from rfl] at hc
      have hfz := arr_unfrozen (V4.at 0 rfl) 3
      have V5 := V4.setc 0 rfl 3 (W.dg m 3 % 9223372036854775808)
      have HV5 : Hid (Vars w (wr.setCell ⟨g3, 3, none⟩ (.int .u64 ((W.dg m 3 % 9223372036854775808 : Nat) : Int))) [⟨g3, 70, wA (W.vL m % 2 ^ 255)⟩, ⟨g2, 70, wA 0⟩, ⟨g1, 92, lA a⟩]) := by rw [← HM5.out]; exact V5
      clear V4 V5 HM5
      generalize W.vL m % 2 ^ 255 = r at *
      generalize W.dg m 3 = x at *
      have e1b : (c : Int) * 2 = ((2 * c : Nat) : Int) := by omega
      have e2 : (x : Int) / 9223372036854775808 = ((x / 9223372036854775808 : Nat) : Int) := by omega
      have hxb : x / 9223372036854775808 < 2 := by omega
      have e3 : bits .and .u64 (x : Int) 9223372036854775807 = ((x % 9223372036854775808 : Nat) : Int) := by
        have h := bits_and_u64_nat x 9223372036854775807 (by omega) (by decide)
        rw [show x &&& 9223372036854775807 = x % 9223372036854775808 from Nat.and_two_pow_sub_one_eq_mod _ 63] at h
        exact h
      have e4 : bits .or .u64 ((2 * c : Nat) : Int) ((x / 9223372036854775808 : Nat) : Int) = ((2 * c + x / 9223372036854775808 : Nat) : Int) := by
        rw [u64_or_nat _ _ (by omega) (by omega)]
        congr 1
        rw [Nat.mul_comm, ← Nat.shiftLeft_eq c 1, ← Nat.shiftLeft_add_eq_or_of_lt (by omega)]
      generalize x / 9223372036854775808 = xb at *
      generalize x % 9223372036854775808 = xm at *
      obtain ⟨t, ht⟩ : ∃ t, 2 * c + xb = t := ⟨_, rfl⟩
      rw [ht] at e4 HF1 HF2 ht77
      rw [← e1b] at e4
      obtain ⟨t9, ht9⟩ : ∃ t9, t * 19 = t9 := ⟨_, rfl⟩
      rw [ht9] at HF1 HF2
      have e5 : IntKind.u64.wrap ((t : Int) * 19) = (t9 : Int) := by rw [IntKind.wrap_u64]; omega
      clear e1b
      have ht99 : t9 < 18446744073709551616 := by omega
      have HB := wA_one1 t9 ht99
      have V5 := HV5.out
      go_wp2_with (first
        | (refine wpList_loadV V5 0 rfl 35 _ rfl rfl rfl rfl Tryd.underlying70 Tryd.szW (wA_size _) ?_)
        | (refine wpList_buildV 38 70 _ rfl rfl rfl (wA t9) HB ?_))
      refine (plus_any r t9 (Nat.lt_trans HF1.out two_fP) _).mono ?_
      rintro e w6 ⟨rfl, q6⟩
      have V6 := V5.call q6
      clear q6 V5 HV5 hc hfz
      go_wp2_with fail
      refine (cR (r + t9) _ HF1.out).mono ?_
      rintro e w7 ⟨rfl, q7⟩
      have V7 := V6.call q7
      clear q7 V6
      go_wp2_with (refine wpList_storeV V7 1 rfl _ _ rfl rfl rfl _ rfl rfl Tryd.szW (wA_size _) (wA_size _) (wA_one _) ?_; intro w8 V8)
      exact bodyPost_ret (resV1 rfl _ V8 1 rfl rfl Tryd.underlying70 Tryd.szW (wA_size _)) rfl ⟨by rw [HF2.out], V8.bel⟩
set_option maxHeartbeats 1600000 in
theorem product_gen (a b : Nat) (ha : a < 2 ^ 256) (hb : b < 2 ^ 256) (cF : ∀ (x : Nat) (w : World), x < 18446744073709551616 ^ 8 → Calls Tryd.prog 81 #[.agg (lA x)] w fun e w' => e = .returned (.agg (wA (x % fP))) ∧ Below w.heap.size w w') (w : World) :
    Calls Tryd.prog 72 #[.agg (wA a), .agg (wA b)] w fun e w' => e = .returned (.agg (wA (a * b % fP))) ∧ Below w.heap.size w w' := by
  have HS : Hid (a < 2 ^ 256 ∧ b < 2 ^ 256) := ⟨ha, hb⟩
  clear ha hb
  have V0 := Vars.start w
  go_enter Tryd.func72, Tryd.ntmps72
  go_wp2_with (first
    | (refine wpList_boxV V0 2 70 _ rfl rfl rfl (wA a) rfl ?_; intro w1 g1 V1)
    | (refine wpList_boxV V1 3 70 _ rfl rfl rfl (wA b) rfl ?_; intro w2 g2 V2)
    | (refine wpList_allocV V2 4 70 rfl rfl rfl (wA 0) zeroW ?_; intro w3 g3 V3)
    | (refine wpList_allocV V3 5 92 rfl rfl rfl _ zeroL8 ?_; intro w4 g4 V4)
    | (refine wpList_loadV V4 3 rfl 11 _ rfl rfl rfl rfl Tryd.underlying70 Tryd.szW (wA_size _) ?_))
  clear V0 V1 V2 V3
  have HD : Hid (W.Dig (W.digL a 4) ∧ W.Dig (W.digL b 4)) := ⟨wD a, wD b⟩
  go_loopw [12] (fun y wr => ∃ (i : Nat) (m : List Nat), i ≤ 4 ∧ y = .int .i64 (i : Int) ∧ Hid (W.MulI (W.digL a 4) (W.digL b 4) m i 0 0) ∧ Hid (Vars w wr [⟨g4, 92, arr .u64 m⟩, ⟨g3, 70, wA 0⟩, ⟨g2, 70, wA b⟩, ⟨g1, 70, wA a⟩])) (fun y _ => 4 - (intOf y).toNat)
  case atStart => exact ⟨0, List.replicate 8 0, by omega, rfl, W.MulI.start _ _, V4⟩
  case round =>
    clear V4
    obtain ⟨i, m, hi, rfl, HI, HV⟩ := hrel
    by_cases hlt : i < 4
    · have HX : Hid ((wA a)[i]? = some (.int .u64 ((W.dg (W.digL a 4) i : Nat) : Int))) := wA_at a i hlt
      have hx9 : W.dg (W.digL a 4) i < 18446744073709551616 := HD.out.1.at i
      have HDX : Hid (W.dg (W.digL a 4) i = W.dg (W.digL a 4) i) := rfl
      obtain ⟨x, hx⟩ : ∃ x, W.dg (W.digL a 4) i = x := ⟨_, rfl⟩
      have HXx : Hid (W.dg (W.digL a 4) i = x) := hx
      rw [hx] at HX hx9
      clear hx HDX
      have V5 := HV.out
      go_wp2_with (first
        | (refine wpList_indexV rfl 70 _ _ rfl (wA a) _ i rfl rfl Tryd.underlying70 Tryd.underlying68 Tryd.sz64 hlt HX.out ?_)
        | (refine wpList_loadV V5 2 rfl 16 _ rfl rfl rfl rfl Tryd.underlying70 Tryd.szW (wA_size _) ?_))
      obtain ⟨wo, hwo⟩ : ∃ z, z = wr := ⟨_, rfl⟩
      subst hwo
      clear V5
      go_loopw [8, 17] (fun cv y wr => ∃ (k c : Nat) (m : List Nat), k ≤ 4 ∧ c < 18446744073709551616 ∧ y = .int .i64 (k : Int) ∧ cv = .int .u64 (c : Int) ∧ Hid (W.MulI (W.digL a 4) (W.digL b 4) m i k c) ∧ Hid (Vars w wr [⟨g4, 92, arr .u64 m⟩, ⟨g3, 70, wA 0⟩, ⟨g2, 70, wA b⟩, ⟨g1, 70, wA a⟩])) (fun _ y _ => 4 - (intOf y).toNat)
      case atStart => exact ⟨0, 0, m, by omega, by omega, rfl, rfl, HI.out, HV.out⟩
      case round =>
        clear HI HV m
        obtain ⟨k, c, m, hk, hc9, rfl, rfl, HI, HV⟩ := hrel
        by_cases hlk : k < 4
        · have HY : Hid ((wA b)[k]? = some (.int .u64 ((W.dg (W.digL b 4) k : Nat) : Int))) := wA_at b k hlk
          have V5 := HV.out
          have hc := arr_cell (V5.at 0 rfl) (i + k) (by rw [HI.out.len]; omega)
          rw [show m[i + k]?.getD 0 = W.dg m (i + k) from rfl] at hc
          have hfz := arr_unfrozen (V5.at 0 rfl) (i + k)
          have hy9 : W.dg (W.digL b 4) k < 18446744073709551616 := HD.out.2.at k
          have hz9 : W.dg m (i + k) < 18446744073709551616 := HI.out.dig.at (i + k)
          have HN := HI.out.next HD.out.1 HD.out.2 hlt hlk rfl
          rw [HXx.out] at HN
          have hst := fun w => step_any x (W.dg (W.digL b 4) k) (W.dg m (i + k)) c w hx9 hy9 hz9 hc9
          have HI5 : Hid (W.MulI (W.digL a 4) (W.digL b 4) (m.set (i + k) (stLo x (W.dg (W.digL b 4) k) (W.dg m (i + k)) c)) i (k + 1) (stHi x (W.dg (W.digL b 4) k) (W.dg m (i + k)) c)) := HN
          have hc5 : stHi x (W.dg (W.digL b 4) k) (W.dg m (i + k)) c < 18446744073709551616 := HN.cl
          clear HN
          generalize stLo x (W.dg (W.digL b 4) k) (W.dg m (i + k)) c = x5 at *
          generalize stHi x (W.dg (W.digL b 4) k) (W.dg m (i + k)) c = c5 at *
          have V6 := V5.setc 0 rfl (i + k) x5
          have HV6 : Hid (Vars w (wr.setCell ⟨g4, i + k, none⟩ (.int .u64 ((x5 : Nat) : Int))) [⟨g4, 92, arr .u64 (m.set (i + k) x5)⟩, ⟨g3, 70, wA 0⟩, ⟨g2, 70, wA b⟩, ⟨g1, 70, wA a⟩]) := V6
          clear V5 V6
          generalize W.dg (W.digL b 4) k = y at *
          generalize W.dg m (i + k) = z at *
          have eik : (i : Int) + (k : Int) = ((i + k : Nat) : Int) := by omega
          obtain ⟨ik, hik⟩ : ∃ ik, i + k = ik := ⟨_, rfl⟩
          have hik8 : ik < 8 := by omega
          rw [hik] at eik HV6 hc hfz HI5
          clear hik
          go_wp2_with (refine wpList_indexV rfl 70 _ _ rfl (wA b) _ k rfl rfl Tryd.underlying70 Tryd.underlying68 Tryd.sz64 hlk HY.out ?_)
          refine (hst _).mono ?_
          rintro e w' ⟨rfl, rfl⟩
          go_wp2
          go_roundw
          case rel => exact ⟨k + 1, c5, m.set ik x5, by omega, hc5, by go_num, rfl, HI5, HV6⟩
          case measure => simp [intOf]; omega
        · obtain rfl : k = 4 := by omega
          have HI5 : Hid (W.MulI (W.digL a 4) (W.digL b 4) (m.set (i + 4) c) (i + 1) 0 0) := HI.out.line (W.digL_length _ _) hlt
          have V5 := HV.out
          have hc := arr_cell (V5.at 0 rfl) (i + 4) (by rw [HI.out.len]; omega)
          have hfz := arr_unfrozen (V5.at 0 rfl) (i + 4)
          generalize m[i + 4]?.getD 0 = old at *
          have V6 := V5.setc 0 rfl (i + 4) c
          have HV6 : Hid (Vars w (wr.setCell ⟨g4, i + 4, none⟩ (.int .u64 ((c : Nat) : Int))) [⟨g4, 92, arr .u64 (m.set (i + 4) c)⟩, ⟨g3, 70, wA 0⟩, ⟨g2, 70, wA b⟩, ⟨g1, 70, wA a⟩]) := V6
          clear V5 V6
          have eik : (i : Int) + 4 = ((i + 4 : Nat) : Int) := by omega
          obtain ⟨ik, hik⟩ : ∃ ik, i + 4 = ik := ⟨_, rfl⟩
          have hik8 : ik < 8 := by omega
          rw [hik] at eik HV6 hc hfz HI5
          clear hik
          go_wp2
          go_roundw
          case rel => exact ⟨i + 1, m.set ik c, by omega, by go_num, HI5, HV6⟩
          case measure => simp [intOf]; omega
    · obtain rfl : i = 4 := by omega
      have hs : W.vL (W.digL a 4) * W.vL (W.digL b 4) < 18446744073709551616 ^ 8 := by
        rw [wV HS.out.1, wV HS.out.2]
        exact W.mul_lt_pow (n := 4) (m := 4) rfl (by rw [w256]; exact HS.out.1) (by rw [w256]; exact HS.out.2)
      have HE := HI.out.done (W.digL_length _ _) HI.out.len hs
      rw [wV HS.out.1, wV HS.out.2] at HE hs
      have HE2 : Hid (arr .u64 m = lA (a * b)) := by show _ = _; rw [lA_def, HE]
      have HS2 : Hid (a * b < 18446744073709551616 ^ 8) := hs
      clear HE hs
      have V5 := HV.out
      rw [HE2.out] at V5
      obtain ⟨ab, hab⟩ : ∃ ab, a * b = ab := ⟨_, rfl⟩
      have HAB : Hid (a * b = ab) := hab
      rw [hab] at V5 HS2
      clear hab
      go_wp2_with (refine wpList_loadV V5 0 rfl 43 _ rfl rfl rfl rfl Tryd.underlying92 Tryd.szL (lA_size _) ?_)
      refine (cF ab _ HS2.out).mono ?_
      rintro e w7 ⟨rfl, q7⟩
      have V7 := V5.call q7
      clear q7 V5
      go_wp2_with (refine wpList_storeV V7 1 rfl _ _ rfl rfl rfl _ rfl rfl Tryd.szW (wA_size _) (wA_size _) (wA_one _) ?_; intro w8 V8)
      exact bodyPost_ret (resV1 rfl _ V8 1 rfl rfl Tryd.underlying70 Tryd.szW (wA_size _)) rfl ⟨by rw [HAB.out], V8.bel⟩
end Go.Proofs.YtgofapndgjfnhaaDoor.N
