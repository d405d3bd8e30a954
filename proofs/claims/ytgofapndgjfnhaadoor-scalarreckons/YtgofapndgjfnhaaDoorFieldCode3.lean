/-
  The code of layer 16 (field): plus, minus.
-/
import Derived.Test.YtgofapndgjfnhaaDoorFieldCode2
namespace Go.Proofs.YtgofapndgjfnhaaDoor.N
open Go.RowKit
set_option linter.unusedVariables false
set_option maxRecDepth 8192

theorem wD (a : Nat) : W.Dig (W.digL a 4) := W.digL_dig _ _
theorem wV {a : Nat} (h : a < 2 ^ 256) : W.vL (W.digL a 4) = a := W.vL_digL_lt (by rw [w256]; exact h)
theorem wA_at (b k : Nat) (hk : k < 4) : (wA b)[k]? = some (.int .u64 ((W.dg (W.digL b 4) k : Nat) : Int)) := by rw [W.dg_digL hk]; exact wA_get b k hk
set_option maxHeartbeats 1600000 in
theorem plus_any (a b : Nat) (hs : a + b < 2 ^ 256) (w : World) : Calls Tryd.prog 83 #[.agg (wA a), .agg (wA b)] w fun e w' => e = .returned (.agg (wA (a + b))) ∧ Below w.heap.size w w' := by
  have HS : Hid (a + b < 2 ^ 256) := hs
  clear hs
  have V0 := Vars.start w
  go_enter Tryd.func83, Tryd.ntmps83
  go_wp2_with (first
    | (refine wpList_boxV V0 2 70 _ rfl rfl rfl (wA a) rfl ?_; intro w1 g1 V1)
    | (refine wpList_boxV V1 3 70 _ rfl rfl rfl (wA b) rfl ?_; intro w2 g2 V2)
    | (refine wpList_allocV V2 4 70 rfl rfl rfl (wA 0) zeroW ?_; intro w3 g3 V3)
    | (refine wpList_loadV V3 1 rfl 8 _ rfl rfl rfl rfl Tryd.underlying70 Tryd.szW (wA_size _) ?_))
  clear V0 V1 V2
  go_loopw [5, 9] (fun cv y wr => ∃ (k c : Nat) (m : List Nat), k ≤ 4 ∧ c ≤ 1 ∧ y = .int .i64 (k : Int) ∧ cv = .int .u64 (c : Int) ∧ Hid (W.PlusI (W.digL a 4) (W.digL b 4) m k c) ∧ Hid (Vars w wr [⟨g3, 70, wA 0⟩, ⟨g2, 70, wA b⟩, ⟨g1, 70, arr .u64 m⟩])) (fun _ y _ => 4 - (intOf y).toNat)
  case atStart => exact ⟨0, 0, W.digL a 4, by omega, by omega, rfl, rfl, W.PlusI.start _ (W.digL_length _ _) (wD a), by rw [← wA_def]; exact V3⟩
  case round =>
    clear V3
    obtain ⟨k, c, m, hk, hc1, rfl, rfl, HI, HV⟩ := hrel
    by_cases hlt : k < 4
    · have HX : Hid ((wA b)[k]? = some (.int .u64 ((W.dg (W.digL b 4) k : Nat) : Int))) := wA_at b k hlt
      have HN := HI.out.next (wD b) hlt rfl
      have V4 := HV.out
      have hc := arr_cell (V4.at 2 rfl) k (by rw [HI.out.len]; exact hlt)
      have hfz := arr_unfrozen (V4.at 2 rfl) k
      have V5 := V4.setc 2 rfl k ((W.dg m k + W.dg (W.digL b 4) k + c) % 18446744073709551616)
      have HI5 : Hid (W.PlusI (W.digL a 4) (W.digL b 4) (m.set k ((W.dg m k + W.dg (W.digL b 4) k + c) % 18446744073709551616)) (k + 1) ((W.dg m k + W.dg (W.digL b 4) k + c) / 18446744073709551616)) := HN
      have HV5 : Hid (Vars w (wr.setCell ⟨g1, k, none⟩ (.int .u64 (((W.dg m k + W.dg (W.digL b 4) k + c) % 18446744073709551616 : Nat) : Int))) [⟨g3, 70, wA 0⟩, ⟨g2, 70, wA b⟩, ⟨g1, 70, arr .u64 (m.set k ((W.dg m k + W.dg (W.digL b 4) k + c) % 18446744073709551616))⟩]) := V5
      have hd1 : (W.dg m k + W.dg (W.digL b 4) k + c) / 18446744073709551616 ≤ 1 := HN.cl
      rw [show m[k]?.getD 0 = W.dg m k from rfl] at hc
      have ad := fun w => add64_any (W.dg m k) (W.dg (W.digL b 4) k) c hc1 w
      clear V4 V5 HN
      generalize (W.dg m k + W.dg (W.digL b 4) k + c) / 18446744073709551616 = c5 at *
      generalize (W.dg m k + W.dg (W.digL b 4) k + c) % 18446744073709551616 = x5 at *
      generalize W.dg (W.digL b 4) k = y at *
      generalize W.dg m k = x at *
      go_wp2_with (first
        | (refine wpList_indexV rfl 70 _ _ rfl (wA b) _ k rfl rfl Tryd.underlying70 Tryd.underlying68 Tryd.sz64 hlt HX.out ?_)
        | rw [ad _])
      go_roundw
      case rel => exact ⟨k + 1, c5, m.set k x5, by omega, hd1, by go_num, rfl, HI5, HV5⟩
      case measure => simp [intOf]; omega
    · obtain rfl : k = 4 := by omega
      have hab : a < 2 ^ 256 ∧ b < 2 ^ 256 := by have := HS.out; omega
      have HE : Hid (arr .u64 m = wA (a + b)) := by
        show _ = _
        have := HI.out.done (W.digL_length _ _) (by rw [wV hab.1, wV hab.2, w256]; exact HS.out)
        rw [wV hab.1, wV hab.2] at this
        rw [wA_def, this]
      have V4 := HV.out
      rw [HE.out] at V4
      clear hab
      go_wp2_with (first
        | (refine wpList_loadV V4 2 rfl 25 _ rfl rfl rfl rfl Tryd.underlying70 Tryd.szW (wA_size _) ?_)
        | (refine wpList_storeV V4 0 rfl _ _ rfl rfl rfl (wA (a + b)) rfl rfl Tryd.szW (wA_size _) (wA_size _) (wA_one _) ?_; intro w5 V5))
      exact bodyPost_ret (resV1 rfl _ V5 0 rfl rfl Tryd.underlying70 Tryd.szW (wA_size _)) rfl ⟨rfl, V5.bel⟩
set_option maxHeartbeats 1600000 in
theorem minus_any (a b : Nat) (ha : a < 2 ^ 256) (hb : b < 2 ^ 256) (w : World) : Calls Tryd.prog 55 #[.agg (wA a), .agg (wA b)] w fun e w' => e = .returned (.tuple #[.agg (wA ((a + 2 ^ 256 - b) % 2 ^ 256)), .bool (decide (a < b))]) ∧ Below w.heap.size w w' := by
  have HS : Hid (a < 2 ^ 256 ∧ b < 2 ^ 256) := ⟨ha, hb⟩
  clear ha hb
  obtain ⟨z, hz⟩ : ∃ z, (a + 2 ^ 256 - b) % 2 ^ 256 = z := ⟨_, rfl⟩
  rw [hz]
  have HZ : Hid ((a + 2 ^ 256 - b) % 2 ^ 256 = z) := hz
  clear hz
  have V0 := Vars.start w
  go_enter Tryd.func55, Tryd.ntmps55
  go_wp2_with (first
    | (refine wpList_boxV V0 2 70 _ rfl rfl rfl (wA a) rfl ?_; intro w1 g1 V1)
    | (refine wpList_boxV V1 3 70 _ rfl rfl rfl (wA b) rfl ?_; intro w2 g2 V2)
    | (refine wpList_allocV V2 4 70 rfl rfl rfl (wA 0) zeroW ?_; intro w3 g3 V3)
    | (refine wpList_loadV V3 1 rfl 9 _ rfl rfl rfl rfl Tryd.underlying70 Tryd.szW (wA_size _) ?_))
  clear V0 V1 V2
  go_loopw [6, 10] (fun cv y wr => ∃ (k c : Nat) (m : List Nat), k ≤ 4 ∧ c ≤ 1 ∧ y = .int .i64 (k : Int) ∧ cv = .int .u64 (c : Int) ∧ Hid (W.MinusI (W.digL a 4) (W.digL b 4) m k c) ∧ Hid (Vars w wr [⟨g3, 70, wA 0⟩, ⟨g2, 70, wA b⟩, ⟨g1, 70, arr .u64 m⟩])) (fun _ y _ => 4 - (intOf y).toNat)
  case atStart => exact ⟨0, 0, W.digL a 4, by omega, by omega, rfl, rfl, W.MinusI.start _ (W.digL_length _ _) (wD a), by rw [← wA_def]; exact V3⟩
  case round =>
    clear V3
    obtain ⟨k, c, m, hk, hc1, rfl, rfl, HI, HV⟩ := hrel
    by_cases hlt : k < 4
    · have HX : Hid ((wA b)[k]? = some (.int .u64 ((W.dg (W.digL b 4) k : Nat) : Int))) := wA_at b k hlt
      have V4 := HV.out
      have hc := arr_cell (V4.at 2 rfl) k (by rw [HI.out.len]; exact hlt)
      have hfz := arr_unfrozen (V4.at 2 rfl) k
      rw [show m[k]?.getD 0 = W.dg m k from rfl] at hc
      have hx9 := HI.out.dig.at k
      have hy9 := (wD b).at k
      have ad := fun w => sub64_any (W.dg m k) (W.dg (W.digL b 4) k) c hc1 w
      have hd1 : (if W.dg m k < W.dg (W.digL b 4) k + c then 1 else 0 : Nat) ≤ 1 := by split <;> omega
      have hx5 : (W.dg m k + 18446744073709551616 - W.dg (W.digL b 4) k - c) % 18446744073709551616 < 18446744073709551616 := Nat.mod_lt _ (by decide)
      have e5 : (W.dg m k + 18446744073709551616 - W.dg (W.digL b 4) k - c) % 18446744073709551616 + W.dg (W.digL b 4) k + c = W.dg m k + 18446744073709551616 * (if W.dg m k < W.dg (W.digL b 4) k + c then 1 else 0 : Nat) := by split <;> omega
      generalize (if W.dg m k < W.dg (W.digL b 4) k + c then 1 else 0 : Nat) = c5 at *
      generalize (W.dg m k + 18446744073709551616 - W.dg (W.digL b 4) k - c) % 18446744073709551616 = x5 at *
      have HI5 : Hid (W.MinusI (W.digL a 4) (W.digL b 4) (m.set k x5) (k + 1) c5) := HI.out.next hlt hx5 hd1 e5
      have V5 := V4.setc 2 rfl k x5
      have HV5 : Hid (Vars w (wr.setCell ⟨g1, k, none⟩ (.int .u64 ((x5 : Nat) : Int))) [⟨g3, 70, wA 0⟩, ⟨g2, 70, wA b⟩, ⟨g1, 70, arr .u64 (m.set k x5)⟩]) := V5
      clear V4 V5 e5
      generalize W.dg (W.digL b 4) k = y at *
      generalize W.dg m k = x at *
      go_wp2_with (first
        | (refine wpList_indexV rfl 70 _ _ rfl (wA b) _ k rfl rfl Tryd.underlying70 Tryd.underlying68 Tryd.sz64 hlt HX.out ?_)
        | rw [ad _])
      go_roundw
      case rel => exact ⟨k + 1, c5, m.set k x5, by omega, hd1, by go_num, rfl, HI5, HV5⟩
      case measure => simp [intOf]; omega
    · obtain rfl : k = 4 := by omega
      have hd := HI.out.done (by rw [wV HS.out.1, w256]; exact HS.out.1) (W.digL_length _ _) (by rw [wV HS.out.2, w256]; exact HS.out.2)
      rw [wV HS.out.1, wV HS.out.2, w256, HZ.out] at hd
      have HE : Hid (arr .u64 m = wA z) := by show _ = _; rw [wA_def, ← hd.2]
      have HC : Hid ((c == 1) = decide (a < b)) := hd.1
      have hcc : ((c : Int) == 1) = (c == 1) := by rw [Bool.eq_iff_iff]; simp; omega
      have V4 := HV.out
      rw [HE.out] at V4
      clear hd
      generalize (c == 1) = bc at *
      go_wp2_with (first
        | (refine wpList_loadV V4 2 rfl 26 _ rfl rfl rfl rfl Tryd.underlying70 Tryd.szW (wA_size _) ?_)
        | (refine wpList_storeV V4 0 rfl _ _ rfl rfl rfl (wA z) rfl rfl Tryd.szW (wA_size _) (wA_size _) (wA_one _) ?_; intro w5 V5))
      exact bodyPost_ret (resV2 rfl _ V5 0 rfl rfl Tryd.underlying70 Tryd.szW (wA_size _)) rfl ⟨by rw [← HC.out]; rfl, V5.bel⟩
end Go.Proofs.YtgofapndgjfnhaaDoor.N
