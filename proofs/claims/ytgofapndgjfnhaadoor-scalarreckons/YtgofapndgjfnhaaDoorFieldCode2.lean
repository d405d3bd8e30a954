/-
  The code of layer 16 (field): under, prime, read, told.
-/
import Derived.Test.YtgofapndgjfnhaaDoorFieldCode
namespace Go.Proofs.YtgofapndgjfnhaaDoor.N
open Go.RowKit
set_option linter.unusedVariables false
set_option maxRecDepth 8192

set_option maxHeartbeats 1600000 in
theorem under_gen (n less n2 u v x0 x3 : Nat) (w : World) (hb : Tryd.prog.built 70 [(0, .int .u64 (x0 : Int)), (1, .int .u64 18446744073709551615), (2, .int .u64 18446744073709551615), (3, .int .u64 (x3 : Int))] = some (wA v)) (hn : n - 192 = n2) (hu : 2 ^ n2 = u) (h0 : 18446744073709551616 - less = x0) (hx3 : u - 1 = x3) (h1 : 192 ≤ n) (h2 : n < 256) (h3 : 0 < less) (h4 : less < 100) :
    Calls Tryd.prog 69 #[.int .i64 (n : Int), .int .u64 (less : Int)] w fun e w' => e = .returned (.agg (wA v)) ∧ Below w.heap.size w w' := by
  have V0 := Vars.start w
  have e1 : IntKind.u64.wrap (-(less : Int)) = (x0 : Int) := by rw [IntKind.wrap_u64]; omega
  have hp : u < 18446744073709551616 := by
    have : 2 ^ n2 < 2 ^ 64 := Nat.pow_lt_pow_right (by decide) (by omega)
    omega
  have hp0 : 0 < u := by rw [← hu]; exact Nat.two_pow_pos _
  have e2 : IntKind.u64.wrap (2 ^ n2) = (u : Int) := by rw [← hu, IntKind.wrap_u64]; have := hu; rw [show ((2 : Int) ^ n2) = ((2 ^ n2 : Nat) : Int) from by simp]; omega
  have e3 : IntKind.u64.wrap ((u : Int) - 1) = (x3 : Int) := by rw [IntKind.wrap_u64]; omega
  have HB : Hid (Tryd.prog.built 70 [(0, .int .u64 (x0 : Int)), (1, .int .u64 18446744073709551615), (2, .int .u64 18446744073709551615), (3, .int .u64 (x3 : Int))] = some (wA v)) := hb
  clear hb hu h0 hx3
  go_enter Tryd.func69, Tryd.ntmps69
  go_wp2_with (first
    | (refine wpList_allocV V0 4 70 rfl rfl rfl (wA 0) zeroW ?_; intro w1 g1 V1)
    | (refine wpList_buildV 11 70 _ rfl rfl rfl (wA v) HB.out ?_)
    | (refine wpList_storeV V1 0 rfl _ _ rfl rfl rfl (wA v) rfl rfl Tryd.szW (wA_size _) (wA_size _) (wA_one _) ?_; intro w2 V2))
  exact bodyPost_ret (resV1 rfl _ V2 0 rfl rfl Tryd.underlying70 Tryd.szW (wA_size _)) rfl ⟨rfl, V2.bel⟩
theorem wA_prime : arr .u64 [18446744073709551597, 18446744073709551615, 18446744073709551615, 9223372036854775807] = wA fP := by rw [wA_def]; congr 1
theorem wA_prime2 : arr .u64 [18446744073709551595, 18446744073709551615, 18446744073709551615, 9223372036854775807] = wA (fP - 2) := by rw [wA_def]; congr 1
theorem wA_prime5 : arr .u64 [18446744073709551613, 18446744073709551615, 18446744073709551615, 1152921504606846975] = wA ((fP - 5) / 8) := by rw [wA_def]; congr 1
theorem under_p (w : World) : Calls Tryd.prog 69 #[.int .i64 255, .int .u64 19] w fun e w' => e = .returned (.agg (wA fP)) ∧ Below w.heap.size w w' :=
  under_gen 255 19 63 9223372036854775808 fP 18446744073709551597 9223372036854775807 w (by rw [← wA_prime]; kernel_rfl) rfl (by decide) rfl rfl (by decide) (by decide) (by decide) (by decide)
theorem under_p2 (w : World) : Calls Tryd.prog 69 #[.int .i64 255, .int .u64 21] w fun e w' => e = .returned (.agg (wA (fP - 2))) ∧ Below w.heap.size w w' :=
  under_gen 255 21 63 9223372036854775808 (fP - 2) 18446744073709551595 9223372036854775807 w (by rw [← wA_prime2]; kernel_rfl) rfl (by decide) rfl rfl (by decide) (by decide) (by decide) (by decide)
theorem under_p5 (w : World) : Calls Tryd.prog 69 #[.int .i64 252, .int .u64 3] w fun e w' => e = .returned (.agg (wA ((fP - 5) / 8))) ∧ Below w.heap.size w w' :=
  under_gen 252 3 60 1152921504606846976 ((fP - 5) / 8) 18446744073709551613 1152921504606846975 w (by rw [← wA_prime5]; kernel_rfl) rfl (by decide) rfl rfl (by decide) (by decide) (by decide) (by decide)
theorem prime_any (w : World) : Calls Tryd.prog 57 #[] w fun e w' => e = .returned (.agg (wA fP)) ∧ Below w.heap.size w w' := by
  have V0 := Vars.start w
  go_enter Tryd.func57, Tryd.ntmps57
  go_wp2_with (refine wpList_allocV V0 0 70 rfl rfl rfl (wA 0) zeroW ?_; intro w1 g1 V1)
  refine (under_p w1).mono ?_
  rintro e w2 ⟨rfl, q2⟩
  have V2 := V1.call q2
  clear q2
  go_wp2_with (refine wpList_storeV V2 0 rfl _ _ rfl rfl rfl (wA fP) rfl rfl Tryd.szW (wA_size _) (wA_size _) (wA_one _) ?_; intro w3 V3)
  exact bodyPost_ret (resV1 rfl _ V3 0 rfl rfl Tryd.underlying70 Tryd.szW (wA_size _)) rfl ⟨rfl, V3.bel⟩
set_option maxHeartbeats 1600000 in
theorem read_any (a : Nat) (ha : a < 2 ^ 256) (w : World) : Calls Tryd.prog 56 #[.agg (bA a)] w fun e w' => e = .returned (.agg (wA a)) ∧ Below w.heap.size w w' := by
  have HA : Hid (a < 2 ^ 256) := ha
  clear ha
  have V0 := Vars.start w
  go_enter Tryd.func56, Tryd.ntmps56
  go_wp2_with (first
    | (refine wpList_boxV V0 1 23 _ rfl rfl rfl (bA a) rfl ?_; intro w1 g1 V1)
    | (refine wpList_allocV V1 2 70 rfl rfl rfl (wA 0) zeroW ?_; intro w2 g2 V2)
    | (refine wpList_allocV V2 3 70 rfl rfl rfl _ zeroW4 ?_; intro w3 g3 V3)
    | (refine wpList_loadV V3 2 rfl 6 _ rfl rfl rfl rfl Tryd.underlying23 Tryd.szB (bA_size _) ?_))
  clear V0 V1 V2
  go_loopw [7] (fun y wr => ∃ (k : Nat) (m : List Nat), k ≤ 32 ∧ y = .int .i64 (k : Int) ∧ Hid (m.length = 4 ∧ W.Dig m ∧ W.vL m = a % 256 ^ k) ∧ Hid (Vars w wr [⟨g3, 70, arr .u64 m⟩, ⟨g2, 70, wA 0⟩, ⟨g1, 23, bA a⟩])) (fun y _ => 32 - (intOf y).toNat)
  case atStart => exact ⟨0, List.replicate 4 0, by omega, rfl, ⟨rfl, W.Dig.zero, by rw [W.vL_zero, Nat.pow_zero, Nat.mod_one]⟩, V3⟩
  case round =>
    clear V3
    obtain ⟨k, m, hk, rfl, HM, HV⟩ := hrel
    by_cases hlt : k < 32
    · have HX : Hid ((bA a)[k]? = some (.int .u8 ((a / 256 ^ k % 256 : Nat) : Int))) := bA_get a k hlt
      have N := W.read_next HM.out.1 HM.out.2.1 HM.out.2.2 hlt rfl
      have hx9 : a / 256 ^ k % 256 < 256 := Nat.mod_lt _ (by decide)
      generalize a / 256 ^ k % 256 = x at *
      obtain ⟨n1, n2, n3, n4, n5⟩ := N
      have hq4 : k / 8 < 4 := by omega
      have V4 := HV.out
      have hc := arr_cell (V4.at 0 rfl) (k / 8) (by rw [HM.out.1]; exact hq4)
      have hfz := arr_unfrozen (V4.at 0 rfl) (k / 8)
      have V5 := V4.setc 0 rfl (k / 8) (W.dg m (k / 8) + x * 256 ^ (k % 8))
      have HM5 : Hid ((m.set (k / 8) (W.dg m (k / 8) + x * 256 ^ (k % 8))).length = 4 ∧ W.Dig (m.set (k / 8) (W.dg m (k / 8) + x * 256 ^ (k % 8))) ∧ W.vL (m.set (k / 8) (W.dg m (k / 8) + x * 256 ^ (k % 8))) = a % 256 ^ (k + 1)) :=
        ⟨by rw [List.length_set]; exact HM.out.1, HM.out.2.1.set _ n4, n5⟩
      have HV5 : Hid (Vars w (wr.setCell ⟨g3, k / 8, none⟩ (.int .u64 ((W.dg m (k / 8) + x * 256 ^ (k % 8) : Nat) : Int))) [⟨g3, 70, arr .u64 (m.set (k / 8) (W.dg m (k / 8) + x * 256 ^ (k % 8)))⟩, ⟨g2, 70, wA 0⟩, ⟨g1, 23, bA a⟩]) := V5
      rw [show m[k / 8]?.getD 0 = W.dg m (k / 8) from rfl] at hc
      have hold : W.dg m (k / 8) < 18446744073709551616 := HM.out.2.1.at _
      generalize m.set (k / 8) (W.dg m (k / 8) + x * 256 ^ (k % 8)) = m5 at *
      generalize W.dg m (k / 8) = old at *
      have et : (k : Int).tdiv 8 = ((k / 8 : Nat) : Int) := by rw [Int.tdiv_eq_ediv_of_nonneg (by omega)]; omega
      have em : (k : Int).tmod 8 = ((k % 8 : Nat) : Int) := by rw [Int.tmod_eq_emod_of_nonneg (by omega)]; omega
      have ep : (256 : Nat) ^ (k % 8) = 2 ^ (8 * (k % 8)) := by rw [Nat.pow_mul]
      have hr8 : k % 8 < 8 := Nat.mod_lt _ (by decide)
      rw [ep] at n2 n3 n4 HV5
      clear V4 V5 n1 n5 ep
      generalize k / 8 = q at *
      generalize k % 8 = r at *
      have es : (((r : Int) * 8)).toNat = 8 * r := by omega
      have ew : IntKind.u64.wrap ((x : Int) * 2 ^ (8 * r)) = ((x * 2 ^ (8 * r) : Nat) : Int) := by
        rw [IntKind.wrap_u64, show ((x : Int) * 2 ^ (8 * r)) = ((x * 2 ^ (8 * r) : Nat) : Int) from by simp]; omega
      generalize x * 2 ^ (8 * r) = y at *
      have eor : bits .or .u64 (old : Int) (y : Int) = ((old + y : Nat) : Int) := by rw [← n3]; exact u64_or_nat old y hold n2
      generalize old + y = z at *
      go_wp2_with (refine wpList_indexV rfl 23 _ _ rfl (bA a) _ k rfl rfl Tryd.underlying23 Tryd.underlying5 Tryd.sz8 hlt HX.out ?_)
      go_region
      go_wp2
      go_roundw
      case rel => exact ⟨k + 1, m5, by omega, by go_num, HM5, HV5.out.drew⟩
      case measure => simp [intOf]; omega
    · obtain rfl : k = 32 := by omega
      have HE : Hid (arr .u64 m = wA a) := by
        show _ = _
        rw [wA_def]
        congr 1
        refine HM.out.2.1.ext (W.digL_dig _ _) (by rw [HM.out.1, W.digL_length]) ?_
        rw [HM.out.2.2, W.vL_digL, w256, b256]
      have V4 := HV.out
      rw [HE.out] at V4
      go_wp2_with (first
        | (refine wpList_loadV V4 0 rfl 24 _ rfl rfl rfl rfl Tryd.underlying70 Tryd.szW (wA_size _) ?_)
        | (refine wpList_storeV V4 1 rfl _ _ rfl rfl rfl (wA a) rfl rfl Tryd.szW (wA_size _) (wA_size _) (wA_one _) ?_; intro w5 V5))
      exact bodyPost_ret (resV1 rfl _ V5 1 rfl rfl Tryd.underlying70 Tryd.szW (wA_size _)) rfl ⟨rfl, V5.bel⟩
/-- What is laid from the front on, noughts behind it. -/
def fillL (L : List Nat) (n k : Nat) : List Nat := L.take k ++ List.replicate (n - k) 0
theorem fillL_length {L : List Nat} {n k : Nat} (hL : L.length = n) (hk : k ≤ n) : (fillL L n k).length = n := by simp [fillL]; omega
theorem fillL_zero (L : List Nat) (n : Nat) : fillL L n 0 = List.replicate n 0 := by simp [fillL]
theorem fillL_full {L : List Nat} {n : Nat} (hL : L.length = n) : fillL L n n = L := by simp [fillL, List.take_of_length_le (show L.length ≤ n by omega)]
theorem fillL_next {L : List Nat} {n k : Nat} (hL : L.length = n) (hk : k < n) : (fillL L n k).set k (L[k]?.getD 0) = fillL L n (k + 1) := by
  unfold fillL
  have hl : (L.take k).length = k := by simp; omega
  rw [List.set_append_right _ _ (by omega), hl, Nat.sub_self, List.take_add_one, List.getElem?_eq_getElem (show k < L.length by omega), show n - k = (n - (k + 1)) + 1 from by omega, List.replicate_succ, List.set_cons_zero, List.append_assoc]
  rfl
set_option maxHeartbeats 1600000 in
theorem told_any (a : Nat) (w : World) : Calls Tryd.prog 67 #[.agg (wA a)] w fun e w' => e = .returned (.agg (bA a)) ∧ Below w.heap.size w w' := by
  have V0 := Vars.start w
  go_enter Tryd.func67, Tryd.ntmps67
  go_wp2_with (first
    | (refine wpList_boxV V0 1 70 _ rfl rfl rfl (wA a) rfl ?_; intro w1 g1 V1)
    | (refine wpList_allocV V1 2 23 rfl rfl rfl (bA 0) zeroB ?_; intro w2 g2 V2)
    | (refine wpList_allocV V2 3 23 rfl rfl rfl _ zeroB32 ?_; intro w3 g3 V3))
  clear V0 V1 V2
  have HL : Hid ((digL a 32).length = 32) := digL_length a 32
  go_loopw [5] (fun y wr => ∃ k : Nat, k ≤ 32 ∧ y = .int .i64 (k : Int) ∧ Hid (Vars w wr [⟨g3, 23, arr .u8 (fillL (digL a 32) 32 k)⟩, ⟨g2, 23, bA 0⟩, ⟨g1, 70, wA a⟩])) (fun y _ => 32 - (intOf y).toNat)
  case atStart => exact ⟨0, by omega, rfl, by rw [fillL_zero]; exact V3⟩
  case round =>
    clear V3
    obtain ⟨k, hk, rfl, HV⟩ := hrel
    by_cases hlt : k < 32
    · have hq4 : k / 8 < 4 := by omega
      have V4 := HV.out
      have hc : wr.cell? ⟨g1, k / 8, none⟩ = some (.int .u64 ((a / 18446744073709551616 ^ (k / 8) % 18446744073709551616 : Nat) : Int)) := by rw [cell_of_row wr g1 _ _ _ _ (V4.at 2 rfl), wA_get a _ hq4]
      have hc2 := arr_cell (V4.at 0 rfl) k (by rw [fillL_length HL.out hk]; exact hlt)
      have hfz := arr_unfrozen (V4.at 0 rfl) k
      have V5 := V4.setc 0 rfl k ((digL a 32)[k]?.getD 0)
      rw [fillL_next HL.out hlt] at V5
      have e9 : (digL a 32)[k]?.getD 0 = a / 18446744073709551616 ^ (k / 8) % 18446744073709551616 / 256 ^ (k % 8) % 256 := by
        rw [W.told_byte]; exact dg_digL hlt
      rw [e9] at V5
      have HV5 : Hid (Vars w (wr.setCell ⟨g3, k, none⟩ (.int .u8 ((a / 18446744073709551616 ^ (k / 8) % 18446744073709551616 / 256 ^ (k % 8) % 256 : Nat) : Int))) [⟨g3, 23, arr .u8 (fillL (digL a 32) 32 (k + 1))⟩, ⟨g2, 23, bA 0⟩, ⟨g1, 70, wA a⟩]) := V5
      have et : (k : Int).tdiv 8 = ((k / 8 : Nat) : Int) := by rw [Int.tdiv_eq_ediv_of_nonneg (by omega)]; omega
      have em : (k : Int).tmod 8 = ((k % 8 : Nat) : Int) := by rw [Int.tmod_eq_emod_of_nonneg (by omega)]; omega
      have ep : (256 : Nat) ^ (k % 8) = 2 ^ (8 * (k % 8)) := by rw [Nat.pow_mul]
      have hr8 : k % 8 < 8 := Nat.mod_lt _ (by decide)
      rw [ep] at HV5
      clear V4 V5 ep e9
      generalize k / 8 = q at *
      generalize k % 8 = r at *
      have hx9 : a / 18446744073709551616 ^ q % 18446744073709551616 < 18446744073709551616 := Nat.mod_lt _ (by decide)
      generalize a / 18446744073709551616 ^ q % 18446744073709551616 = x at *
      generalize (fillL (digL a 32) 32 k)[k]?.getD 0 = old at *
      have es : (((r : Int) * 8)).toNat = 8 * r := by omega
      have ew : (x : Int) / 2 ^ (8 * r) = ((x / 2 ^ (8 * r) : Nat) : Int) := by simp
      have hy9 : x / 2 ^ (8 * r) ≤ x := Nat.div_le_self _ _
      generalize x / 2 ^ (8 * r) = y at *
      have ew2 : ((y : Int) % 256) = ((y % 256 : Nat) : Int) := by omega
      generalize y % 256 = z at *
      go_wp2
      go_roundw
      case rel => exact ⟨k + 1, by omega, by go_num, HV5⟩
      case measure => simp [intOf]; omega
    · obtain rfl : k = 32 := by omega
      have V4 := HV.out
      rw [fillL_full HL.out, ← bA_def] at V4
      go_wp2_with (first
        | (refine wpList_loadV V4 0 rfl 20 _ rfl rfl rfl rfl Tryd.underlying23 Tryd.szB (bA_size _) ?_)
        | (refine wpList_storeV V4 1 rfl _ _ rfl rfl rfl (bA a) rfl rfl Tryd.szB (bA_size _) (bA_size _) (bA_one _) ?_; intro w5 V5))
      exact bodyPost_ret (resV1 rfl _ V5 1 rfl rfl Tryd.underlying23 Tryd.szB (bA_size _)) rfl ⟨rfl, V5.bel⟩
end Go.Proofs.YtgofapndgjfnhaaDoor.N
