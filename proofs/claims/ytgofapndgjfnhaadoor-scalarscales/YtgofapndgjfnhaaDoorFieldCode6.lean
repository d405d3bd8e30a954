/-
  The code of layer 16 (field): a power by a function that is handed in; Is.
-/
import Derived.Test.YtgofapndgjfnhaaDoorFieldCode5
namespace Go.Proofs.YtgofapndgjfnhaaDoor.N
open Go.RowKit
set_option linter.unusedVariables false
set_option maxRecDepth 8192

theorem pow_half (n k : Nat) : n / 2 ^ k = 2 * (n / 2 ^ (k + 1)) + n / 2 ^ k % 2 := by
  have e : n / 2 ^ (k + 1) = n / 2 ^ k / 2 := by rw [Nat.pow_succ, Nat.div_div_eq_div_mul]
  rw [e]; omega
theorem pow_one_step {x e e' o : Nat} (ho : o = x ^ e % fP) (he : e' = 2 * e + 1) : (o * o % fP) * x % fP = x ^ e' % fP := by
  rw [he, ho, Nat.pow_succ, Nat.two_mul, Nat.pow_add, ← Nat.mul_mod, Nat.mul_mod (x ^ e * x ^ e) x, Nat.mul_mod, Nat.mod_mod]
theorem pow_zero_step {x e e' o : Nat} (ho : o = x ^ e % fP) (he : e' = 2 * e) : o * o % fP = x ^ e' % fP := by
  rw [he, ho, Nat.two_mul, Nat.pow_add, ← Nat.mul_mod]
theorem wA_num1 : Tryd.prog.built 70 [(0, .int .u64 1)] = some (wA 1) := wA_one1 1 (by decide)
theorem times_any (x : Nat) (w : World) : Calls Tryd.prog 70 #[.agg (wA x)] w fun e w' => ∃ g, e = .returned (.func (.func 79) #[] #[.pointer (some ⟨g, 0, none⟩)]) ∧ w.heap.size ≤ g ∧ w'.heap[g]? = some (.cells (wA x) 70 (0, 0)) ∧ Below w.heap.size w w' := by
  have V0 := Vars.start w
  go_enter Tryd.func70, Tryd.ntmps70
  go_wp2_with (refine wpList_boxV V0 1 70 _ rfl rfl rfl (wA x) rfl ?_; intro w1 g1 V1)
  go_ret
  exact ⟨g1, rfl, V1.low ⟨g1, 70, wA x⟩ (by simp), V1.at 0 rfl, V1.bel⟩
set_option maxHeartbeats 800000 in
theorem take_any (o x r : Nat) (b : Bool) (g : Nat) (w : World) (ho : o < fP) (hx : x < 2 ^ 256) (hg : w.heap[g]? = some (.cells (wA x) 70 (0, 0))) (hr : r = if b then (o * o % fP) * x % fP else o * o % fP) :
    Calls Tryd.prog 79 #[.agg (wA o), .bool b, .pointer (some ⟨g, 0, none⟩)] w fun e w' => e = .returned (.agg (wA r)) ∧ Below w.heap.size w w' := by
  have HG : Hid (w.heap[g]? = some (.cells (wA x) 70 (0, 0))) := hg
  have hgl := lt_of_heap hg
  have P1 : Hid (∀ w, Calls Tryd.prog 72 #[.agg (wA o), .agg (wA o)] w fun e w' => e = .returned (.agg (wA (o * o % fP))) ∧ Below w.heap.size w w') := fun w => product_any o o w (Nat.lt_trans ho fP_lt256) (Nat.lt_trans ho fP_lt256)
  have P2 : Hid (∀ w, Calls Tryd.prog 72 #[.agg (wA (o * o % fP)), .agg (wA x)] w fun e w' => e = .returned (.agg (wA ((o * o % fP) * x % fP))) ∧ Below w.heap.size w w') := fun w => product_any _ x w (mod_lt256 _) hx
  clear hg
  generalize (o * o % fP) * x % fP = z at *
  generalize o * o % fP = y at *
  clear ho hx
  cases b
  · obtain rfl : r = y := hr
    have V0 := Vars.start w
    go_enter Tryd.func79, Tryd.ntmps79
    go_wp2_with (first
      | (refine wpList_boxV V0 3 70 _ rfl rfl rfl (wA o) rfl ?_; intro w1 g2 V3)
      | (refine wpList_allocV V3 5 70 rfl rfl rfl (wA 0) zeroW ?_; intro w4 g5 V6)
      | (refine wpList_loadV V6 1 rfl 6 _ rfl rfl rfl rfl Tryd.underlying70 Tryd.szW (wA_size _) ?_)
      | (refine wpList_loadV V6 1 rfl 7 _ rfl rfl rfl rfl Tryd.underlying70 Tryd.szW (wA_size _) ?_))
    refine (P1.out w4).mono ?_
    rintro e w7 ⟨rfl, q9⟩
    have V8 := V6.call q9
    clear q9 V6
    go_wp2_with (first
      | (refine wpList_storeV V8 1 rfl _ (.tmp 8) rfl rfl rfl (wA r) rfl rfl Tryd.szW (wA_size _) (wA_size _) (wA_one _) ?_; intro w10 V11)
      | (refine wpList_loadV V11 1 rfl 13 _ rfl rfl rfl rfl Tryd.underlying70 Tryd.szW (wA_size _) ?_)
      | (refine wpList_storeV V11 0 rfl _ (.tmp 13) rfl rfl rfl (wA r) rfl rfl Tryd.szW (wA_size _) (wA_size _) (wA_one _) ?_; intro w12 V13))
    exact bodyPost_ret (resV1 rfl _ V13 0 rfl rfl Tryd.underlying70 Tryd.szW (wA_size _)) rfl ⟨rfl, V13.bel⟩
  · obtain rfl : r = z := hr
    have V0 := Vars.start w
    go_enter Tryd.func79, Tryd.ntmps79
    go_wp2_with (first
      | (refine wpList_boxV V0 3 70 _ rfl rfl rfl (wA o) rfl ?_; intro w1 g2 V3)
      | (refine wpList_allocV V3 5 70 rfl rfl rfl (wA 0) zeroW ?_; intro w4 g5 V6)
      | (refine wpList_loadV V6 1 rfl 6 _ rfl rfl rfl rfl Tryd.underlying70 Tryd.szW (wA_size _) ?_)
      | (refine wpList_loadV V6 1 rfl 7 _ rfl rfl rfl rfl Tryd.underlying70 Tryd.szW (wA_size _) ?_))
    refine (P1.out w4).mono ?_
    rintro e w7 ⟨rfl, q9⟩
    have V8 := V6.call q9
    clear q9 V6
    go_wp2_with (first
      | (refine wpList_storeV V8 1 rfl _ (.tmp 8) rfl rfl rfl (wA y) rfl rfl Tryd.szW (wA_size _) (wA_size _) (wA_one _) ?_; intro w10 V11; have hgw := (V11.bel.block g hgl).trans HG.out)
      | (refine wpList_loadV V11 1 rfl 10 _ rfl rfl rfl rfl Tryd.underlying70 Tryd.szW (wA_size _) ?_)
      | (refine wpList_exec rfl (exec_loadB _ rfl g rfl hgw Tryd.underlying70 Tryd.szW (wA_size _)) ?_))
    refine (P2.out w10).mono ?_
    rintro e w12 ⟨rfl, q14⟩
    have V13 := V11.call q14
    clear q14 V11
    go_wp2_with (first
      | (refine wpList_storeV V13 1 rfl _ (.tmp 12) rfl rfl rfl (wA r) rfl rfl Tryd.szW (wA_size _) (wA_size _) (wA_one _) ?_; intro w15 V16)
      | (refine wpList_loadV V16 1 rfl 13 _ rfl rfl rfl rfl Tryd.underlying70 Tryd.szW (wA_size _) ?_)
      | (refine wpList_storeV V16 0 rfl _ (.tmp 13) rfl rfl rfl (wA r) rfl rfl Tryd.szW (wA_size _) (wA_size _) (wA_one _) ?_; intro w17 V18))
    exact bodyPost_ret (resV1 rfl _ V18 0 rfl rfl Tryd.underlying70 Tryd.szW (wA_size _)) rfl ⟨rfl, V18.bel⟩
set_option maxHeartbeats 1600000 in
theorem power_any (n x g : Nat) (w : World) (hn : n < 2 ^ 256) (hx : x < 2 ^ 256) (hg : w.heap[g]? = some (.cells (wA x) 70 (0, 0))) :
    Calls Tryd.prog 68 #[.agg (wA n), .func (.func 79) #[] #[.pointer (some ⟨g, 0, none⟩)]] w fun e w' => e = .returned (.agg (wA (x ^ n % fP))) ∧ Below w.heap.size w w' := by
  have HG : Hid (w.heap[g]? = some (.cells (wA x) 70 (0, 0))) := hg
  have hgl := lt_of_heap hg
  have HX : Hid (x < 2 ^ 256) := hx
  have HN : Hid (n < 2 ^ 256) := hn
  clear hg hx hn
  have V0 := Vars.start w
  go_enter Tryd.func68, Tryd.ntmps68
  go_wp2_with (first
    | (refine wpList_boxV V0 2 70 _ rfl rfl rfl (wA n) rfl ?_; intro w1 g2 V3)
    | (refine wpList_allocV V3 4 70 rfl rfl rfl (wA 0) zeroW ?_; intro w4 g5 V6)
    | (refine wpList_buildV 7 70 _ rfl rfl rfl (wA 1) wA_num1 ?_)
    | (refine wpList_allocV V6 5 70 rfl rfl rfl (wA 0) zeroW ?_; intro w7 g8 V9)
    | (refine wpList_storeV V9 0 rfl _ (.tmp 7) rfl rfl rfl (wA 1) rfl rfl Tryd.szW (wA_size _) (wA_size _) (wA_one _) ?_; intro w10 V11))
  go_loopw [6] (fun y wr => ∃ (k o : Nat), k ≤ 256 ∧ y = .int .i64 ((k : Int) - 1) ∧ Hid (o = x ^ (n / 2 ^ k) % fP) ∧ Hid (Vars w wr [⟨g8, 70, wA o⟩, ⟨g5, 70, wA 0⟩, ⟨g2, 70, wA n⟩])) (fun y _ => ((intOf y) + 1).toNat)
  case atStart => exact ⟨256, 1, by omega, rfl, by show 1 = _; rw [Nat.div_eq_of_lt HN.out, Nat.pow_zero]; decide, V11⟩
  case round =>
    clear V11
    obtain ⟨k, o, hk, rfl, HO, HV⟩ := hrel
    by_cases h0 : k = 0
    · subst h0
      have HE : Hid (o = x ^ n % fP) := by show _ = _; rw [HO.out, Nat.pow_zero, Nat.div_one]
      have V5 := HV.out
      rw [HE.out] at V5
      go_wp2_with (first
          | (refine wpList_loadV V5 0 rfl 24 _ rfl rfl rfl rfl Tryd.underlying70 Tryd.szW (wA_size _) ?_)
          | (refine wpList_storeV V5 1 rfl _ _ rfl rfl rfl _ rfl rfl Tryd.szW (wA_size _) (wA_size _) (wA_one _) ?_; intro w8 V8))
      exact bodyPost_ret (resV1 rfl _ V8 1 rfl rfl Tryd.underlying70 Tryd.szW (wA_size _)) rfl ⟨rfl, V8.bel⟩
    · obtain ⟨i, rfl⟩ : ∃ i, k = i + 1 := ⟨k - 1, by omega⟩
      have ei : (((i + 1 : Nat) : Int) - 1) = (i : Int) := by omega
      rw [ei]
      have hi4 : i / 64 < 4 := by omega
      have HC : Hid (∀ w' : World, w'.heap[g2]? = some (.cells (wA n) 70 (0, 0)) → w'.cell? ⟨g2, i / 64, none⟩ = some (.int .u64 ((n / 18446744073709551616 ^ (i / 64) % 18446744073709551616 : Nat) : Int))) := by
        intro w' hw'
        rw [cell_of_row w' _ _ _ _ _ hw', wA_get n _ hi4]
      have hbit := W.power_bit n i
      have hhalf := pow_half n i
      have ho9 : o < fP := by rw [HO.out]; exact mod_fP _
      obtain ⟨b, hb⟩ : ∃ b : Bool, (n / 2 ^ i % 2 == 1) = b := ⟨_, rfl⟩
      obtain ⟨r, hr⟩ : ∃ r, r = if b then (o * o % fP) * x % fP else o * o % fP := ⟨_, rfl⟩
      have HR : Hid (r = x ^ (n / 2 ^ i) % fP) := by
        show _ = _
        rw [hr]
        cases b
        · exact pow_zero_step HO.out (by have : n / 2 ^ i % 2 ≠ 1 := by simpa using hb
                                         omega)
        · exact pow_one_step HO.out (by have : n / 2 ^ i % 2 = 1 := by simpa using hb
                                        omega)
      have HT : Hid (∀ w', Below w.heap.size w w' → Calls Tryd.prog 79 #[.agg (wA o), .bool b, .pointer (some ⟨g, 0, none⟩)] w' fun e w'' => e = .returned (.agg (wA r)) ∧ Below w'.heap.size w' w'') :=
        fun w' q => take_any o x r b g w' ho9 HX.out ((q.block g hgl).trans HG.out) hr
      have hwd : n / 18446744073709551616 ^ (i / 64) % 18446744073709551616 < 18446744073709551616 := Nat.mod_lt _ (by decide)
      rw [← hbit] at hb
      clear hhalf hbit hr ho9
      generalize n / 18446744073709551616 ^ (i / 64) % 18446744073709551616 = wd at *
      have hr64 : i % 64 < 64 := Nat.mod_lt _ (by decide)
      have et : (i : Int).tdiv 64 = ((i / 64 : Nat) : Int) := by rw [Int.tdiv_eq_ediv_of_nonneg (by omega)]; omega
      have em : (i : Int).tmod 64 = ((i % 64 : Nat) : Int) := by rw [Int.tmod_eq_emod_of_nonneg (by omega)]; omega
      generalize i / 64 = q at *
      generalize i % 64 = rr at *
      have wq : IntKind.i64.wrap (q : Int) = (q : Int) := by rw [IntKind.wrap_i64]; omega
      have wr2 : IntKind.i64.wrap (rr : Int) = (rr : Int) := by rw [IntKind.wrap_i64]; omega
      have hq4 : (q : Int) < 4 := by omega
      have hq5 : ¬ (4 : Int) ≤ (q : Int) := by omega
      have es : (wd : Int) / 2 ^ rr = ((wd / 2 ^ rr : Nat) : Int) := by simp
      have hy9 : wd / 2 ^ rr ≤ wd := Nat.div_le_self _ _
      generalize wd / 2 ^ rr = sh at *
      have ea : bits .and .u64 (sh : Int) 1 = ((sh % 2 : Nat) : Int) := by
        have h := bits_and_u64_nat sh 1 (by omega) (by decide)
        rw [show sh &&& 1 = sh % 2 from Nat.and_two_pow_sub_one_eq_mod _ 1] at h
        exact h
      have eb : (((sh % 2 : Nat) : Int) == 1) = b := by rw [← hb, Bool.eq_iff_iff]; simp; omega
      generalize sh % 2 = lb at *
      have VV := HV.out
      clear hb HV
      go_wp2_with fail
      refine av_open (fun w' => Vars w w' [⟨g5, 70, wA 0⟩, ⟨g2, 70, wA n⟩]) (by kernel_rfl) ?_
      have V12 := VV.drew
      refine held_reads (rs := [0, 2, 3, 4, 5, 6, 7, 8, 9, 10]) (fuel := 3) (by kernel_rfl) (fun c d v a w h => by cases d <;> exact h) (by kernel_rfl) (V12.tail) (fun K hK => ?_)
      refine calm_move _ rfl (by rfl) rfl ?_
      go_simp
      refine calm_move _ rfl (by rfl) rfl ?_
      go_simp
      refine calm_do (.int .i64 (q : Int)) rfl (by rfl) (fun w' hw' => ?_) ?_
      · go_simp
      go_simp
      refine calm_do (.pointer (some ⟨g2, q, none⟩)) rfl (by rfl) (fun w' hw' => ?_) ?_
      · go_simp
      go_simp
      refine calm_do (.int .u64 (wd : Int)) rfl (by rfl) (fun w' hw' => ?_) ?_
      · have hcc := HC.out w' (hw'.at 1 rfl)
        go_simp
      go_simp
      refine calm_move _ rfl (by rfl) rfl ?_
      go_simp
      refine calm_do (.int .i64 (rr : Int)) rfl (by rfl) (fun w' hw' => ?_) ?_
      · go_simp
      go_simp
      refine calm_do (.int .u64 (sh : Int)) rfl (by rfl) (fun w' hw' => ?_) ?_
      · go_simp
      go_simp
      refine calm_do (.int .u64 (lb : Int)) rfl (by rfl) (fun w' hw' => ?_) ?_
      · go_simp
      go_simp
      refine calm_do (.bool b) rfl (by rfl) (fun w' hw' => ?_) ?_
      · go_simp
      go_simp
      refine calm_nil (hK.out _ ?_)
      clear hK K
      refine av_op (i := 1) (fuel := 2) (by kernel_rfl) rfl (by rfl) (fun K hK => ?_)
      refine wp_exec (exec_loadV V12 0 rfl _ rfl rfl Tryd.underlying70 Tryd.szW (wA_size _)) ?_
      refine hK _ _ (V12.tail) ?_
      clear hK K
      go_simp
      refine av_op (i := 11) (fuel := 1) (by kernel_rfl) rfl (by rfl) (fun K hK => ?_)
      go_simp
      refine (HT.out _ V12.bel).mono ?_
      rintro e w13 ⟨rfl, q15⟩
      have V14 := V12.call q15
      refine hK _ _ (V14.tail) ?_
      clear hK K q15
      refine av_op (i := 12) (fuel := 0) (by kernel_rfl) rfl (by rfl) (fun K hK => ?_)
      refine wp_storeV V14 0 rfl _ _ rfl rfl (wA r) rfl rfl Tryd.szW (wA_size _) (wA_size _) (wA_one _) (fun w16 V17 => ?_)
      refine hK _ _ (V17.tail) ?_
      clear hK K
      refine wpAnyH_done (by kernel_rfl) ?_ _
      go_wp2
      go_roundw
      case rel => exact ⟨i, r, by omega, by go_num, HR.out, V17⟩
      case measure => simp [intOf] <;> omega
set_option maxHeartbeats 800000 in
theorem is_any (a : Nat) (w : World) (ha : a < 2 ^ 256) : Calls Tryd.prog 36 #[.agg (bA a)] w fun e w' => e = .returned (.bool (decide (a < fP))) ∧ Below w.heap.size w w' := by
  have HR : Hid (∀ w, Calls Tryd.prog 56 #[.agg (bA a)] w fun e w' => e = .returned (.agg (wA a)) ∧ Below w.heap.size w w') := fun w => read_any a ha w
  have HM : Hid (∀ w, Calls Tryd.prog 55 #[.agg (wA a), .agg (wA fP)] w fun e w' => e = .returned (.tuple #[.agg (wA ((a + 2 ^ 256 - fP) % 2 ^ 256)), .bool (decide (a < fP))]) ∧ Below w.heap.size w w') := fun w => minus_any a fP ha fP_lt256 w
  generalize (a + 2 ^ 256 - fP) % 2 ^ 256 = z at *
  generalize decide (a < fP) = b at *
  clear ha
  have V0 := Vars.start w
  go_enter Tryd.func36, Tryd.ntmps36
  go_wp2_with (first
    | (refine wpList_boxV V0 1 23 _ rfl rfl rfl (bA a) rfl ?_; intro w1 g2 V3)
    | (refine wpList_loadV V3 0 rfl 6 _ rfl rfl rfl rfl Tryd.underlying23 Tryd.szB (bA_size _) ?_))
  refine (HR.out w1).mono ?_
  rintro e w4 ⟨rfl, q6⟩
  have V5 := V3.call q6
  clear q6 V3
  go_wp2_with fail
  refine (prime_any w4).mono ?_
  rintro e w7 ⟨rfl, q9⟩
  have V8 := V5.call q9
  clear q9 V5
  go_wp2_with fail
  refine (HM.out w7).mono ?_
  rintro e w10 ⟨rfl, q12⟩
  have V11 := V8.call q12
  clear q12 V8
  go_wp2_with (first
    | (refine wpList_allocV V11 3 70 rfl rfl rfl (wA 0) zeroW ?_; intro w13 g14 V15)
    | (refine wpList_storeV V15 0 rfl _ (.tmp 10) rfl rfl rfl (wA z) rfl rfl Tryd.szW (wA_size _) (wA_size _) (wA_one _) ?_; intro w16 V17))
  go_ret
  exact ⟨rfl, V17.bel⟩
end Go.Proofs.YtgofapndgjfnhaaDoor.N
