/-
  The code of layer 21 (keys), as it landed: mayBe, lay, mark, number.
-/
import Derived.Test.YtjcfooiibgidhaaKeyBase
import Derived.Test.YtjcfooiibgidhaaManCode3
import Derived.Deep.CutRange
namespace Go.Proofs.Ytjcfooiibgidhaa.N
open Go.RowKit
set_option linter.unusedVariables false
set_option maxRecDepth 8192

theorem mayK_long {l : List Ky} (h : 8 < l.length) : mayK l = false := by unfold mayK; rw [decide_eq_false (by omega), Bool.false_and]
set_option maxHeartbeats 1600000 in
theorem kMayBe_any {a : Option Addr} {n cap : Nat} {l : List Ky} {w : World} (hr : KRow w a n cap l) (ho : ∀ s ∈ l, s.Ok) : Calls Try.prog 19 #[.slice a n cap] w fun e w' => e = .returned (.bool (mayK l)) ∧ Below w.heap.size w w' := by
  have hm := hr.hmax
  have hc := hr.hcap
  unfold maxLen at hm
  by_cases h8 : n ≤ 8
  case neg =>
    have HF : Hid (mayK l = false) := mayK_long (by rw [hr.hlen]; omega)
    have h8' : (8 : Int) < (n : Int) := by omega
    go_enter Try.func19, Try.ntmps19
    go_wp2
    go_ret
    exact ⟨ret_bool HF.out.symm, Below.refl _ _⟩
  have h8' : ¬ (8 : Int) < (n : Int) := by omega
  have HM : Hid (mayK l = kOkTo l n) := by show _ = _; unfold mayK; rw [hr.hlen, decide_eq_true h8, Bool.true_and]
  go_enter Try.func19, Try.ntmps19
  go_wp2
  go_loopw [3, 11] (fun e i wr => ∃ k : Nat, k ≤ n ∧ i = .int .i64 (k : Int) ∧ e = .int .i64 (lastAt l k) ∧ Hid (kOkTo l k = true) ∧ Below w.heap.size w wr) (fun _ i _ => n - (RowKit.intOf i).toNat)
  case atStart => exact ⟨0, Nat.zero_le _, rfl, rfl, rfl, Below.refl _ _⟩
  case round =>
    obtain ⟨k, hk, rfl, rfl, HO, q⟩ := hrel
    have hr' := hr.below q (Nat.le_refl _)
    by_cases hlt : k < n
    · obtain ⟨b, off, rfl, hbs, hcell⟩ := hr'.hcell (by omega)
      have hx := hcell k hlt
      have hs := kyI_ok ho k
      have HS : Hid (kOkTo l (k + 1) = decide (lastAt l k < (kyI l k).num ∧ (kyI l k).num ≤ 2147483647)) := by
        show _ = _
        rw [kOkTo_succ, HO.out, Bool.true_and]
        rfl
      have HF : Hid (kOkTo l (k + 1) = false → kOkTo l n = false) := fun h => by
        rw [kOkTo_succ, HO.out, Bool.true_and] at h
        exact kOkTo_of_no h hlt
      have HE : Hid (lastAt l (k + 1) = (kyI l k).num) := rfl
      clear hcell hr'
      generalize kyI l k = s at *
      generalize lastAt l k = en at *
      have hlt' : (k : Int) < (n : Int) := by omega
      have V0 := Vars.start wr
      go_upto_region 7 with (first
        | (refine wpList_load_mid rfl 39 _ rfl b (off + k * 34) rfl (kC s) _ hx Try.underlying39 rfl (by rw [kC_len hs]; exact Try.szKy) ?_)
        | (refine wpList_allocV V0 5 39 rfl rfl rfl (kA ky0) zeroKy ?_; intro w1 g1 V1)
        | (refine wpList_storeV V1 0 rfl _ (.tmp 14) rfl rfl rfl (kA s) rfl rfl Try.szKy (kA_size ky0_ok) (kA_size hs) (kA_one s) ?_; intro w2 V2))
      have c0 : w2.cell? ⟨g1, 0, none⟩ = some (.int .i64 s.num) := man_c (V2.at 0 rfl) 0
      have q2 := btrans q V2.bel
      clear V0 V1 V2 q hx
      generalize s.num = x at *
      by_cases h1 : x ≤ en
      · have HN : Hid (mayK l = false) := by show _ = _; rw [HM.out]; exact HF.out (by rw [HS.out, decide_eq_false_iff_not]; omega)
        clear HS HF HE
        go_wp2_with fail
        go_ret
        exact ⟨ret_bool HN.out.symm, q2⟩
      by_cases h2 : 2147483647 < x
      · have HN : Hid (mayK l = false) := by show _ = _; rw [HM.out]; exact HF.out (by rw [HS.out, decide_eq_false_iff_not]; omega)
        clear HS HF HE
        go_wp2_with fail
        go_ret
        exact ⟨ret_bool HN.out.symm, q2⟩
      have HN : Hid (kOkTo l (k + 1) = true) := by show _ = _; rw [HS.out]; exact decide_eq_true (by omega)
      clear HS HF
      go_wp2_with fail
      go_roundw
      case rel => exact ⟨k + 1, by omega, by go_num, by rw [HE.out], HN, q2⟩
      case measure => simp [RowKit.intOf]; omega
    · obtain rfl : k = n := by omega
      go_wp2
      go_ret
      exact ⟨ret_bool (by rw [HM.out, HO.out]), q⟩
set_option maxHeartbeats 1600000 in
theorem kLay_any {B : Nat} {v : Value} {t m : Nat} {D : List Int} {w : World} {x : Int} (hown : Gr B 5 w v t m D) (hB : B ≤ w.heap.size) (hm : m ≤ 1000) (hx : 0 ≤ x ∧ x ≤ 2147483647) :
    Calls Try.prog 20 #[v, .int .i64 x] w fun e w' => ∃ v', e = .returned v' ∧ w'.ownsRow B 5 1 v' (m + 4) ((D ++ four x).map (Value.int .u8)) ∧ Below B w w' ∧ Keeps 5 w w' := by
  obtain ⟨i0, hi0, hz0, hz1, hz2⟩ := info_parts Try.info5
  have HT : Hid ((four x).take 4 = four x) := rfl
  go_enter Try.func20, Try.ntmps20
  go_wp2
  go_loopw [0, 1, 5] (fun b y i ws => ∃ j : Nat, j ≤ 4 ∧ i = .int .i64 (j : Int) ∧ y = .int .i64 (x / 256 ^ j) ∧ Gr B 5 ws b (t + j) (m + j) (D ++ (four x).take j) ∧ Below B w ws ∧ Keeps 5 w ws) (fun _ _ i _ => 4 - (RowKit.intOf i).toNat)
  case atStart => exact ⟨0, Nat.zero_le _, rfl, by simp, by simpa using hown, Below.refl _ _, Keeps.refl _ _⟩
  case round =>
    obtain ⟨j, hj, rfl, rfl, own, q, kp⟩ := hrel
    by_cases hl4 : j < 4
    · have HS : Hid ((four x).take (j + 1) = (four x).take j ++ [x / 256 ^ j % 256]) := four_take x j hl4
      have HD : Hid (x / 256 ^ j / 256 = x / 256 ^ (j + 1)) := div_step256 x j
      have hd0 : 0 ≤ x / 256 ^ j := Int.ediv_nonneg hx.1 (Int.pow_nonneg (by decide))
      have hd1 : x / 256 ^ j ≤ x := Int.ediv_le_self _ hx.1
      generalize x / 256 ^ j = y at *
      generalize (four x).take j = tk at *
      have hj4 : (j : Int) < 4 := by omega
      obtain ⟨F, hF⟩ : ∃ F, F = D ++ tk := ⟨_, rfl⟩
      have HF : Hid (D ++ (four x).take (j + 1) = F ++ [y % 256]) := by show _ = _; rw [HS.out, hF]; simp only [List.append_assoc]
      rw [← hF] at own
      clear hF HS
      have hsz : B ≤ wr.heap.size := Nat.le_trans hB q.size
      have rn := row_new .u8 wr 5 wr.heap.size rfl [y % 256] 1 rfl (by unfold maxLen; omega) #[.int .u8 (y % 256)] rfl
      go_wp2_with (at_builtin; refine wpList_append_gr _ rfl _ _ 24 rfl B 5 i0 (.int .u8 0) Try.underlying24 hi0 hz0 hz1 hz2 rfl rfl (own.alloc _) (some ⟨wr.heap.size, 0, none⟩) 1 1 [y % 256] rfl rn (by decide) (by omega) (by simp; omega) ?_)
      intro v' w1 own' q' kk'
      replace own' : w1.ownsRow B 5 1 v' (m + j + 1) ((F ++ [y % 256]).map (Value.int .u8)) := by rw [List.map_append]; exact own'
      rw [← HF.out] at own'
      have qq := (q.trans ((below_one wr _).mono hsz)).trans q'
      have kk := (kp.trans (Keeps.alloc wr _)).trans kk'
      clear q' kk' rn
      go_wp2
      go_roundw
      case rel => exact ⟨j + 1, by omega, by go_num, by rw [HD.out], .inl own', qq, kk⟩
      case measure => simp [RowKit.intOf]; omega
    · obtain rfl : j = 4 := by omega
      rw [HT.out] at own
      go_wp2
      go_ret
      exact ⟨_, rfl, own.own (by omega), q, kp⟩
theorem kMark_any (b : Bool) (w : World) : Calls Try.prog 21 #[.bool b] w fun e w' => e = .returned (.int .u8 (kBit b)) ∧ w = w' := by
  cases b
  · go_enter Try.func21, Try.ntmps21
    go_wp2
    go_ret
    exact ⟨rfl, rfl⟩
  · go_enter Try.func21, Try.ntmps21
    go_wp2
    go_ret
    exact ⟨rfl, rfl⟩
set_option maxHeartbeats 800000 in
theorem kNumber_any {w : World} {a : Option Addr} {n c : Nat} {z : List Int} (h : Row .u8 w a n c z) (hz : IsB z) (hn : 4 ≤ n) :
    Calls Try.prog 30 #[.slice a n c] w fun e w' => e = .returned (.int .i64 (numAt z 0)) ∧ w = w' := by
  have hmx := h.hmax
  have hcp := h.hcap
  unfold maxLen at hmx
  have HN : Hid (numTo z 0 4 = numAt z 0) := by
    show _ = _
    rw [numTo_four]
  obtain ⟨b, off, rfl, hbs, hcell⟩ := h.hcell (by omega)
  clear h
  go_enter Try.func30, Try.ntmps30
  go_wp2
  go_loop [3, 5] (fun n y' => ∃ k : Nat, k ≤ 4 ∧ y' = .int .i64 (k : Int) ∧ n = .int .i64 (numTo z 0 k)) (fun _ y' => 4 - (RowKit.intOf y').toNat)
  case atStart => exact ⟨0, Nat.zero_le _, rfl, rfl⟩
  case round =>
    obtain ⟨k, hk, rfl, rfl⟩ := hrel
    by_cases hlt : k < 4
    · have hc1 := hcell k (by omega)
      have hx := hz.idx (0 + k)
      have hn' := numTo_bd hz 0 k
      have HS : Hid (numTo z 0 (k + 1) = numTo z 0 k + z[0 + k]?.getD 0 * 256 ^ k) := rfl
      have HO : Hid (bits .or .i64 (numTo z 0 k) (wrap64 (z[0 + k]?.getD 0 * 2 ^ (8 * k))) = numTo z 0 k + z[0 + k]?.getD 0 * 256 ^ k) := or_num _ _ k hlt hn'.1 hn'.2 hx.1 hx.2
      rw [Nat.zero_add] at hx HS HO
      clear hcell
      generalize numTo z 0 k = nn at *
      generalize z[k]?.getD 0 = x at *
      have hk4 : (k : Int) < 4 := by omega
      have hkn : (k : Int) < (n : Int) := by omega
      go_wp2
      go_round
      case rel => exact ⟨k + 1, by omega, by go_num, by rw [HO.out, HS.out]⟩
      case measure => simp [RowKit.intOf]; omega
    · have e : k = 4 := by omega
      subst e
      rw [HN.out]
      go_wp2
      go_ret
      exact ⟨rfl, rfl⟩
end Go.Proofs.Ytjcfooiibgidhaa.N
