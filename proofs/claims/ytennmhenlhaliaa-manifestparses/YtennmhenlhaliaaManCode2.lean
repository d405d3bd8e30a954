/-
  The code of layer 20 (manifest), as it landed: lay.
-/
import Derived.Test.YtennmhenlhaliaaManCode
import Derived.Test.YtennmhenlhaliaaManOwn
namespace Go.Proofs.Ytennmhenlhaliaa.N
open Go.RowKit
set_option linter.unusedVariables false
set_option maxRecDepth 8192

theorem nums_take (z : List Int) (k : Nat) (h : k < z.length) : nums (z.take (k + 1)) = nums (z.take k) ++ four (z[k]?.getD 0) := by
  rw [take_snocB z k h]
  simp [nums]
theorem four_take (x : Int) (j : Nat) (hj : j < 4) : (four x).take (j + 1) = (four x).take j ++ [x / 256 ^ j % 256] := by
  rcases (show j = 0 ∨ j = 1 ∨ j = 2 ∨ j = 3 by omega) with rfl | rfl | rfl | rfl <;> simp [four]
set_option maxHeartbeats 1600000 in
theorem lay_any {B : Nat} {v : Value} {t m : Nat} {D : List Int} {w : World} {g n : Nat} {z : List Int} (hown : Gr B 5 w v t m D) (hB : B ≤ w.heap.size) (hg : w.heap[g]? = some (.cells (z.map (Value.int .i64)).toArray 3 (0, 0)))
    (hz : z.length = n) (hp : 0 < n) (hn : n ≤ 8) (hm : m ≤ 1000) (h0 : ∀ i, i < n → 0 ≤ z[i]?.getD 0 ∧ z[i]?.getD 0 ≤ 2147483647) :
    Calls Try.prog 17 #[v, .slice (some ⟨g, 0, none⟩) n n] w fun e w' => ∃ v', e = .returned v' ∧ w'.ownsRow B 5 1 v' (m + 4 * n) ((D ++ nums z).map (Value.int .u8)) ∧ Below B w w' ∧ Keeps 5 w w' := by
  obtain ⟨i0, hi0, hz0, hz1, hz2⟩ := info_parts Try.info5
  have HZ : Hid (z.length = n) := hz
  clear hz
  go_enter Try.func17, Try.ntmps17
  go_wp2
  go_loopw [0, 9] (fun b i wr => ∃ k : Nat, k ≤ n ∧ i = .int .i64 (k : Int) ∧ Gr B 5 wr b (t + k) (m + 4 * k) (D ++ nums (z.take k)) ∧ Below B w wr ∧ Keeps 5 w wr) (fun _ i _ => n - (RowKit.intOf i).toNat)
  case atStart => exact ⟨0, Nat.zero_le _, rfl, by simpa [nums] using hown, Below.refl _ _, Keeps.refl _ _⟩
  case round =>
    obtain ⟨k, hk, rfl, own, q, kp⟩ := hrel
    by_cases hlt : k < n
    · have hgk := kp g _ _ (by decide) hg
      have ck := man_c hgk k
      have hkl : k < z.length := by rw [HZ.out]; exact hlt
      have ez : (z.map (Value.int .i64)).toArray[k]? = some (.int .i64 (z[k]?.getD 0)) := by simp [List.getElem?_eq_getElem hkl]
      rw [ez] at ck
      have hx := h0 k hlt
      have HX : Hid (nums (z.take (k + 1)) = nums (z.take k) ++ four (z[k]?.getD 0)) := nums_take z k hkl
      clear ez hgk
      generalize z[k]?.getD 0 = x at *
      generalize nums (z.take k) = E at *
      have hlt' : (k : Int) < (n : Int) := by omega
      go_wp2
      clear ck
      go_loopw [0, 6, 13] (fun b y i ws => ∃ j : Nat, j ≤ 4 ∧ i = .int .i64 (j : Int) ∧ y = .int .i64 (x / 256 ^ j) ∧ Gr B 5 ws b (t + k + j) (m + 4 * k + j) (D ++ E ++ (four x).take j) ∧ Below B w ws ∧ Keeps 5 w ws) (fun _ _ i _ => 4 - (RowKit.intOf i).toNat)
      case atStart => exact ⟨0, Nat.zero_le _, rfl, by simp, by simpa using own, q, kp⟩
      case round =>
        obtain ⟨j, hj, rfl, rfl, own, q, kp⟩ := hrel
        by_cases hl4 : j < 4
        · have HS : Hid ((four x).take (j + 1) = (four x).take j ++ [x / 256 ^ j % 256]) := four_take x j hl4
          have HD : Hid (x / 256 ^ j / 256 = x / 256 ^ (j + 1)) := div_step256 x j
          have hd0 : 0 ≤ x / 256 ^ j := Int.ediv_nonneg hx.1 (Int.pow_nonneg (by decide))
          have hd1 : x / 256 ^ j ≤ x := Int.ediv_le_self _ hx.1
          generalize x / 256 ^ j = y at *
          generalize (four x).take j = tk at *
          have hj4 : (j : Int) < 4 := by omega
          obtain ⟨F, hF⟩ : ∃ F, F = D ++ E ++ tk := ⟨_, rfl⟩
          have HF : Hid (D ++ E ++ (four x).take (j + 1) = F ++ [y % 256]) := by show _ = _; rw [HS.out, hF]; simp only [List.append_assoc]
          rw [← hF] at own
          clear hF HS
          have hsz : B ≤ wr.heap.size := Nat.le_trans hB q.size
          have rn := row_new .u8 wr 5 wr.heap.size rfl [y % 256] 1 rfl (by unfold maxLen; omega) #[.int .u8 (y % 256)] rfl
          go_wp2_with (at_builtin; refine wpList_append_gr _ rfl _ _ 25 rfl B 5 i0 (.int .u8 0) Try.underlying25 hi0 hz0 hz1 hz2 rfl rfl (own.alloc _) (some ⟨wr.heap.size, 0, none⟩) 1 1 [y % 256] rfl rn (by decide) (by omega) (by simp; omega) ?_)
          intro v' w1 own' q' kk'
          replace own' : w1.ownsRow B 5 1 v' (m + 4 * k + j + 1) ((F ++ [y % 256]).map (Value.int .u8)) := by rw [List.map_append]; exact own'
          rw [← HF.out] at own'
          have qq := (q.trans ((below_one wr _).mono hsz)).trans q'
          have kk := (kp.trans (Keeps.alloc wr _)).trans kk'
          clear q' kk' rn
          go_wp2
          go_roundw
          case rel => exact ⟨j + 1, by omega, by go_num, by rw [HD.out], .inl own', qq, kk⟩
          case measure => simp [RowKit.intOf]; omega
        · obtain rfl : j = 4 := by omega
          go_wp2_with fail
          go_roundw
          case rel => exact ⟨k + 1, by omega, by go_num, by rw [HX.out, ← List.append_assoc]; exact .inl (own.own (by omega)), q, kp⟩
          case measure => simp [RowKit.intOf]; omega
    · obtain rfl : k = n := by omega
      rw [List.take_of_length_le (by rw [HZ.out]; exact Nat.le_refl _)] at own
      go_wp2
      go_ret
      exact ⟨_, rfl, own.own (by omega), q, kp⟩
end Go.Proofs.Ytennmhenlhaliaa.N
