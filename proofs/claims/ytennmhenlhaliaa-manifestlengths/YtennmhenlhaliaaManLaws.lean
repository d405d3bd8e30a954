/-
  Layer 20's laws: the walk of ManifestSplits.
-/
import Derived.Test.YtennmhenlhaliaaManFace
namespace Go.Proofs.Ytennmhenlhaliaa.N
open Go.RowKit
set_option linter.unusedVariables false
set_option maxRecDepth 8192

theorem str_app (x y : List Int) : strOfNums x ++ strOfNums y = strOfNums (x ++ y) := by
  apply ByteArray.ext
  simp [strOfNums]
theorem owns_soft {w : World} {B : Nat} {e : TypeId} {sz n cap g : Nat} {xs : List Value} (h : w.ownsRow B e sz (.slice (some ⟨g, 0, none⟩) n cap) n xs) (i : Nat) : w.frozen? ⟨g, i, none⟩ = false := by
  rcases h.2 with ⟨h', _⟩ | ⟨g', cap1, cur, h', _, hh, _⟩
  · cases h'
  · cases h'
    exact arr_unfrozen hh i
theorem splits_long {a : Option Addr} {len cap : Nat} {w : World} (hl : 2000 < len) : Calls Try.prog 6 #[.slice a len cap] w fun e w' => e = .returned (.bool true) ∧ Below w.heap.size w w' := by
  have hl' : (2000 : Int) < (len : Int) := by omega
  go_enter Try.func6, Try.ntmps6
  go_wp2_with fail
  go_ret
  exact ⟨rfl, Below.refl _ _⟩
set_option maxHeartbeats 3200000 in
theorem splits_core {a : Option Addr} {len cap : Nat} {z : List Int} {w : World} (hr : Row .u8 w a len cap z) (hz : IsB z) (hl : len ≤ 2000) : Calls Try.prog 6 #[.slice a len cap] w fun e w' => e = .returned (.bool true) ∧ Below w.heap.size w w' := by
  obtain ⟨i0, hi0, hz0, hz1, hz2⟩ := info_parts Try.info5
  have hl' : ¬ (2000 : Int) < (len : Int) := by omega
  have q1 := below_one w (.cells #[] 5)
  have hown0 := own_lit w
  have rd := hr.below q1 (Nat.le_refl _)
  go_enter Try.func6, Try.ntmps6
  go_wp2_with (at_builtin; refine wpList_append_row _ rfl _ _ 25 rfl w.heap.size 5 i0 (.int .u8 0) 1 Try.underlying25 hi0 hz0 hz1 hz2 rfl _ 0 [] rfl hown0 .u8 a len cap _ rfl rd (by unfold maxLen; omega) (by omega) (by simp) ?_; intro v1 wo own1 hg1)
  have qo : Below w.heap.size w wo := q1.grown hg1 (by simp) (fun k hk => (hown0.lt k hk).1)
  rw [List.nil_append, Nat.zero_add] at own1
  obtain ⟨ao, co, rfl, ro⟩ := row_of_owns own1
  have rz := hr.below qo (Nat.le_refl _)
  clear q1 hown0 rd own1 hg1 hr
  by_cases h64 : len < 64
  · have h64' : (len : Int) < 64 := by omega
    go_wp2_with fail
    refine (split_no h64).mono ?_
    rintro e w' ⟨rfl, rfl⟩
    go_wp2_with fail
    refine (awake20_any _).mono ?_
    rintro e w2 ⟨rfl, q2⟩
    have HQ : Hid (Below w.heap.size w w2) := btrans qo q2
    clear qo q2 ro rz
    go_wp2_with fail
    go_ret
    exact ⟨rfl, HQ.out⟩
  obtain ⟨m, rfl⟩ : ∃ m, len = m + 64 := ⟨len - 64, by omega⟩
  have h64' : ¬ ((m + 64 : Nat) : Int) < 64 := by omega
  have hzl : z.length = m + 64 := rz.hlen
  go_wp2_with fail
  refine (split_yes ro (by omega)).mono ?_
  rintro e w2 ⟨v1, v2, rfl, o1, o2, q2⟩
  obtain ⟨a1, c1, rfl, r1⟩ := row_of_owns o1
  obtain ⟨a2, c2, rfl, r2⟩ := row_of_owns o2
  have kc1 := conv_row (P := Try.prog) Try.underlying25 Try.underlying5 Try.underlying9 r1
  have kc2 := conv_row (P := Try.prog) Try.underlying25 Try.underlying5 Try.underlying9 r2
  have hsa : strOfNums (z.take m) ++ strOfNums (z.drop m) = strOfNums z := by rw [str_app, List.take_append_drop]
  have hs1 : (strOfNums (z.take m)).size = m := by rw [strOfNums_size, List.length_take]; omega
  have hs2 : (strOfNums (z.drop m)).size = 64 := by rw [strOfNums_size, List.length_drop]; omega
  go_wp2_with fail
  have HSA : Hid (strOfNums (z.take m) ++ strOfNums (z.drop m) = strOfNums z) := hsa
  clear kc1 kc2 r1 r2 hsa hs1 hs2
  have hsz := q2.size
  go_loopw [8] (fun y wr => ∃ j : Nat, ∃ zs : List Int, j ≤ m ∧ y = .int .i64 (j : Int) ∧ wr.ownsRow wo.heap.size 5 1 (.slice a1 m c1) m (zs.map (Value.int .u8)) ∧ Below wo.heap.size wo wr) (fun y _ => m - (RowKit.intOf y).toNat)
  case atStart => exact ⟨0, _, Nat.zero_le _, rfl, o1, q2⟩
  case round =>
    clear o1 o2 q2
    obtain ⟨j, zs, hj, rfl, own, q⟩ := hrel
    by_cases hlt : j < m
    · have hlt' : (j : Int) < (m : Int) := by omega
      obtain ⟨g, hgB, rfl⟩ := owns_head own (by omega)
      have cj := owned_cell own j hlt
      have fj := owns_soft own j
      have hset := owned_set (q := j) (x := 1) hgB own q
      have HS1 : Hid _ := hset.1
      have HS2 : Hid _ := hset.2
      clear hset own q
      go_wp2_with fail
      go_roundw
      case rel => exact ⟨j + 1, zs.set j 1, by omega, by go_num, HS1, HS2⟩
      case measure => simp [RowKit.intOf]; omega
    · have hlt' : ¬ (j : Int) < (m : Int) := by omega
      clear own hj hlt
      replace ro := ro.below q (Nat.le_refl _)
      replace rz := rz.below q (Nat.le_refl _)
      go_wp2_with fail
      refine (awake20_any _).mono ?_
      rintro e w4 ⟨rfl, q4⟩
      have HQ : Hid (Below w.heap.size w w4) := btrans (btrans qo q) q4
      have kc1 := conv_row (P := Try.prog) Try.underlying25 Try.underlying5 Try.underlying9 (ro.below q4 (Nat.le_refl _))
      have kc2 := conv_row (P := Try.prog) Try.underlying25 Try.underlying5 Try.underlying9 (rz.below q4 (Nat.le_refl _))
      clear qo q q4 ro rz
      go_wp2_with fail
      go_ret
      exact ⟨rfl, HQ.out⟩
theorem walk_manifestSplits {a : Option Addr} {len cap : Nat} {z : List Int} {w : World} (hr : Row .u8 w a len cap z) (hz : IsB z) : Calls Try.prog 6 #[.slice a len cap] w fun e w' => e = .returned (.bool true) ∧ Below w.heap.size w w' := by
  rcases Nat.lt_or_ge 2000 len with h | h
  · exact splits_long h
  · exact splits_core hr hz h
end Go.Proofs.Ytennmhenlhaliaa.N
