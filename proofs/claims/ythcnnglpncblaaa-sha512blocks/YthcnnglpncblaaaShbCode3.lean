/-
  The code of layer 14 (sha512): spread.
-/
import Derived.Test.YthcnnglpncblaaaShbCode2
import Derived.Test.YthcnnglpncblaaaShaCode3
namespace Go.Proofs.Ythcnnglpncblaaa.B
open Go.RowKit
set_option linter.unusedVariables false
set_option maxRecDepth 8192

/-- Of a word the first j bytes. -/
def pwr (z : List Nat) (i : Nat) : Nat → Nat
  | 0 => 0
  | j + 1 => pwr z i j * 256 + z[8 * i + j]?.getD 0
theorem pwr_lt (z : List Nat) (h : ∀ x ∈ z, x < 256) (i j : Nat) : pwr z i j < 256 ^ j := by
  induction j with
  | zero => simp [pwr]
  | succ j ih =>
    have := getD_lt (by decide) h (8 * i + j)
    simp only [pwr, Nat.pow_succ]
    omega
theorem pwr_eight (z : List Nat) (i : Nat) : pwr z i 8 = word8 z i := by simp [pwr, word8]
/-- The array behind k bytes. -/
def wb (z : List Nat) (k : Nat) : List Nat := (List.range 80).map fun i => pwr z i (min 8 (k - 8 * i))
theorem wb_length (z : List Nat) (k : Nat) : (wb z k).length = 80 := by simp [wb]
theorem wb_zero (z : List Nat) : wb z 0 = List.replicate 80 0 := by
  apply List.ext_getElem (by simp [wb])
  intro i h1 h2
  rw [List.getElem_replicate]
  simp only [wb, List.getElem_map, List.getElem_range]
  rw [show min 8 (0 - 8 * i) = 0 from by omega, pwr]
theorem wb_get (z : List Nat) (k i : Nat) (hi : i < 80) : (wb z k)[i]?.getD 0 = pwr z i (min 8 (k - 8 * i)) := by simp [wb, hi]
theorem wb_at (z : List Nat) (k : Nat) (hk : k < 128) : (wb z k)[k / 8]?.getD 0 = pwr z (k / 8) (k % 8) := by
  rw [wb_get z k (k / 8) (by omega)]; congr 1; omega
theorem wb_next (z : List Nat) (k : Nat) (hk : k < 128) : (wb z k).set (k / 8) (pwr z (k / 8) (k % 8) * 256 + z[k]?.getD 0) = wb z (k + 1) := by
  apply List.ext_getElem (by simp [wb])
  intro i h1 h2
  simp only [wb, List.length_map, List.length_range] at h2
  rw [List.getElem_set]
  by_cases e : k / 8 = i
  · rw [if_pos e]
    subst e
    simp only [wb, List.getElem_map, List.getElem_range]
    rw [show min 8 (k + 1 - 8 * (k / 8)) = k % 8 + 1 from by omega, pwr, show 8 * (k / 8) + k % 8 = k from by omega]
  · rw [if_neg e]
    simp only [wb, List.getElem_map, List.getElem_range]
    congr 1
    omega
theorem wb_full (z : List Nat) : wb z 128 = words16 z ++ List.replicate 64 0 := by
  apply List.ext_getElem (by simp [wb, words16])
  intro i h1 h2
  simp only [wb, List.length_map, List.length_range] at h1
  rcases Nat.lt_or_ge i 16 with h | h
  · rw [List.getElem_append_left (by simp [words16]; exact h)]
    simp only [wb, words16, List.getElem_map, List.getElem_range]
    rw [show min 8 (128 - 8 * i) = 8 from by omega, pwr_eight]
  · rw [List.getElem_append_right (by simp [words16]; exact h)]
    simp only [wb, List.getElem_map, List.getElem_range, List.getElem_replicate]
    rw [show min 8 (128 - 8 * i) = 0 from by omega, pwr]
/-- The array behind k words more. -/
def ws (z : List Nat) (k : Nat) : List Nat := moreW (words16 z) k ++ List.replicate (64 - k) 0
theorem ws_length (z : List Nat) (k : Nat) (hk : k ≤ 64) : (ws z k).length = 80 := by simp [ws, moreW_length, words16_length]; omega
theorem ws_zero (z : List Nat) : ws z 0 = wb z 128 := by rw [wb_full]; rfl
theorem ws_full (z : List Nat) : ws z 64 = spreadL z := by simp [ws, spreadL]
theorem ws_get (z : List Nat) (k i : Nat) (hi : i < 16 + k) : (ws z k)[i]?.getD 0 = (moreW (words16 z) k)[i]?.getD 0 := by
  unfold ws; rw [List.getElem?_append_left (by rw [moreW_length, words16_length]; exact hi)]
theorem ws_next (z : List Nat) (k : Nat) (hk : k < 64) : (ws z k).set (16 + k) (nextW (moreW (words16 z) k)) = ws z (k + 1) := by
  unfold ws
  have hl : (moreW (words16 z) k).length = 16 + k := by rw [moreW_length, words16_length]
  rw [List.set_append_right _ _ (by omega), hl, Nat.sub_self, show 64 - k = (64 - (k + 1)) + 1 from by omega, List.replicate_succ, List.set_cons_zero, moreW, List.append_assoc]
  rfl
set_option maxHeartbeats 3200000 in
theorem spread_any (z : List Nat) (a : Option Addr) (cap : Nat) (w : World) (hr : Row .u8 w a 128 cap (nI z)) (hz : ∀ x ∈ z, x < 256) :
    Calls Try.prog 37 #[.slice a 128 cap] w fun e w' => e = .returned (.agg ((nI (spreadL z)).map (Value.int .u64)).toArray) ∧ Below w.heap.size w w' := by
  have HZ : Hid (∀ x ∈ z, x < 256) := hz
  clear hz
  have hz1 := Try.zeroValue24
  have hz2 := Try.zeroCells24_ne
  have hz3 := Try.zeroCells24_size
  go_enter Try.func37, Try.ntmps37
  go_wp2
  have A0 := (Arr.new w 24 .u64 (nI (List.replicate 80 0)) _ zero80).alloc (.cells Try.zeroCells24 24)
  have A1 := Arr.new (w.alloc (.cells Try.zeroCells24 24)) 24 .u64 (nI (List.replicate 80 0)) _ zero80
  have hs : (w.alloc (.cells Try.zeroCells24 24)).heap.size = w.heap.size + 1 := by simp
  have q1 := below_two w (.cells Try.zeroCells24 24) (.cells Try.zeroCells24 24)
  rw [hs] at A1
  clear hs
  go_loopw [13] (fun y wr => ∃ k : Nat, k ≤ 128 ∧ y = .int .i64 (k : Int) ∧ Hid (Arr wr (w.heap.size + 1) 24 .u64 (nI (wb z k))) ∧ Hid (Arr wr w.heap.size 24 .u64 (nI (List.replicate 80 0))) ∧ Hid (Below w.heap.size w wr)) (fun y _ => 128 - (intOf y).toNat)
  case atStart => exact ⟨0, by omega, rfl, by rw [wb_zero]; exact A1, A0, q1⟩
  case round =>
    clear A0 A1 q1
    obtain ⟨k, hk, rfl, HA1, HA0, HB⟩ := hrel
    by_cases hlt : k < 128
    · obtain ⟨b, off, rfl, hbs, hcell⟩ := (hr.below HB.out (Nat.le_refl _)).hcell (by omega)
      have hc1 := hcell k hlt
      clear hcell
      rw [nI_get] at hc1
      have hx := getD_lt (by decide) HZ.out k
      have hk8 : k / 8 < 80 := by omega
      have hcl := HA1.out.cell (k / 8) (by rw [nI_length, wb_length]; exact hk8)
      have hfz := HA1.out.unfrozen (k / 8)
      rw [nI_get, wb_at z k hlt] at hcl
      have hpl : pwr z (k / 8) (k % 8) < 256 ^ 7 := Nat.lt_of_lt_of_le (pwr_lt z HZ.out (k / 8) (k % 8)) (Nat.pow_le_pow_right (by decide) (by omega))
      have HN : Hid (Arr (wr.setCell ⟨w.heap.size + 1, k / 8, none⟩ (.int .u64 ((pwr z (k / 8) (k % 8) * 256 + z[k]?.getD 0 : Nat) : Int))) (w.heap.size + 1) 24 .u64 (nI (wb z (k + 1)))) := by
        show Arr _ _ _ _ _
        have := HA1.out.set (by rw [nI_length, wb_length]; decide) (k / 8) ((pwr z (k / 8) (k % 8) * 256 + z[k]?.getD 0 : Nat) : Int)
        rw [nI_set, wb_next z k hlt] at this
        exact this
      generalize pwr z (k / 8) (k % 8) = p at *
      generalize z[k]?.getD 0 = x at *
      have ho : bits .or .u64 (((p * 256 : Nat) : Int)) (x : Int) = ((p * 256 + x : Nat) : Int) := by rw [u64_or_nat _ _ (by omega) (by omega), or_byte p x hx]
      have hp1 : (p : Int) * 256 = ((p * 256 : Nat) : Int) := by omega
      have hpl2 : p * 256 + x < 18446744073709551616 := by omega
      have hpl3 : p * 256 < 18446744073709551616 := by omega
      generalize p * 256 + x = px at *
      generalize p * 256 = p256 at *
      go_wp2
      go_roundw
      case rel => exact ⟨k + 1, by omega, by go_num, HN, HA0.out.other _ _ (by show w.heap.size ≠ w.heap.size + 1; omega), HB.out.setCell (by show w.heap.size ≤ w.heap.size + 1; omega) _⟩
      case measure => simp [intOf]; omega
    · obtain rfl : k = 128 := by omega
      rw [← ws_zero] at HA1
      rw [show ((128 : Nat) : Int) = 128 from rfl]
      go_wp2
      go_loopw [6] (fun y wr => ∃ k : Nat, k ≤ 64 ∧ y = .int .i64 ((16 + k : Nat) : Int) ∧ Hid (Arr wr (w.heap.size + 1) 24 .u64 (nI (ws z k))) ∧ Hid (Arr wr w.heap.size 24 .u64 (nI (List.replicate 80 0))) ∧ Hid (Below w.heap.size w wr)) (fun y _ => 80 - (intOf y).toNat)
      case atStart => exact ⟨0, by omega, rfl, HA1, HA0, HB⟩
      case round =>
        clear HA1 HA0 HB
        obtain ⟨k, hk, rfl, HA1, HA0, HB⟩ := hrel
        by_cases hlt : k < 64
        · have hlen : (nI (ws z k)).length = 80 := by rw [nI_length, ws_length z k hk]
          have hml : (moreW (words16 z) k).length = 16 + k := by rw [moreW_length, words16_length]
          have c16 := HA1.out.cell (16 + k - 16) (by rw [hlen]; omega)
          have c15 := HA1.out.cell (16 + k - 15) (by rw [hlen]; omega)
          have c7 := HA1.out.cell (16 + k - 7) (by rw [hlen]; omega)
          have c2 := HA1.out.cell (16 + k - 2) (by rw [hlen]; omega)
          have c0 := HA1.out.cell (16 + k) (by rw [hlen]; omega)
          have hfz := HA1.out.unfrozen (16 + k)
          rw [nI_get, ws_get z k _ (by omega)] at c16 c15 c7 c2
          have HN : Hid (Arr (wr.setCell ⟨w.heap.size + 1, 16 + k, none⟩ (.int .u64 ((nextW (moreW (words16 z) k) : Nat) : Int))) (w.heap.size + 1) 24 .u64 (nI (ws z (k + 1)))) := by
            show Arr _ _ _ _ _
            have := HA1.out.set (by rw [hlen]; decide) (16 + k) ((nextW (moreW (words16 z) k) : Nat) : Int)
            rw [nI_set, ws_next z k hlt] at this
            exact this
          have b := moreW_lt _ (words16_lt z HZ.out) k
          have b16 := getD_lt (by decide) b (16 + k - 16)
          have b15 := getD_lt (by decide) b (16 + k - 15)
          have b7 := getD_lt (by decide) b (16 + k - 7)
          have b2 := getD_lt (by decide) b (16 + k - 2)
          have hnx : nextW (moreW (words16 z) k) = ((moreW (words16 z) k)[16 + k - 16]?.getD 0 + sg0 ((moreW (words16 z) k)[16 + k - 15]?.getD 0) + (moreW (words16 z) k)[16 + k - 7]?.getD 0 + sg1 ((moreW (words16 z) k)[16 + k - 2]?.getD 0)) % 18446744073709551616 := by unfold nextW; rw [hml]
          unfold sg0 sg1 at hnx
          have HX : Hid (_ = _) := hnx
          clear hnx
          generalize nextW (moreW (words16 z) k) = nx at *
          generalize (moreW (words16 z) k)[16 + k - 16]?.getD 0 = x16 at *
          generalize (moreW (words16 z) k)[16 + k - 15]?.getD 0 = x15 at *
          generalize (moreW (words16 z) k)[16 + k - 7]?.getD 0 = x7 at *
          generalize (moreW (words16 z) k)[16 + k - 2]?.getD 0 = x2 at *
          clear b hml hlen
          generalize (nI (ws z k))[16 + k]?.getD 0 = x0 at *
          have hi1 : 16 ≤ 16 + k := by omega
          have hi2 : 16 + k < 80 := by omega
          generalize hi : 16 + k = i at *
          have HI : Hid (16 + k = i) := hi
          clear hi
          have t16 : ((i : Int) - 16).toNat = i - 16 := by omega
          have t15 : ((i : Int) - 15).toNat = i - 15 := by omega
          have t7 : ((i : Int) - 7).toNat = i - 7 := by omega
          have t2 : ((i : Int) - 2).toNat = i - 2 := by omega
          have p16 : (0 : Int) ≤ (i : Int) - 16 ∧ (i : Int) - 16 < 80 := by omega
          have p15 : (0 : Int) ≤ (i : Int) - 15 ∧ (i : Int) - 15 < 80 := by omega
          have p7 : (0 : Int) ≤ (i : Int) - 7 ∧ (i : Int) - 7 < 80 := by omega
          have p2 : (0 : Int) ≤ (i : Int) - 2 ∧ (i : Int) - 2 < 80 := by omega
          obtain ⟨p16a, p16b⟩ := p16
          obtain ⟨p15a, p15b⟩ := p15
          obtain ⟨p7a, p7b⟩ := p7
          obtain ⟨p2a, p2b⟩ := p2
          have k7 := fun w => rotr_any x15 1 w b15 (by decide) (by decide)
          have k18 := fun w => rotr_any x15 8 w b15 (by decide) (by decide)
          have k17 := fun w => rotr_any x2 19 w b2 (by decide) (by decide)
          have k19 := fun w => rotr_any x2 61 w b2 (by decide) (by decide)
          have l7 := rr_lt x15 1 b15 (by decide)
          have l18 := rr_lt x15 8 b15 (by decide)
          have l17 := rr_lt x2 19 b2 (by decide)
          have l19 := rr_lt x2 61 b2 (by decide)
          have ld8 : x15 / 128 < 18446744073709551616 := by omega
          have ld10 : x2 / 64 < 18446744073709551616 := by omega
          have ed8 : (x15 : Int) / 128 = ((x15 / 128 : Nat) : Int) := by omega
          have ed10 : (x2 : Int) / 64 = ((x2 / 64 : Nat) : Int) := by omega
          generalize rr x15 1 = r7 at *
          generalize rr x15 8 = r18 at *
          generalize rr x2 19 = r17 at *
          generalize rr x2 61 = r19 at *
          generalize x15 / 128 = d8 at *
          generalize x2 / 64 = d10 at *
          have e1 := u64_xor_nat r7 r18 l7 l18
          have f1 := xlt l7 l18
          generalize r7 ^^^ r18 = y1 at *
          have e2 := u64_xor_nat y1 d8 f1 ld8
          have f2 := xlt f1 ld8
          generalize y1 ^^^ d8 = y2 at *
          have e3 := u64_xor_nat r17 r19 l17 l19
          have f3 := xlt l17 l19
          generalize r17 ^^^ r19 = y3 at *
          have e4 := u64_xor_nat y3 d10 f3 ld10
          have f4 := xlt f3 ld10
          generalize y3 ^^^ d10 = y4 at *
          go_wp2_with fail
          go_quiet (fail)
          go_wp2_with fail
          refine (k7 _).mono ?_
          rintro e w' ⟨rfl, rfl⟩
          go_wp2_with fail
          refine (k18 _).mono ?_
          rintro e w' ⟨rfl, rfl⟩
          go_wp2_with fail
          refine (k17 _).mono ?_
          rintro e w' ⟨rfl, rfl⟩
          go_wp2_with fail
          refine (k19 _).mono ?_
          rintro e w' ⟨rfl, rfl⟩
          clear k7 k18 k17 k19
          have hn1 : i - 16 ≠ i := by omega
          have hn2 : i - 7 ≠ i := by omega
          go_wp2_with fail
          go_region
          rw [show IntKind.u64.wrap (IntKind.u64.wrap (IntKind.u64.wrap ((x16 : Int) + (y2 : Int)) + (x7 : Int)) + (y4 : Int)) = ((nx : Nat) : Int) from by rw [HX.out]; simp only [IntKind.wrap_u64]; omega]
          go_wp2
          go_roundw
          case rel => exact ⟨k + 1, by omega, by rw [← HI.out]; go_num, HN, HA0.out.other _ _ (by show w.heap.size ≠ w.heap.size + 1; omega), (belowN HB.out _).setCell (by show w.heap.size ≤ w.heap.size + 1; omega) _⟩
          case measure => simp [intOf]; omega
        · obtain rfl : k = 64 := by omega
          have A1 := HA1.out
          rw [ws_full] at A1
          have HL : Hid ((nI (spreadL z)).length = 80) := by show _ = _; rw [nI_length, spreadL_length]
          go_wp2_with (first
            | (refine wpList_loadA rfl 24 _ rfl (w.heap.size + 1) rfl A1 Try.underlying24 Try.size24 HL.out ?_)
            | (refine wpList_storeA rfl 24 _ _ rfl w.heap.size (nI (spreadL z)) rfl rfl HA0.out Try.size24 (by decide +kernel) HL.out ?_))
          exact bodyPost_ret (resA rfl _ _ w.heap.size rfl (HA0.out.whole _) Try.underlying24 Try.size24 HL.out) rfl ⟨rfl, below_setRow HB.out (Nat.le_refl _) _⟩
end Go.Proofs.Ythcnnglpncblaaa.B
