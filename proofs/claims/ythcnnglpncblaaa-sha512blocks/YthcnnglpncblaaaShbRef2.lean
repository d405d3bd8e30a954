/-
  The document's answer for layer 14 (casemateref14): Start, Rounds. (Written by tools/gen/shb_ref2.py.)
-/
import Derived.Test.YthcnnglpncblaaaShbRef
import Derived.Test.YthcnnglpncblaaaShbCode2
namespace Go.Proofs.Ythcnnglpncblaaa.B
open Go.RowKit
set_option linter.unusedVariables false
set_option maxRecDepth 8192

set_option maxHeartbeats 1600000 in
theorem refStart14 (w : World) : Calls Try.prog 12 #[] w fun e w' => e = .returned (.agg ((nI SL).map (Value.int .u64)).toArray) ∧ Below w.heap.size w w' := by
  have HSL : Hid (SL.length = 8) := by show _ = _; decide +kernel
  go_enter Try.func12, Try.ntmps12
  go_wp2_with fail
  have A0 := (Arr.new w 26 .u64 (nI (List.replicate 8 0)) _ rfl).alloc (.cells ((nI (List.replicate 8 0)).map (Value.int .u64)).toArray 26)
  have A1 := Arr.new (w.alloc (.cells ((nI (List.replicate 8 0)).map (Value.int .u64)).toArray 26)) 26 .u64 (nI (List.replicate 8 0)) _ rfl
  have hs : (w.alloc (.cells ((nI (List.replicate 8 0)).map (Value.int .u64)).toArray 26)).heap.size = w.heap.size + 1 := by simp
  have hs2 : ((w.alloc (.cells ((nI (List.replicate 8 0)).map (Value.int .u64)).toArray 26)).alloc (.cells ((nI (List.replicate 8 0)).map (Value.int .u64)).toArray 26)).heap.size = w.heap.size + 2 := by simp
  have q1 := below_two w (.cells ((nI (List.replicate 8 0)).map (Value.int .u64)).toArray 26) (.cells ((nI (List.replicate 8 0)).map (Value.int .u64)).toArray 26)
  rw [hs] at A1
  clear hs
  change Calls Try.prog _ _ ((w.alloc (.cells ((nI (List.replicate 8 0)).map (Value.int .u64)).toArray 26)).alloc (.cells ((nI (List.replicate 8 0)).map (Value.int .u64)).toArray 26)) _
  generalize (w.alloc (.cells ((nI (List.replicate 8 0)).map (Value.int .u64)).toArray 26)).alloc (.cells ((nI (List.replicate 8 0)).map (Value.int .u64)).toArray 26) = w1 at *
  refine (refPrimes_yes 8 _ (by decide)).mono ?_
  rintro e w2 ⟨v2, rfl, hown2, q2⟩
  obtain ⟨a2, c2, rfl, _⟩ := row_of_owns hown2
  have q12 : Below w.heap.size w w2 := q1.trans (q2.mono (by omega))
  replace A0 := A0.below q2 (by omega)
  replace A1 := A1.below q2 (by omega)
  have hs3 := q2.size
  clear q1 q2
  go_wp2
  go_loopw [3] (fun y wr => ∃ k : Nat, k ≤ 8 ∧ y = .int .i64 (k : Int) ∧ Hid (Arr wr (w.heap.size + 1) 26 .u64 (nI (fillL SL 8 k))) ∧ Hid (Arr wr w.heap.size 26 .u64 (nI (List.replicate 8 0))) ∧ Hid (Below w.heap.size w wr) ∧ Hid (wr.ownsRow w1.heap.size 3 1 (.slice a2 8 c2) 8 ((nI (prL.take 8)).map (Value.int .i64)))) (fun y _ => 8 - (intOf y).toNat)
  case atStart => exact ⟨0, by omega, rfl, by rw [fillL_zero]; exact A1, A0, q12, hown2⟩
  case round =>
    clear A0 A1 q12 hown2
    obtain ⟨k, hk, rfl, HA1, HA0, HB, HO⟩ := hrel
    by_cases hlt : k < 8
    · obtain ⟨a3, c3, e3, row3⟩ := row_of_owns HO.out
      simp only [Value.slice.injEq, true_and] at e3
      obtain ⟨rfl, rfl⟩ := e3
      obtain ⟨b, off, rfl, hbs, hcell⟩ := row3.hcell (by omega)
      have hc1 := hcell k hlt
      clear hcell row3
      rw [nI_get, prL_take_get 8 k hlt] at hc1
      have HS : Hid (SL[k]?.getD 0 = frTo 2 (prL[k]?.getD 0 * 65536 ^ 8) 69 % 18446744073709551616) := by show _ = _; rw [map_take_get _ 8 k SL SL_doc (by decide) hlt]
      have hp := prL_get_lt k
      generalize prL[k]?.getD 0 = p at *
      have hroot := root14_any p 2 wr (by decide) (by omega)
      rw [show 4 * 2 = 8 from rfl] at hroot
      have hzlt : frTo 2 (p * 65536 ^ 8) 69 % 18446744073709551616 < 18446744073709551616 := Nat.mod_lt _ (by decide)
      generalize hz0 : frTo 2 (p * 65536 ^ 8) 69 % 18446744073709551616 = z at *
      clear hz0



      go_wp2_with fail
      refine hroot.mono ?_
      rintro e w3 ⟨rfl, q3⟩
      have sB := HB.out.size
      have A3 := HA1.out.below q3 HA1.out.lt
      have hcl := A3.cell k (by rw [nI_length, fillL_length HSL.out hk]; exact hlt)
      have hfz := A3.unfrozen k
      have HA1' : Hid (Arr (w3.setCell ⟨w.heap.size + 1, k, none⟩ (.int .u64 (z : Int))) (w.heap.size + 1) 26 .u64 (nI (fillL SL 8 (k + 1)))) := by
        show Arr _ _ _ _ _
        have := A3.set (by rw [nI_length, fillL_length HSL.out hk]; decide) k (z : Int)
        rw [nI_set, ← HS.out, fillL_next HSL.out hlt, HS.out] at this
        exact this
      have HO3 := ownsSince HO.out q3
      have HB3 := HB.out.trans (q3.mono sB)
      have A03 := HA0.out.below q3 (by have := HA0.out.lt; omega)
      clear q3 A3
      go_wp2
      go_roundw
      case rel => exact ⟨k + 1, by omega, by go_num, HA1', A03.other _ _ (by show w.heap.size ≠ w.heap.size + 1; omega), HB3.setCell (by show w.heap.size ≤ w.heap.size + 1; omega) _, ownsRow_setCell_below HO3 (by show w.heap.size + 1 < w1.heap.size; omega) _⟩
      case measure => simp [intOf]; omega
    · obtain rfl : k = 8 := by omega
      have A1 := HA1.out
      rw [fillL_full HSL.out] at A1
      have hl : (nI SL).length = 8 := by rw [nI_length]; exact HSL.out
      have HL : Hid ((nI SL).length = 8) := hl
      clear hl
      go_wp2_with (first
        | (refine wpList_loadA rfl 26 _ rfl (w.heap.size + 1) rfl A1 Try.underlying26 Try.size26 HL.out ?_)
        | (refine wpList_storeA rfl 26 _ _ rfl w.heap.size (nI SL) rfl rfl HA0.out Try.size26 (by decide +kernel) HL.out ?_))
      exact bodyPost_ret (resA rfl _ _ w.heap.size rfl (HA0.out.whole _) Try.underlying26 Try.size26 HL.out) rfl ⟨rfl, below_setRow HB.out (Nat.le_refl _) _⟩
set_option maxHeartbeats 1600000 in
theorem refRounds14 (w : World) : Calls Try.prog 10 #[] w fun e w' => e = .returned (.agg ((nI KL).map (Value.int .u64)).toArray) ∧ Below w.heap.size w w' := by
  have HSL : Hid (KL.length = 80) := by show _ = _; decide +kernel
  have hz1 := Try.zeroValue24
  have hz2 := Try.zeroCells24_ne
  have hz3 := Try.zeroCells24_size
  go_enter Try.func10, Try.ntmps10
  go_wp2_with fail
  have A0 := (Arr.new w 24 .u64 (nI (List.replicate 80 0)) _ zero80).alloc (.cells Try.zeroCells24 24)
  have A1 := Arr.new (w.alloc (.cells Try.zeroCells24 24)) 24 .u64 (nI (List.replicate 80 0)) _ zero80
  have hs : (w.alloc (.cells Try.zeroCells24 24)).heap.size = w.heap.size + 1 := by simp
  have hs2 : ((w.alloc (.cells Try.zeroCells24 24)).alloc (.cells Try.zeroCells24 24)).heap.size = w.heap.size + 2 := by simp
  have q1 := below_two w (.cells Try.zeroCells24 24) (.cells Try.zeroCells24 24)
  rw [hs] at A1
  clear hs
  change Calls Try.prog _ _ ((w.alloc (.cells Try.zeroCells24 24)).alloc (.cells Try.zeroCells24 24)) _
  generalize (w.alloc (.cells Try.zeroCells24 24)).alloc (.cells Try.zeroCells24 24) = w1 at *
  refine (refPrimes_yes 80 _ (by decide)).mono ?_
  rintro e w2 ⟨v2, rfl, hown2, q2⟩
  obtain ⟨a2, c2, rfl, _⟩ := row_of_owns hown2
  have q12 : Below w.heap.size w w2 := q1.trans (q2.mono (by omega))
  replace A0 := A0.below q2 (by omega)
  replace A1 := A1.below q2 (by omega)
  have hs3 := q2.size
  clear q1 q2
  go_wp2
  go_loopw [3] (fun y wr => ∃ k : Nat, k ≤ 80 ∧ y = .int .i64 (k : Int) ∧ Hid (Arr wr (w.heap.size + 1) 24 .u64 (nI (fillL KL 80 k))) ∧ Hid (Arr wr w.heap.size 24 .u64 (nI (List.replicate 80 0))) ∧ Hid (Below w.heap.size w wr) ∧ Hid (wr.ownsRow w1.heap.size 3 1 (.slice a2 80 c2) 80 ((nI (prL.take 80)).map (Value.int .i64)))) (fun y _ => 80 - (intOf y).toNat)
  case atStart => exact ⟨0, by omega, rfl, by rw [fillL_zero]; exact A1, A0, q12, hown2⟩
  case round =>
    clear A0 A1 q12 hown2
    obtain ⟨k, hk, rfl, HA1, HA0, HB, HO⟩ := hrel
    by_cases hlt : k < 80
    · obtain ⟨a3, c3, e3, row3⟩ := row_of_owns HO.out
      simp only [Value.slice.injEq, true_and] at e3
      obtain ⟨rfl, rfl⟩ := e3
      obtain ⟨b, off, rfl, hbs, hcell⟩ := row3.hcell (by omega)
      have hc1 := hcell k hlt
      clear hcell row3
      rw [nI_get, prL_take_get 80 k hlt] at hc1
      have HS : Hid (KL[k]?.getD 0 = frTo 3 (prL[k]?.getD 0 * 65536 ^ 12) 69 % 18446744073709551616) := by show _ = _; rw [map_take_get _ 80 k KL KL_doc (by decide) hlt]
      have hp := prL_get_lt k
      generalize prL[k]?.getD 0 = p at *
      have hroot := root14_any p 3 wr (by decide) (by omega)
      rw [show 4 * 3 = 12 from rfl] at hroot
      have hzlt : frTo 3 (p * 65536 ^ 12) 69 % 18446744073709551616 < 18446744073709551616 := Nat.mod_lt _ (by decide)
      generalize hz0 : frTo 3 (p * 65536 ^ 12) 69 % 18446744073709551616 = z at *
      clear hz0
      go_wp2_with fail
      refine hroot.mono ?_
      rintro e w3 ⟨rfl, q3⟩
      have sB := HB.out.size
      have A3 := HA1.out.below q3 HA1.out.lt
      have hcl := A3.cell k (by rw [nI_length, fillL_length HSL.out hk]; exact hlt)
      have hfz := A3.unfrozen k
      have HA1' : Hid (Arr (w3.setCell ⟨w.heap.size + 1, k, none⟩ (.int .u64 (z : Int))) (w.heap.size + 1) 24 .u64 (nI (fillL KL 80 (k + 1)))) := by
        show Arr _ _ _ _ _
        have := A3.set (by rw [nI_length, fillL_length HSL.out hk]; decide) k (z : Int)
        rw [nI_set, ← HS.out, fillL_next HSL.out hlt, HS.out] at this
        exact this
      have HO3 := ownsSince HO.out q3
      have HB3 := HB.out.trans (q3.mono sB)
      have A03 := HA0.out.below q3 (by have := HA0.out.lt; omega)
      clear q3 A3
      go_wp2
      go_roundw
      case rel => exact ⟨k + 1, by omega, by go_num, HA1', A03.other _ _ (by show w.heap.size ≠ w.heap.size + 1; omega), HB3.setCell (by show w.heap.size ≤ w.heap.size + 1; omega) _, ownsRow_setCell_below HO3 (by show w.heap.size + 1 < w1.heap.size; omega) _⟩
      case measure => simp [intOf]; omega
    · obtain rfl : k = 80 := by omega
      have A1 := HA1.out
      rw [fillL_full HSL.out] at A1
      have hl : (nI KL).length = 80 := by rw [nI_length]; exact HSL.out
      have HL : Hid ((nI KL).length = 80) := hl
      clear hl
      go_wp2_with (first
        | (refine wpList_loadA rfl 24 _ rfl (w.heap.size + 1) rfl A1 Try.underlying24 Try.size24 HL.out ?_)
        | (refine wpList_storeA rfl 24 _ _ rfl w.heap.size (nI KL) rfl rfl HA0.out Try.size24 (by decide +kernel) HL.out ?_))
      exact bodyPost_ret (resA rfl _ _ w.heap.size rfl (HA0.out.whole _) Try.underlying24 Try.size24 HL.out) rfl ⟨rfl, below_setRow HB.out (Nat.le_refl _) _⟩
end Go.Proofs.Ythcnnglpncblaaa.B
