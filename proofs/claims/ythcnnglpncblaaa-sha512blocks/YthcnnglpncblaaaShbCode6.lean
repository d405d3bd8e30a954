/-
  The code of layer 14 (sha512): told, Block.
-/
import Derived.Test.YthcnnglpncblaaaShbCode5
import Derived.Test.YthcnnglpncblaaaShaCode6
namespace Go.Proofs.Ythcnnglpncblaaa.B
open Go.RowKit
set_option linter.unusedVariables false
set_option maxRecDepth 8192

/-- The state's first k words as bytes. -/
def toldTo (s : S8) (k : Nat) : List Nat := s.bytes.take (8 * k) ++ List.replicate (64 - 8 * k) 0
theorem bytes_length (s : S8) : s.bytes.length = 64 := rfl
theorem toldTo_length (s : S8) (k : Nat) (hk : k ≤ 8) : (toldTo s k).length = 64 := by simp [toldTo, bytes_length]; omega
theorem toldTo_next (s : S8) (k : Nat) (hk : k < 8) : spL (toldTo s k) (beN 8 (s.list[k]?.getD 0)) (8 * k) 8 0 = toldTo s (k + 1) := by
  rw [beN_eight]
  rcases (show k = 0 ∨ k = 1 ∨ k = 2 ∨ k = 3 ∨ k = 4 ∨ k = 5 ∨ k = 6 ∨ k = 7 by omega) with rfl | rfl | rfl | rfl | rfl | rfl | rfl | rfl <;> rfl
theorem Try.one5 : (Try.prog.info? 5).map (·.size) = some 1 := by kernel_rfl
theorem Try.size35 : (Try.prog.info? 35).map (·.size) = some 64 := by kernel_rfl
set_option maxHeartbeats 1600000 in
theorem told_any (s : S8) (w : World) (hs : s.Ok) : Calls Try.prog 30 #[.agg ((nI s.list).map (Value.int .u64)).toArray] w fun e w' => e = .returned (.agg ((nI s.bytes).map (Value.int .u8)).toArray) ∧ Below w.heap.size w w' := by
  generalize hX0 : ((nI s.list).map (Value.int .u64)).toArray = X0
  have HL8 : Hid ((nI s.list).length = 8) := by show _ = _; rw [nI_length]; rfl
  go_enter Try.func30, Try.ntmps30
  have A1 := ((Arr.new w 26 .u64 (nI s.list) X0 hX0.symm).alloc (.cells ((nI (List.replicate 64 0)).map (Value.int .u8)).toArray 35)).alloc (.cells ((nI (List.replicate 64 0)).map (Value.int .u8)).toArray 35)
  have A2 := (Arr.new (w.alloc (.cells X0 26)) 35 .u8 (nI (List.replicate 64 0)) _ rfl).alloc (.cells ((nI (List.replicate 64 0)).map (Value.int .u8)).toArray 35)
  have A3 := Arr.new ((w.alloc (.cells X0 26)).alloc (.cells ((nI (List.replicate 64 0)).map (Value.int .u8)).toArray 35)) 35 .u8 (nI (List.replicate 64 0)) _ rfl
  have q1 := below_three w (.cells X0 26) (.cells ((nI (List.replicate 64 0)).map (Value.int .u8)).toArray 35) (.cells ((nI (List.replicate 64 0)).map (Value.int .u8)).toArray 35)
  have z1 : (w.alloc (.cells X0 26)).heap.size = w.heap.size + 1 := by simp
  have z2 : ((w.alloc (.cells X0 26)).alloc (.cells ((nI (List.replicate 64 0)).map (Value.int .u8)).toArray 35)).heap.size = w.heap.size + 1 + 1 := by simp
  rw [z1] at A2
  rw [z2] at A3
  go_wp2_with (refine wpList_loadA rfl 26 _ rfl w.heap.size rfl A1 Try.underlying26 Try.size26 HL8.out ?_)
  clear z1 z2 A1
  go_loopw [7] (fun y wr => ∃ k : Nat, k ≤ 8 ∧ y = .int .i64 (k : Int) ∧ Hid (Arr wr (w.heap.size + 1 + 1) 35 .u8 (nI (toldTo s k))) ∧ Hid (Arr wr (w.heap.size + 1) 35 .u8 (nI (List.replicate 64 0))) ∧ Hid (Below w.heap.size w wr)) (fun y _ => 8 - (intOf y).toNat)
  case atStart => exact ⟨0, by omega, rfl, A3, A2, q1⟩
  case round =>
    clear A3 A2 q1
    obtain ⟨k, hk, rfl, HA3, HA2, HB⟩ := hrel
    by_cases hlt : k < 8
    · have hv : X0[k]? = some (.int .u64 ((s.list[k]?.getD 0 : Nat) : Int)) := by
        rw [← hX0, ← nI_get, List.getElem?_toArray, List.getElem?_map, List.getElem?_eq_getElem (show k < (nI s.list).length by rw [HL8.out]; exact hlt)]
        rfl
      have HV : Hid (X0[k]? = some (.int .u64 ((s.list[k]?.getD 0 : Nat) : Int))) := hv
      clear hv
      have HT : Hid (spL (toldTo s k) (beN 8 (s.list[k]?.getD 0)) (8 * k) 8 0 = toldTo s (k + 1)) := toldTo_next s k hlt
      have hx : s.list[k]?.getD 0 < 18446744073709551616 := by
        rcases (show k = 0 ∨ k = 1 ∨ k = 2 ∨ k = 3 ∨ k = 4 ∨ k = 5 ∨ k = 6 ∨ k = 7 by omega) with rfl | rfl | rfl | rfl | rfl | rfl | rfl | rfl
        · exact hs.a
        · exact hs.b
        · exact hs.c
        · exact hs.d
        · exact hs.e
        · exact hs.f
        · exact hs.g
        · exact hs.h
      generalize s.list[k]?.getD 0 = x at *
      have hsl : ∀ W, (Instr.sliceAt 35 (.pointer (some ⟨w.heap.size + 1 + 1, 0, none⟩)) (some (.int .i64 ((k : Int) * 8))) (some (.int .i64 (((k : Int) + 1) * 8))) none).run Try.prog W = .ok (.slice (some ⟨w.heap.size + 1 + 1, 8 * k, none⟩) 8 (64 - 8 * k)) W := fun W => by
        rw [show (k : Int) * 8 = ((8 * k : Nat) : Int) from by omega, show ((k : Int) + 1) * 8 = ((8 * k + 8 : Nat) : Int) from by omega, run_sliceAtA 35 5 64 Try.underlying35 Try.one5 _ _ .i64 .i64 (8 * k) (8 * k + 8) (by omega) (by omega) (by omega) W, show 8 * k + 8 - 8 * k = 8 from by omega, Nat.zero_add]
      go_wp2_with (refine wpList_indexA rfl 26 _ _ rfl X0 _ k rfl rfl Try.underlying26 Try.underlying23 Try.one23 hlt HV.out ?_)
      refine (put14_any (toldTo s k) 35 (w.heap.size + 1 + 1) (8 * k) x (64 - 8 * k) _ HA3.out (by rw [toldTo_length s k hk]; omega) (by rw [toldTo_length s k hk]; omega) hx).mono ?_
      rintro e w3 ⟨rfl, A3, q3⟩
      rw [HT.out] at A3
      have A2 := HA2.out.below q3 (by omega)
      have q4 := HB.out.trans (q3.mono (by omega))
      clear hsl q3
      go_wp2
      go_roundw
      case rel => exact ⟨k + 1, by omega, by go_num, A3, A2, q4⟩
      case measure => simp [intOf]; omega
    · obtain rfl : k = 8 := by omega
      have A3 : Arr wr (w.heap.size + 1 + 1) 35 .u8 (nI s.bytes) := HA3.out
      have HL : Hid ((nI s.bytes).length = 64) := by show _ = _; rw [nI_length]; rfl
      go_wp2_with (first
        | (refine wpList_loadA rfl 35 _ rfl (w.heap.size + 1 + 1) rfl A3 Try.underlying35 Try.size35 HL.out ?_)
        | (refine wpList_storeA rfl 35 _ _ rfl (w.heap.size + 1) (nI s.bytes) rfl rfl HA2.out Try.size35 (by decide +kernel) HL.out ?_))
      exact bodyPost_ret (resA rfl _ _ (w.heap.size + 1) rfl (HA2.out.whole _) Try.underlying35 Try.size35 HL.out) rfl ⟨rfl, below_setRow HB.out (by omega) _⟩
set_option maxHeartbeats 800000 in
theorem block14_no (s : S8) (a : Option Addr) (len cap : Nat) (w : World) (hne : len ≠ 128) : Calls Try.prog 13 #[.agg ((nI s.list).map (Value.int .u64)).toArray, .slice a len cap] w fun e w' => e = .returned (.tuple #[.agg ((nI (List.replicate 8 0)).map (Value.int .u64)).toArray, .int .i64 1]) ∧ Below w.heap.size w w' := by
  generalize ((nI s.list).map (Value.int .u64)).toArray = X0
  have hq : ((len : Int) != 128) = true := by simp; omega
  have A4 := Arr.new (w.alloc (.cells X0 26)) 26 .u64 (nI (List.replicate 8 0)) _ rfl
  have z1 : (w.alloc (.cells X0 26)).heap.size = w.heap.size + 1 := by simp
  rw [z1] at A4
  have q1 := below_two w (.cells X0 26) (.cells ((nI (List.replicate 8 0)).map (Value.int .u64)).toArray 26)
  go_enter Try.func13, Try.ntmps13
  go_wp2_with (refine wpList_storeA rfl 26 _ _ rfl (w.heap.size + 1) (nI (List.replicate 8 0)) rfl rfl A4 Try.size26 (by decide +kernel) (by decide +kernel) ?_)
  exact bodyPost_ret (resA2 rfl _ _ (w.heap.size + 1) rfl (A4.whole _) Try.underlying26 Try.size26 (by decide +kernel)) rfl ⟨rfl, below_setRow q1 (by omega) _⟩
set_option maxHeartbeats 1600000 in
theorem block14_gen (K : List Nat) (hK : K.length = 80) (hKl : ∀ x ∈ K, x < 18446744073709551616) (hR : ∀ w, Calls Try.prog 9 #[] w fun e w' => e = .returned (.agg ((nI K).map (Value.int .u64)).toArray) ∧ Below w.heap.size w w')
    (s : S8) (z : List Nat) (a : Option Addr) (cap : Nat) (w : World) (hs : s.Ok) (hr : Row .u8 w a 128 cap (nI z)) (hz : ∀ x ∈ z, x < 256) : Calls Try.prog 13 #[.agg ((nI s.list).map (Value.int .u64)).toArray, .slice a 128 cap] w fun e w' => e = .returned (.tuple #[.agg ((nI (mixL K s z).list).map (Value.int .u64)).toArray, .int .i64 0]) ∧ Below w.heap.size w w' := by
  have HK : Hid ((nI K).length = 80) := by show _ = _; rw [nI_length]; exact hK
  have HKl : Hid (K.length = 80 ∧ ∀ x ∈ K, x < 18446744073709551616) := ⟨hK, hKl⟩
  clear hK hKl
  generalize hX0 : ((nI s.list).map (Value.int .u64)).toArray = X0
  have HX0 : Hid (((nI s.list).map (Value.int .u64)).toArray = X0) := hX0
  clear hX0
  have A2 := (Arr.new w 26 .u64 (nI s.list) X0 HX0.out.symm).alloc (.cells ((nI (List.replicate 8 0)).map (Value.int .u64)).toArray 26)
  have A4 := Arr.new (w.alloc (.cells X0 26)) 26 .u64 (nI (List.replicate 8 0)) _ rfl
  have z1 : (w.alloc (.cells X0 26)).heap.size = w.heap.size + 1 := by simp
  have z2 : ((w.alloc (.cells X0 26)).alloc (.cells ((nI (List.replicate 8 0)).map (Value.int .u64)).toArray 26)).heap.size = w.heap.size + 2 := by simp
  rw [z1] at A4
  have q1 := below_two w (.cells X0 26) (.cells ((nI (List.replicate 8 0)).map (Value.int .u64)).toArray 26)
  have HL8 : Hid ((nI s.list).length = 8) := by show _ = _; rw [nI_length]; rfl
  have hz1 := Try.zeroValue24
  have hz2 := Try.zeroCells24_ne
  have hz3 := Try.zeroCells24_size
  go_enter Try.func13, Try.ntmps13
  go_wp2_with fail
  clear z1
  change Calls Try.prog _ _ ((w.alloc (.cells X0 26)).alloc (.cells ((nI (List.replicate 8 0)).map (Value.int .u64)).toArray 26)) _
  generalize (w.alloc (.cells X0 26)).alloc (.cells ((nI (List.replicate 8 0)).map (Value.int .u64)).toArray 26) = w1 at *
  refine (hR w1).mono ?_
  rintro e w2 ⟨rfl, q2⟩
  have hs2 := q2.size
  have q3 := (q1.trans (q2.mono (by omega))).alloc (by omega) (.cells Try.zeroCells24 24)
  replace A2 := (A2.below q2 (by omega)).alloc (.cells Try.zeroCells24 24)
  replace A4 := (A4.below q2 (by omega)).alloc (.cells Try.zeroCells24 24)
  have A6 := Arr.new w2 24 .u64 (nI (List.replicate 80 0)) _ zero80
  clear q1 q2 hR
  have B2 := A2.whole_other ((nI K).map (Value.int .u64)).toArray (show w.heap.size ≠ w2.heap.size by omega)
  go_wp2_with (first
    | (refine wpList_storeA rfl 24 _ _ rfl w2.heap.size (nI K) rfl rfl A6 Try.size24 (by decide +kernel) HK.out ?_)
    | (refine wpList_loadA rfl 26 _ rfl w.heap.size rfl B2 Try.underlying26 Try.size26 HL8.out ?_))
  replace A4 := A4.whole_other ((nI K).map (Value.int .u64)).toArray (show w.heap.size + 1 ≠ w2.heap.size by omega)
  replace A6 := A6.whole (nI K)
  replace q3 := below_setRow q3 (show w.heap.size ≤ w2.heap.size by omega) ((nI K).map (Value.int .u64)).toArray
  have hs3 : w2.heap.size < ((w2.alloc (.cells Try.zeroCells24 24)).setRow w2.heap.size ((nI K).map (Value.int .u64)).toArray).heap.size := by rw [size_setRow]; simp
  change Calls Try.prog _ _ ((w2.alloc (.cells Try.zeroCells24 24)).setRow w2.heap.size ((nI K).map (Value.int .u64)).toArray) _
  generalize (w2.alloc (.cells Try.zeroCells24 24)).setRow w2.heap.size ((nI K).map (Value.int .u64)).toArray = w3 at *
  have HR : w3.rangeAt w2.heap.size 0 ((nI K).map (Value.int .u64)) := fun j v hv => by
    rw [cell_of_row w3 _ _ _ _ _ A6, Nat.zero_add, List.getElem?_toArray]; exact hv
  refine (mix_any s K z a cap w3 hs HKl.out.1 HKl.out.2 w2.heap.size hs3 HR (hr.below q3 (Nat.le_refl _)) hz).mono ?_
  rintro e w4 ⟨rfl, q4⟩
  replace A4 := A4.below q4 (by omega)
  replace q4 := q3.trans (q4.mono (by omega))
  have HL : Hid ((nI (mixL K s z).list).length = 8) := by show _ = _; rw [nI_length]; rfl
  go_wp2_with (refine wpList_storeA rfl 26 _ _ rfl (w.heap.size + 1) (nI (mixL K s z).list) rfl rfl A4 Try.size26 (by decide +kernel) HL.out ?_)
  exact bodyPost_ret (resA2 rfl _ _ (w.heap.size + 1) rfl (A4.whole _) Try.underlying26 Try.size26 HL.out) rfl ⟨rfl, below_setRow q4 (by omega) _⟩
theorem block14_yes (s : S8) (z : List Nat) (a : Option Addr) (cap : Nat) (w : World) (hs : s.Ok) (hr : Row .u8 w a 128 cap (nI z)) (hz : ∀ x ∈ z, x < 256) : Calls Try.prog 13 #[.agg ((nI s.list).map (Value.int .u64)).toArray, .slice a 128 cap] w fun e w' => e = .returned (.tuple #[.agg ((nI (mixL KL s z).list).map (Value.int .u64)).toArray, .int .i64 0]) ∧ Below w.heap.size w w' :=
  block14_gen KL KL_length KL_lt rounds_any s z a cap w hs hr hz
end Go.Proofs.Ythcnnglpncblaaa.B
