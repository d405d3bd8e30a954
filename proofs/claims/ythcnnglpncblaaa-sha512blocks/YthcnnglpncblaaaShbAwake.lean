/-
  Layer 14: awake: the chapter's examples.
-/
import Derived.Test.YthcnnglpncblaaaShbHash4
import Derived.Lib.SlBytesConst
import Derived.Deep.CutRange
namespace Go.Proofs.Ythcnnglpncblaaa.B
open Go.RowKit
set_option linter.unusedVariables false
set_option maxRecDepth 8192

/-- One part, two, three, none. -/
theorem parts_none (w : World) : PartsAt w none 0 0 (fun _ => default) := ⟨Nat.le_refl _, Nat.zero_le _, fun h => absurd h (by omega)⟩
def two (p q : PartV) : Nat → PartV := fun i => if i = 0 then p else q
def three (p q r : PartV) : Nat → PartV := fun i => if i = 0 then p else if i = 1 then q else r
/-- A part as it lies in a cell. -/
structure PartIn (w : World) (c i : Nat) (a : Option Addr) (len cap : Nat) (z : List Nat) : Prop where
  cell : w.cell? ⟨c, i, none⟩ = some (.slice a len cap)
  row : Row .u8 w a len cap (nI z)
  lt : ∀ x ∈ z, x < 256
  few : z.length ≤ 100000
theorem parts_one {w : World} {c : Nat} {a : Option Addr} {len cap : Nat} {z : List Nat} (hc : c < w.heap.size) (h : PartIn w c 0 a len cap z) : PartsAt w (some ⟨c, 0, none⟩) 1 1 (fun _ => ⟨a, len, cap, z⟩) := by
  refine ⟨Nat.le_refl _, by decide, fun _ => ⟨c, 0, rfl, hc, fun i hi => ?_⟩⟩
  obtain rfl : i = 0 := by omega
  exact ⟨h.cell, h.row, h.lt⟩
theorem parts_two {w : World} {c : Nat} {a a' : Option Addr} {len cap len' cap' : Nat} {z z' : List Nat} (hc : c < w.heap.size) (h : PartIn w c 0 a len cap z) (h' : PartIn w c 1 a' len' cap' z') : PartsAt w (some ⟨c, 0, none⟩) 2 2 (two ⟨a, len, cap, z⟩ ⟨a', len', cap', z'⟩) := by
  refine ⟨Nat.le_refl _, by decide, fun _ => ⟨c, 0, rfl, hc, fun i hi => ?_⟩⟩
  rcases (show i = 0 ∨ i = 1 by omega) with rfl | rfl
  · exact ⟨h.cell, h.row, h.lt⟩
  · exact ⟨h'.cell, h'.row, h'.lt⟩
theorem parts_three {w : World} {c : Nat} {a a' a'' : Option Addr} {len cap len' cap' len'' cap'' : Nat} {z z' z'' : List Nat} (hc : c < w.heap.size) (h : PartIn w c 0 a len cap z) (h' : PartIn w c 1 a' len' cap' z') (h'' : PartIn w c 2 a'' len'' cap'' z'') : PartsAt w (some ⟨c, 0, none⟩) 3 3 (three ⟨a, len, cap, z⟩ ⟨a', len', cap', z'⟩ ⟨a'', len'', cap'', z''⟩) := by
  refine ⟨Nat.le_refl _, by decide, fun _ => ⟨c, 0, rfl, hc, fun i hi => ?_⟩⟩
  rcases (show i = 0 ∨ i = 1 ∨ i = 2 by omega) with rfl | rfl | rfl
  · exact ⟨h.cell, h.row, h.lt⟩
  · exact ⟨h'.cell, h'.row, h'.lt⟩
  · exact ⟨h''.cell, h''.row, h''.lt⟩
theorem cat_one (p : PartV) : catTo (fun _ => p) 1 = p.num := rfl
theorem cat_two (p q : PartV) : catTo (two p q) 2 = p.num ++ q.num := rfl
theorem cat_three (p q r : PartV) : catTo (three p q r) 3 = p.num ++ q.num ++ r.num := rfl
theorem cat_none (R : Nat → PartV) : catTo R 0 = [] := rfl
theorem sum14_none (w : World) : Calls Try.prog 15 #[.slice none 0 0] w fun e w' => e = .returned (.agg ((nI (sumL KL S0 [])).map (Value.int .u8)).toArray) ∧ Below w.heap.size w w' := by
  have h := sum14_any _ w none 0 0 (parts_none w) (by rw [cat_none]; decide)
  rw [cat_none] at h
  exact h
theorem sum14_one (w : World) (c : Nat) (a : Option Addr) (len cap : Nat) (z : List Nat) (hc : c < w.heap.size) (h : PartIn w c 0 a len cap z) :
    Calls Try.prog 15 #[.slice (some ⟨c, 0, none⟩) 1 1] w fun e w' => e = .returned (.agg ((nI (sumL KL S0 z)).map (Value.int .u8)).toArray) ∧ Below w.heap.size w w' := by
  have hs := sum14_any _ w _ 1 1 (parts_one hc h) (by rw [cat_one]; have := h.few; simp only; omega)
  rw [cat_one] at hs
  exact hs
theorem sum14_two (w : World) (c : Nat) (a a' : Option Addr) (len cap len' cap' : Nat) (z z' : List Nat) (hc : c < w.heap.size) (h : PartIn w c 0 a len cap z) (h' : PartIn w c 1 a' len' cap' z') :
    Calls Try.prog 15 #[.slice (some ⟨c, 0, none⟩) 2 2] w fun e w' => e = .returned (.agg ((nI (sumL KL S0 (z ++ z'))).map (Value.int .u8)).toArray) ∧ Below w.heap.size w w' := by
  have hs := sum14_any _ w _ 2 2 (parts_two hc h h') (by rw [cat_two]; have := h.few; have := h'.few; simp only [List.length_append]; omega)
  rw [cat_two] at hs
  exact hs
theorem sum14_three (w : World) (c : Nat) (a a' a'' : Option Addr) (len cap len' cap' len'' cap'' : Nat) (z z' z'' : List Nat) (hc : c < w.heap.size) (h : PartIn w c 0 a len cap z) (h' : PartIn w c 1 a' len' cap' z') (h'' : PartIn w c 2 a'' len'' cap'' z'') :
    Calls Try.prog 15 #[.slice (some ⟨c, 0, none⟩) 3 3] w fun e w' => e = .returned (.agg ((nI (sumL KL S0 (z ++ z' ++ z''))).map (Value.int .u8)).toArray) ∧ Below w.heap.size w w' := by
  have hs := sum14_any _ w _ 3 3 (parts_three hc h h' h'') (by rw [cat_three]; have := h.few; have := h'.few; have := h''.few; simp only [List.length_append]; omega)
  rw [cat_three] at hs
  exact hs
set_option maxHeartbeats 1600000 in
theorem awake_gen (sm K SS : List Nat) (h0 : sm[0]?.getD 0 = 221) (h1 : sm[1]?.getD 0 = 175) (h31 : sm[63]?.getD 0 = 159) (hl : sm.length = 64) (hK : K.length = 80) (hk0 : K[0]?.getD 0 = 4794697086780616226) (hS : SS.length = 8) (hs0 : SS[0]?.getD 0 = 7640891576956012808)
    (cSum : ∀ (w : World) (b c : Nat), Row .u8 w (some ⟨b, 0, none⟩) 3 3 (nI [97, 98, 99]) → c < w.heap.size → w.cell? ⟨c, 0, none⟩ = some (.slice (some ⟨b, 0, none⟩) 3 3) → Calls Try.prog 15 #[.slice (some ⟨c, 0, none⟩) 1 1] w fun e w' => e = .returned (.agg ((nI sm).map (Value.int .u8)).toArray) ∧ Below w.heap.size w w')
    (cSt : ∀ w, Calls Try.prog 11 #[] w fun e w' => e = .returned (.agg ((nI SS).map (Value.int .u64)).toArray) ∧ Below w.heap.size w w')
    (cR : ∀ w, Calls Try.prog 9 #[] w fun e w' => e = .returned (.agg ((nI K).map (Value.int .u64)).toArray) ∧ Below w.heap.size w w')
    (w : World) : Calls Try.prog 8 #[] w fun e w' => e = .returned (.bool true) ∧ Below w.heap.size w w' := by
  have HL : Hid ((nI sm).length = 64) := by show _ = _; rw [nI_length, hl]
  have HK : Hid ((nI K).length = 80) := by show _ = _; rw [nI_length, hK]
  have HS : Hid ((nI SS).length = 8) := by show _ = _; rw [nI_length, hS]
  have HV : Hid (sm[0]?.getD 0 = 221 ∧ sm[1]?.getD 0 = 175 ∧ sm[63]?.getD 0 = 159 ∧ K[0]?.getD 0 = 4794697086780616226 ∧ SS[0]?.getD 0 = 7640891576956012808) := ⟨h0, h1, h31, hk0, hs0⟩
  clear h0 h1 h31 hl hK hk0 hS hs0
  have r0 : Row .u8 (w.alloc (.cells #[.int .u8 97, .int .u8 98, .int .u8 99] 5 (3, 4))) (some ⟨w.heap.size, 0, none⟩) 3 3 (nI [97, 98, 99]) := by
    refine ⟨rfl, Nat.le_refl _, by decide, by simp, fun _ => ⟨w.heap.size, 0, rfl, by simp, fun i hi => ?_⟩⟩
    rw [cell_of_row _ _ _ _ _ _ (heap_alloc_last w _)]
    rcases (show i = 0 ∨ i = 1 ∨ i = 2 by omega) with rfl | rfl | rfl <;> rfl
  have q0 := below_one w (.cells #[.int .u8 97, .int .u8 98, .int .u8 99] 5 (3, 4))
  have kc := fun (w : World) (C : Array Value) (n c : Nat) => Lib.run_convert_bytes_const (P := Try.prog) w 29 5 C n c Try.underlying29 Try.underlying5
  have hz1 := Try.zeroValue24
  have hz2 := Try.zeroCells24_ne
  have hz3 := Try.zeroCells24_size
  go_enter Try.func8, Try.ntmps8
  go_wp2_with fail
  have q00 := below_one (w.alloc (.cells #[.int .u8 97, .int .u8 98, .int .u8 99] 5 (3, 4))) (.cells #[.slice (some ⟨w.heap.size, 0, none⟩) 3 3] 29)
  replace r0 := r0.below q00 (Nat.le_refl _)
  replace q0 := q0.trans (q00.mono q0.size)
  refine (cSum _ w.heap.size (w.heap.size + 1) r0 (by simp) ?cc).mono ?_
  case cc => rw [World.cell?_alloc_at _ _ _ _ (by simp)]; rfl
  rintro e w1 ⟨rfl, q1⟩
  replace q1 : Below w.heap.size w w1 := q0.trans (q1.mono q0.size)
  clear r0 q0 q00 cSum
  have s1 := q1.size
  have A1 := Arr.new w1 35 .u8 (nI (List.replicate 64 0)) _ rfl
  go_wp2_with (refine wpList_storeA rfl 35 _ _ rfl w1.heap.size (nI sm) rfl rfl A1 Try.size35 (by decide +kernel) HL.out ?_)
  replace A1 := A1.whole (nI sm)
  replace q1 := below_setRow (q1.alloc s1 (.cells ((nI (List.replicate 64 0)).map (Value.int .u8)).toArray 35)) s1 ((nI sm).map (Value.int .u8)).toArray
  change Calls Try.prog _ _ ((w1.alloc (.cells ((nI (List.replicate 64 0)).map (Value.int .u8)).toArray 35)).setRow w1.heap.size ((nI sm).map (Value.int .u8)).toArray) _
  generalize (w1.alloc (.cells ((nI (List.replicate 64 0)).map (Value.int .u8)).toArray 35)).setRow w1.heap.size ((nI sm).map (Value.int .u8)).toArray = w2 at *
  generalize w1.heap.size = g1 at *
  refine (cSt _).mono ?_
  rintro e w3 ⟨rfl, q3⟩
  replace A1 := A1.below q3 A1.lt
  replace q1 := q1.trans (q3.mono q1.size)
  clear q3 cSt
  have s3 := q1.size
  have A2 := Arr.new w3 26 .u64 (nI (List.replicate 8 0)) _ rfl
  have hg1 := A1.lt
  go_wp2_with (refine wpList_storeA rfl 26 _ _ rfl w3.heap.size (nI SS) rfl rfl A2 Try.size26 (by decide +kernel) HS.out ?_)
  replace A2 := A2.whole (nI SS)
  replace A1 := (A1.alloc (.cells ((nI (List.replicate 8 0)).map (Value.int .u64)).toArray 26)).whole_other ((nI SS).map (Value.int .u64)).toArray (show g1 ≠ w3.heap.size by omega)
  replace q1 := below_setRow (q1.alloc s3 (.cells ((nI (List.replicate 8 0)).map (Value.int .u64)).toArray 26)) s3 ((nI SS).map (Value.int .u64)).toArray
  change Calls Try.prog _ _ ((w3.alloc (.cells ((nI (List.replicate 8 0)).map (Value.int .u64)).toArray 26)).setRow w3.heap.size ((nI SS).map (Value.int .u64)).toArray) _
  generalize (w3.alloc (.cells ((nI (List.replicate 8 0)).map (Value.int .u64)).toArray 26)).setRow w3.heap.size ((nI SS).map (Value.int .u64)).toArray = w4 at *
  generalize w3.heap.size = g2 at *
  refine (cR _).mono ?_
  rintro e w5 ⟨rfl, q5⟩
  replace A1 := A1.below q5 A1.lt
  replace A2 := A2.below q5 A2.lt
  replace q1 := q1.trans (q5.mono q1.size)
  clear q5 cR
  have s5 := q1.size
  have A3 := Arr.new w5 24 .u64 (nI (List.replicate 80 0)) _ zero80
  have l1 := A1.lt
  have l2 := A2.lt
  have B1 := (A1.alloc (.cells Try.zeroCells24 24)).whole_other ((nI K).map (Value.int .u64)).toArray (show g1 ≠ w5.heap.size by omega)
  have B2 := (A2.alloc (.cells Try.zeroCells24 24)).whole_other ((nI K).map (Value.int .u64)).toArray (show g2 ≠ w5.heap.size by omega)
  have B3 := A3.whole (nI K)
  have qE := below_setRow (q1.alloc s5 (.cells Try.zeroCells24 24)) s5 ((nI K).map (Value.int .u64)).toArray
  obtain ⟨v0, v1, v31, vk, vs⟩ := HV.out
  have c0 := B1.cell 0 (by rw [HL.out]; decide)
  have c1 := B1.cell 1 (by rw [HL.out]; decide)
  have c31 := B1.cell 63 (by rw [HL.out]; decide)
  have cs := B2.cell 0 (by rw [HS.out]; decide)
  have ck := B3.cell 0 (by rw [HK.out]; decide)
  rw [nI_get, v0, show ((221 : Nat) : Int) = 221 from rfl] at c0
  rw [nI_get, v1, show ((175 : Nat) : Int) = 175 from rfl] at c1
  rw [nI_get, v31, show ((159 : Nat) : Int) = 159 from rfl] at c31
  rw [nI_get, vk, show ((4794697086780616226 : Nat) : Int) = 4794697086780616226 from rfl] at ck
  rw [nI_get, vs, show ((7640891576956012808 : Nat) : Int) = 7640891576956012808 from rfl] at cs
  clear v0 v1 v31 vk vs
  go_upto_region 4 with (refine wpList_storeA rfl 24 _ _ rfl w5.heap.size (nI K) rfl rfl A3 Try.size24 (by decide +kernel) HK.out ?_)
  rw [show ∀ a : Act, a.put none undef = a from fun _ => rfl]
  change Code.wp _ _ _ _ ((w5.alloc (.cells Try.zeroCells24 24)).setRow w5.heap.size ((nI K).map (Value.int .u64)).toArray)
  generalize (w5.alloc (.cells Try.zeroCells24 24)).setRow w5.heap.size ((nI K).map (Value.int .u64)).toArray = w6 at *
  clear A1 A2 A3 B1 B2 B3
  go_wp2
  go_ret
  exact ⟨rfl, qE⟩
theorem KL_first : KL[0]?.getD 0 = 4794697086780616226 := by decide +kernel
theorem SL_first : SL[0]?.getD 0 = 7640891576956012808 := by decide +kernel
theorem SL_length : SL.length = 8 := by decide +kernel
theorem awake14_any (w : World) : Calls Try.prog 8 #[] w fun e w' => e = .returned (.bool true) ∧ Below w.heap.size w w' :=
  awake_gen (sumL KL S0 [97, 98, 99]) KL SL abc_sum.1 abc_sum.2.1 abc_sum.2.2 rfl KL_length KL_first SL_length SL_first
    (fun w b c hr hc he => sum14_one w c (some ⟨b, 0, none⟩) 3 3 [97, 98, 99] hc ⟨he, hr, by decide, by decide⟩) start_any rounds_any w
end Go.Proofs.Ythcnnglpncblaaa.B
