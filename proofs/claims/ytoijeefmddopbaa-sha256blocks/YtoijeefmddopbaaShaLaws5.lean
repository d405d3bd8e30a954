/-
  Layer 13's laws: the walk of Sha256Blocks. (Written by tools/gen/sha_blocks.py.)
-/
import Derived.Test.YtoijeefmddopbaaShaEq
import Derived.Test.YtoijeefmddopbaaShaLaws
namespace Go.Proofs.Ytoijeefmddopbaa
open Go.RowKit
set_option linter.unusedVariables false
set_option maxRecDepth 8192

set_option maxHeartbeats 6400000 in
theorem walk_blocks_gen (K : List Nat) (hKl : ∀ x ∈ K, x < 4294967296)
    (cN : ∀ (s : S8) (a : Option Addr) (len cap : Nat) (w : World), len ≠ 64 → Calls Try.prog 19 #[.agg ((nI s.list).map (Value.int .u32)).toArray, .slice a len cap] w fun e w' => e = .returned (.tuple #[.agg ((nI (List.replicate 8 0)).map (Value.int .u32)).toArray, .int .i64 1]) ∧ Below w.heap.size w w')
    (cB : ∀ (s : S8) (z : List Nat) (a : Option Addr) (cap : Nat) (w : World), s.Ok → Row .u8 w a 64 cap (nI z) → (∀ x ∈ z, x < 256) → Calls Try.prog 19 #[.agg ((nI s.list).map (Value.int .u32)).toArray, .slice a 64 cap] w fun e w' => e = .returned (.tuple #[.agg ((nI (mixL K s z).list).map (Value.int .u32)).toArray, .int .i64 0]) ∧ Below w.heap.size w w')
    (hR : ∀ w, Calls Try.prog 16 #[] w fun e w' => ∃ v, e = .returned v ∧ w'.ownsRow w.heap.size 3 1 v 64 ((nI K).map (Value.int .i64)) ∧ Below w.heap.size w w')
    (s : S8) (hs : s.Ok) (z : List Nat) (a : Option Addr) (len cap : Nat) (w : World) (hr : Row .u8 w a len cap (nI z)) (hz : ∀ x ∈ z, x < 256) :
    Calls Try.prog 5 #[.agg ((nI s.list).map (Value.int .u32)).toArray, .slice a len cap] w fun e w' => e = .returned (.bool true) ∧ Below w.heap.size w w' := by
  generalize hX0 : ((nI s.list).map (Value.int .u32)).toArray = X0
  have A2 : Arr (w.alloc (.cells X0 30)) w.heap.size 30 .u32 (nI s.list) := Arr.new w 30 .u32 (nI s.list) X0 hX0.symm
  have HX : Hid (((nI s.list).map (Value.int .u32)).toArray = X0) := hX0
  clear hX0
  have HLs : Hid ((nI s.list).length = 8) := by show _ = _; rw [nI_length]; rfl
  by_cases hbig : 200 < len
  · go_enter Try.func5, Try.ntmps5
    go_wp2
    go_ret
    exact ⟨rfl, below_one w _⟩
  have hsm : len ≤ 200 := by omega
  have q0 : Below w.heap.size w (w.alloc (.cells X0 30)) := below_one w _
  by_cases hne : len = 64
  · subst hne
    have HLn : Hid ((nI (mixL K s z).list).length = 8) := by show _ = _; rw [nI_length]; rfl
    have c1 := cB s z a cap (w.alloc (.cells X0 30)) hs (hr.below q0 (Nat.le_refl _)) hz
    have HOKn : Hid ((mixL K s z).Ok) := S8.plus_ok _ _
    have cRef : ∀ (aK aS : Option Addr) (cK cS : Nat) (w' : World), Row .i64 w' aK 64 cK (nI K) → Row .i64 w' aS 8 cS (nI s.list) → Row .u8 w' a 64 cap (nI z) → Calls Try.prog 20 #[.slice aK 64 cK, .slice aS 8 cS, .slice a 64 cap] w' fun e w'' => ∃ v, e = .returned v ∧ w''.ownsRow w'.heap.size 3 1 v 8 ((nI (mixL K s z).list).map (Value.int .i64)) ∧ Below w'.heap.size w' w'' := fun aK aS cK cS w' h1 h2 h3 => refBlock13 K s z aK aS a cK cS cap w' hs hKl h1 h2 h3 hz
    obtain ⟨i0, hi0, hz0, hz1, hz2⟩ := info_parts Try.info3
    generalize (mixL K s z) = sn at *
    clear cN cB
    go_enter Try.func5, Try.ntmps5
    go_wp2_with (refine wpList_loadA rfl 30 _ rfl w.heap.size rfl A2 Try.underlying30 Try.size30 HLs.out ?_)
    refine c1.mono ?_
    rintro e w1 ⟨rfl, q1⟩
    have z0 : (w.alloc (.cells X0 30)).heap.size = w.heap.size + 1 := by simp
    have s1 : w.heap.size < w1.heap.size := by have := q1.size; omega
    replace A2 := A2.below q1 (by omega)
    replace q1 : Below w.heap.size w w1 := q0.trans (q1.mono (by omega))
    clear q0 z0 c1
    replace s1 : w.heap.size ≤ w1.heap.size ∧ w.heap.size ≠ w1.heap.size := ⟨by omega, by omega⟩
    obtain ⟨s1, n1⟩ := s1
    have A5 := Arr.new w1 30 .u32 (nI (List.replicate 8 0)) _ rfl
    go_wp2_with (refine wpList_storeA rfl 30 _ _ rfl w1.heap.size (nI sn.list) rfl rfl A5 Try.size30 (by decide +kernel) HLn.out ?_)
    have HA5 : Hid (Arr _ w1.heap.size 30 .u32 (nI sn.list)) := A5.whole (nI sn.list)
    have HA2 : Hid (Arr _ w.heap.size 30 .u32 (nI s.list)) := (A2.alloc (.cells ((nI (List.replicate 8 0)).map (Value.int .u32)).toArray 30)).whole_other ((nI sn.list).map (Value.int .u32)).toArray (show w.heap.size ≠ w1.heap.size by omega)
    have HB : Hid (Below w.heap.size w _) := below_setRow (q1.alloc s1 (.cells ((nI (List.replicate 8 0)).map (Value.int .u32)).toArray 30)) s1 ((nI sn.list).map (Value.int .u32)).toArray
    have h5 : w1.heap.size < ((w1.alloc (.cells ((nI (List.replicate 8 0)).map (Value.int .u32)).toArray 30)).setRow w1.heap.size ((nI sn.list).map (Value.int .u32)).toArray).heap.size := by rw [size_setRow]; simp
    clear A5 A2 q1
    change Code.wp _ _ _ _ ((w1.alloc (.cells ((nI (List.replicate 8 0)).map (Value.int .u32)).toArray 30)).setRow w1.heap.size ((nI sn.list).map (Value.int .u32)).toArray)
    generalize (w1.alloc (.cells ((nI (List.replicate 8 0)).map (Value.int .u32)).toArray 30)).setRow w1.heap.size ((nI sn.list).map (Value.int .u32)).toArray = w2 at *
    generalize hg5 : w1.heap.size = g5 at *
    clear hg5
    have hrr := hr.below HB.out (Nat.le_refl _)
    have lA2 := HA2.out.lt
    have HLR : Hid (w2.heap.size ≤ w2.heap.size) := Nat.le_refl _
    go_wp2
    go_loopw [7, 8] (fun v y wr => ∃ i : Nat, i ≤ 8 ∧ y = .int .i64 (i : Int) ∧ Hid (wr.ownsRow w2.heap.size 3 1 v i ((nI (s.list.take i)).map (Value.int .i64))) ∧ Hid (Below w2.heap.size w2 wr)) (fun _ y _ => 8 - (intOf y).toNat)
    case atStart => exact ⟨0, by omega, rfl, World.ownsRow_nil _ _ _ _, Below.refl _ _⟩
    case round =>
      obtain ⟨i, hi, rfl, HO, HB2⟩ := hrel
      have hown := HO.out
      have sr := HB2.out.size
      by_cases h8 : i < 8
      · have x0 := (HA2.out.below HB2.out lA2).cell i (by rw [HLs.out]; exact h8)
        rw [nI_get] at x0
        have hxl := list8_lt hs i
        have HT : Hid (s.list.take (i + 1) = s.list.take i ++ [s.list[i]?.getD 0]) := by
          show _ = _
          rw [take_snocN _ _ (by show i < 8; exact h8)]
        generalize s.list[i]?.getD 0 = x at *
        have hiI : (i : Int) < 8 := by omega
        have hwx : IntKind.i64.wrap (x : Int) = (x : Int) := by rw [IntKind.wrap_i64]; omega
        go_wp2_with (at_builtin; refine wpList_append_own _ rfl _ _ 22 rfl _ 3 i0 (.int .i64 0) 1 8 Try.underlying22 hi0 hz0 hz1 hz2 rfl (by decide) _ _ _ rfl (hown.alloc _) ⟨_, 0, none⟩ 1 1 [.int .i64 (x : Int)] rfl rfl (cell_one_new _ _ _) (by intro u hu; simp at hu; subst hu; rfl) (by unfold maxLen; omega) (by omega) (by simp; omega) ?_)
        intro v' w3 hown' hgrow _
        have R := rel_push sr hown HB2.out hown' hgrow
        rw [← nI_snoc, ← HT.out] at R
        clear hown' hgrow
        go_wp2
        go_roundw
        case rel => exact ⟨i + 1, by omega, by go_num, R.1, R.2⟩
        case measure => simp [intOf]; omega
      · obtain rfl : i = 8 := by omega
        rw [show s.list.take 8 = s.list from rfl] at hown
        obtain ⟨aL, cL, rfl, rL⟩ := row_of_owns hown
        obtain ⟨wL, hwL⟩ : ∃ x, x = wr := ⟨_, rfl⟩
        subst hwL
        have HBL := HB2
        clear HO hown HB2
        go_wp2_with fail
        refine (hR _).mono ?_
        rintro e w4 ⟨v4, rfl, own4, q4⟩
        obtain ⟨aK, cK, rfl, rK⟩ := row_of_owns own4
        clear own4 hR
        have s4 := q4.size
        have HB4 : Hid (Below w2.heap.size w2 w4) := HBL.out.trans (q4.mono sr)
        go_wp2_with fail
        refine (cRef aK aL cK cL w4 rK (rL.below q4 (Nat.le_refl _)) (hrr.below HB4.out HLR.out)).mono ?_
        rintro e w5 ⟨v5, rfl, own5, q5⟩
        obtain ⟨aN, cN', rfl, rN⟩ := row_of_owns own5
        clear own5 rK rL cRef q4
        have s5 := q5.size
        have HB5 : Hid (Below w2.heap.size w2 w5) := HB4.out.trans (q5.mono (by omega))
        have C5 : Hid (Arr w5 g5 30 .u32 (nI sn.list)) := HA5.out.below HB5.out h5
        have QF : Hid (Below w.heap.size w w5) := HB.out.trans (HB5.out.mono HB.out.size)
        have RN : Hid (Row .i64 w5 aN 8 cN' (nI sn.list)) := rN
        clear HB4 HBL HB HA2 HA5 rN q5 HB5
        go_wp2
        go_loopw [10] (fun y wr => ∃ i : Nat, i ≤ 8 ∧ y = .int .i64 (i : Int) ∧ Hid (Below w5.heap.size w5 wr)) (fun y _ => 8 - (intOf y).toNat)
        case atStart => exact ⟨0, by omega, rfl, Below.refl _ _⟩
        case round =>
          obtain ⟨i, hi, rfl, HBr⟩ := hrel
          by_cases h8 : i < 8
          · have x0 := (C5.out.below HBr.out C5.out.lt).cell i (by rw [HLn.out]; exact h8)
            rw [nI_get] at x0
            obtain ⟨bN, oN, rfl, hbN, hcN⟩ := (RN.out.below HBr.out (Nat.le_refl _)).hcell (by decide)
            have x1 := hcN i (by omega)
            rw [nI_get] at x1
            clear hcN
            have hxl := list8_lt HOKn.out i
            generalize sn.list[i]?.getD 0 = x at *
            have hwx : IntKind.i64.wrap (x : Int) = (x : Int) := by rw [IntKind.wrap_i64]; omega
            have hiI : (i : Int) < 8 := by omega
            go_wp2_with fail
            go_quiet (fail)
            go_wp2
            go_roundw
            case rel => exact ⟨i + 1, by omega, by go_num, below_drewN HBr.out _⟩
            case measure => simp [intOf]; omega
          · obtain rfl : i = 8 := by omega
            go_wp2_with fail
            refine (awake13_any _).mono ?_
            rintro e wz ⟨rfl, qz⟩
            have QZ := (QF.out.trans (HBr.out.mono QF.out.size))
            go_wp2
            go_ret
            exact ⟨rfl, QZ.trans (qz.mono QZ.size)⟩
  · have hne' : ((len : Int) != 64) = true := by simp; omega
    have hneI : ¬ (len : Int) = 64 := by omega
    have HLn : Hid ((nI (List.replicate 8 0)).length = 8) := by show _ = _; rfl
    have c1 := cN s a len cap (w.alloc (.cells X0 30)) hne
    clear cN cB hR
    go_enter Try.func5, Try.ntmps5
    go_wp2_with (refine wpList_loadA rfl 30 _ rfl w.heap.size rfl A2 Try.underlying30 Try.size30 HLs.out ?_)
    refine c1.mono ?_
    rintro e w1 ⟨rfl, q1⟩
    have z0 : (w.alloc (.cells X0 30)).heap.size = w.heap.size + 1 := by simp
    have s1 : w.heap.size < w1.heap.size := by have := q1.size; omega
    replace A2 := A2.below q1 (by omega)
    replace q1 : Below w.heap.size w w1 := q0.trans (q1.mono (by omega))
    clear q0 z0 c1
    replace s1 : w.heap.size ≤ w1.heap.size ∧ w.heap.size ≠ w1.heap.size := ⟨by omega, by omega⟩
    obtain ⟨s1, n1⟩ := s1
    have A5 := Arr.new w1 30 .u32 (nI (List.replicate 8 0)) _ rfl
    go_wp2_with (refine wpList_storeA rfl 30 _ _ rfl w1.heap.size (nI (List.replicate 8 0)) rfl rfl A5 Try.size30 (by decide +kernel) HLn.out ?_)
    have HA5 : Hid (Arr _ w1.heap.size 30 .u32 (nI (List.replicate 8 0))) := A5.whole (nI (List.replicate 8 0))
    have HA2 : Hid (Arr _ w.heap.size 30 .u32 (nI s.list)) := (A2.alloc (.cells ((nI (List.replicate 8 0)).map (Value.int .u32)).toArray 30)).whole_other ((nI (List.replicate 8 0)).map (Value.int .u32)).toArray (show w.heap.size ≠ w1.heap.size by omega)
    have HB : Hid (Below w.heap.size w _) := below_setRow (q1.alloc s1 (.cells ((nI (List.replicate 8 0)).map (Value.int .u32)).toArray 30)) s1 ((nI (List.replicate 8 0)).map (Value.int .u32)).toArray
    have h5 : w1.heap.size < ((w1.alloc (.cells ((nI (List.replicate 8 0)).map (Value.int .u32)).toArray 30)).setRow w1.heap.size ((nI (List.replicate 8 0)).map (Value.int .u32)).toArray).heap.size := by rw [size_setRow]; simp
    clear A5 A2 q1
    change Calls Try.prog _ _ ((w1.alloc (.cells ((nI (List.replicate 8 0)).map (Value.int .u32)).toArray 30)).setRow w1.heap.size ((nI (List.replicate 8 0)).map (Value.int .u32)).toArray) _
    generalize (w1.alloc (.cells ((nI (List.replicate 8 0)).map (Value.int .u32)).toArray 30)).setRow w1.heap.size ((nI (List.replicate 8 0)).map (Value.int .u32)).toArray = w2 at *
    generalize hg5 : w1.heap.size = g5 at *
    clear hg5
    refine (awake13_any _).mono ?_
    rintro e w3 ⟨rfl, q3⟩
    have A5 := HA5.out.below q3 h5
    have QZ := HB.out.trans (q3.mono HB.out.size)
    go_wp2_with (first
      | (refine wpList_exec (by rfl) (exec_loadA 30 _ rfl g5 rfl A5 Try.underlying30 Try.size30 HLn.out) ?_)
      | (refine wpList_exec (by rfl) (exec_eqlA 30 30 _ _ rfl (nI (List.replicate 8 0)) rfl rfl Try.eqGuardType30 Try.underlying30 Try.underlying29 Try.one29 HLn.out) ?_))
    go_ret
    exact ⟨rfl, QZ⟩
theorem walk_Sha256Blocks (s : S8) (hs : s.Ok) (z : List Nat) (a : Option Addr) (len cap : Nat) (w : World) (hr : Row .u8 w a len cap (nI z)) (hz : ∀ x ∈ z, x < 256) :
    Calls Try.prog 5 #[.agg ((nI s.list).map (Value.int .u32)).toArray, .slice a len cap] w fun e w' => e = .returned (.bool true) ∧ Below w.heap.size w w' :=
  walk_blocks_gen KL KL_lt (fun s a len cap w h => block13_no s a len cap w h) (fun s z a cap w hs hr hz => block13_yes s z a cap w hs hr hz) refRounds13 s hs z a len cap w hr hz
end Go.Proofs.Ytoijeefmddopbaa
