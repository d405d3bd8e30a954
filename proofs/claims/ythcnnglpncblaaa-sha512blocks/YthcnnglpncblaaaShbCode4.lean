/-
  The code of layer 14 (sha512): mix.
-/
import Derived.Test.YthcnnglpncblaaaShbCode3
import Derived.Test.YthcnnglpncblaaaShaCode4
namespace Go.Proofs.Ythcnnglpncblaaa.B
open Go.RowKit
set_option linter.unusedVariables false
set_option maxRecDepth 8192

/-- A state whose first k words were added. -/
def plusTo (s q : S8) (k : Nat) : List Nat := (s.plus q).list.take k ++ s.list.drop k
theorem list8 (s : S8) : s.list.length = 8 := rfl
theorem not64 (e : Nat) (h : e < 18446744073709551616) : 18446744073709551615 ^^^ e = 18446744073709551615 - e := by
  have h1 : (~~~(BitVec.ofNat 64 e)).toNat = 18446744073709551615 - e := by
    rw [BitVec.toNat_not, BitVec.toNat_ofNat]
    omega
  rw [← h1, ← BitVec.allOnes_xor, BitVec.toNat_xor, BitVec.toNat_allOnes, BitVec.toNat_ofNat, Nat.mod_eq_of_lt (show e < 2 ^ 64 from h)]
theorem Try.one23 : (Try.prog.info? 23).map (·.size) = some 1 := by kernel_rfl
set_option maxHeartbeats 1600000 in
theorem mix_any (s : S8) (K z : List Nat) (a : Option Addr) (cap : Nat) (w : World) (hs : s.Ok) (hK : K.length = 80) (hKl : ∀ x ∈ K, x < 18446744073709551616) (gK : Nat) (hg : gK < w.heap.size) (hKr : w.rangeAt gK 0 ((nI K).map (Value.int .u64))) (hr : Row .u8 w a 128 cap (nI z)) (hz : ∀ x ∈ z, x < 256) :
    Calls Try.prog 25 #[.agg ((nI s.list).map (Value.int .u64)).toArray, .slice a 128 cap, .pointer (some ⟨gK, 0, none⟩)] w fun e w' => e = .returned (.agg ((nI (mixL K s z).list).map (Value.int .u64)).toArray) ∧ Below w.heap.size w w' := by
  have HZ : Hid (∀ x ∈ z, x < 256) := hz
  have HK : Hid (K.length = 80) := hK
  have HG : Hid (gK < w.heap.size) := hg
  have HKr : Hid (∀ i, i < 80 → w.cell? ⟨gK, i, none⟩ = some (.int .u64 ((K[i]?.getD 0 : Nat) : Int))) := fun i hi => by
    have := hKr i (.int .u64 ((K[i]?.getD 0 : Nat) : Int)) (by rw [List.getElem?_map, ← nI_get, List.getElem?_eq_getElem (show i < (nI K).length by rw [nI_length, hK]; exact hi)]; rfl)
    rwa [Nat.zero_add] at this
  have HKl : Hid (∀ x ∈ K, x < 18446744073709551616) := hKl
  clear hz hK hKl hg hKr
  generalize hX0 : ((nI s.list).map (Value.int .u64)).toArray = X0
  have hz1 := Try.zeroValue24
  have hz2 := Try.zeroCells24_ne
  have hz3 := Try.zeroCells24_size
  go_enter Try.func25, Try.ntmps25
  go_wp2_with fail
  have A3 := (Arr.new w 26 .u64 (nI s.list) X0 hX0.symm).alloc (.cells ((nI (List.replicate 8 0)).map (Value.int .u64)).toArray 26)
  have A6 := Arr.new (w.alloc (.cells X0 26)) 26 .u64 (nI (List.replicate 8 0)) _ rfl
  have q1 := below_two w (.cells X0 26) (.cells ((nI (List.replicate 8 0)).map (Value.int .u64)).toArray 26)
  have z1 : (w.alloc (.cells X0 26)).heap.size = w.heap.size + 1 := by simp
  have z3 : ((w.alloc (.cells X0 26)).alloc (.cells ((nI (List.replicate 8 0)).map (Value.int .u64)).toArray 26)).heap.size = w.heap.size + 1 + 1 := by simp
  rw [z1] at A6
  clear z1
  change Calls Try.prog _ _ ((w.alloc (.cells X0 26)).alloc (.cells ((nI (List.replicate 8 0)).map (Value.int .u64)).toArray 26)) _
  generalize (w.alloc (.cells X0 26)).alloc (.cells ((nI (List.replicate 8 0)).map (Value.int .u64)).toArray 26) = w1 at *
  refine (spread_any z a cap w1 (hr.below q1 (Nat.le_refl _)) HZ.out).mono ?_
  rintro e w2 ⟨rfl, q2⟩
  have hs2 := q2.size
  have q3 := (q1.trans (q2.mono (by omega))).alloc (by omega) (.cells Try.zeroCells24 24)
  replace A3 := (A3.below q2 (by omega)).alloc (.cells Try.zeroCells24 24)
  replace A6 := (A6.below q2 (by omega)).alloc (.cells Try.zeroCells24 24)
  have A7 := Arr.new w2 24 .u64 (nI (List.replicate 80 0)) _ zero80
  have HW : Hid ((nI (spreadL z)).length = 80) := by show _ = _; rw [nI_length, spreadL_length]
  have HS : Hid (∀ x ∈ spreadL z, x < 18446744073709551616) := spreadL_lt z HZ.out
  have HFin : Hid (∀ q, rndTo s K (spreadL z) 80 = q → mixL K s z = s.plus q) := fun q hq => by unfold mixL; rw [hq]
  generalize spreadL z = W at *
  clear q1 q2
  go_wp2_with (refine wpList_storeA rfl 24 _ _ rfl w2.heap.size (nI (W)) rfl rfl A7 Try.size24 (by decide +kernel) HW.out ?_)
  replace A3 := A3.whole_other ((nI (W)).map (Value.int .u64)).toArray (show w.heap.size ≠ w2.heap.size by omega)
  replace A6 := A6.whole_other ((nI (W)).map (Value.int .u64)).toArray (show w.heap.size + 1 ≠ w2.heap.size by omega)
  replace A7 := A7.whole (nI (W))
  replace q3 := below_setRow q3 (show w.heap.size ≤ w2.heap.size by omega) ((nI (W)).map (Value.int .u64)).toArray
  change Code.wp _ _ _ _ ((w2.alloc (.cells Try.zeroCells24 24)).setRow w2.heap.size ((nI (W)).map (Value.int .u64)).toArray)
  generalize (w2.alloc (.cells Try.zeroCells24 24)).setRow w2.heap.size ((nI (W)).map (Value.int .u64)).toArray = w3 at *
  clear hX0
  generalize hX7 : ((nI (W)).map (Value.int .u64)).toArray = X7
  clear hX7
  have c0 : w3.cell? ⟨w.heap.size, 0, none⟩ = some (.int .u64 (s.a : Int)) := A3.cell 0 (by rw [nI_length]; exact (by decide : 0 < 8))
  have c1 : w3.cell? ⟨w.heap.size, 1, none⟩ = some (.int .u64 (s.b : Int)) := A3.cell 1 (by rw [nI_length]; exact (by decide : 1 < 8))
  have c2 : w3.cell? ⟨w.heap.size, 2, none⟩ = some (.int .u64 (s.c : Int)) := A3.cell 2 (by rw [nI_length]; exact (by decide : 2 < 8))
  have c3 : w3.cell? ⟨w.heap.size, 3, none⟩ = some (.int .u64 (s.d : Int)) := A3.cell 3 (by rw [nI_length]; exact (by decide : 3 < 8))
  have c4 : w3.cell? ⟨w.heap.size, 4, none⟩ = some (.int .u64 (s.e : Int)) := A3.cell 4 (by rw [nI_length]; exact (by decide : 4 < 8))
  have c5 : w3.cell? ⟨w.heap.size, 5, none⟩ = some (.int .u64 (s.f : Int)) := A3.cell 5 (by rw [nI_length]; exact (by decide : 5 < 8))
  have c6 : w3.cell? ⟨w.heap.size, 6, none⟩ = some (.int .u64 (s.g : Int)) := A3.cell 6 (by rw [nI_length]; exact (by decide : 6 < 8))
  have c7 : w3.cell? ⟨w.heap.size, 7, none⟩ = some (.int .u64 (s.h : Int)) := A3.cell 7 (by rw [nI_length]; exact (by decide : 7 < 8))
  go_wp2_with fail
  go_quiet (fail)
  go_wp2_with fail
  go_quiet (fail)
  clear c0 c1 c2 c3 c4 c5 c6 c7
  go_wp2
  go_loopw [8, 9, 10, 11, 12, 13, 14, 15, 39] (fun x8 x9 x10 x11 x12 x13 x14 x15 y wr => ∃ k a b c d e f g h : Nat, k ≤ 80 ∧ y = .int .i64 (k : Int) ∧ Hid (rndTo s K (W) k = ⟨a, b, c, d, e, f, g, h⟩) ∧ x8 = .int .u64 (a : Int) ∧ x9 = .int .u64 (b : Int) ∧ x10 = .int .u64 (c : Int) ∧ x11 = .int .u64 (d : Int) ∧ x12 = .int .u64 (e : Int) ∧ x13 = .int .u64 (f : Int) ∧ x14 = .int .u64 (g : Int) ∧ x15 = .int .u64 (h : Int)
      ∧ Hid (Arr wr w.heap.size 26 .u64 (nI s.list)) ∧ Hid (Arr wr (w.heap.size + 1) 26 .u64 (nI (List.replicate 8 0))) ∧ Hid (Arr wr w2.heap.size 24 .u64 (nI (W))) ∧ Hid (Below w.heap.size w wr)) (fun _ _ _ _ _ _ _ _ y _ => 80 - (intOf y).toNat)
  case atStart => exact ⟨0, s.a, s.b, s.c, s.d, s.e, s.f, s.g, s.h, by omega, rfl, rfl, rfl, rfl, rfl, rfl, rfl, rfl, rfl, rfl, A3, A6, A7, belowN (belowN q3 _) _⟩
  case round =>
    clear A3 A6 A7 q3
    obtain ⟨k, a, b, c, d, e, f, g, h, hk, rfl, HQ, rfl, rfl, rfl, rfl, rfl, rfl, rfl, rfl, HA3, HA6, HA7, HB⟩ := hrel
    have hok := hs.to K (W) k
    rw [HQ.out] at hok
    obtain ⟨ba, bb, bc, bd, be, bf, bg, bh⟩ := hok
    dsimp only at ba bb bc bd be bf bg bh
    by_cases hlt : k < 80
    · have cK := (HB.out.cell (p := ⟨gK, k, none⟩) HG.out).trans (HKr.out k hlt)
      have cW := HA7.out.cell k (by rw [HW.out]; exact hlt)
      rw [nI_get] at cW
      have lK := getD_lt (by decide) HKl.out k
      have lW := getD_lt (by decide) HS.out k
      have HN : Hid (rndTo s K (W) (k + 1) = ⟨((h + (rr e 14 ^^^ rr e 18 ^^^ rr e 41) + ((e &&& f) ^^^ ((18446744073709551615 - e) &&& g)) + K[k]?.getD 0 + (W)[k]?.getD 0) + ((rr a 28 ^^^ rr a 34 ^^^ rr a 39) + ((a &&& b) ^^^ (a &&& c) ^^^ (b &&& c)))) % 18446744073709551616, a, b, c, (d + (h + (rr e 14 ^^^ rr e 18 ^^^ rr e 41) + ((e &&& f) ^^^ ((18446744073709551615 - e) &&& g)) + K[k]?.getD 0 + (W)[k]?.getD 0)) % 18446744073709551616, e, f, g⟩) := by
        show (rndTo s K (W) k).rnd _ _ = _
        rw [HQ.out]
        rfl
      generalize K[k]?.getD 0 = kk at *
      generalize (W)[k]?.getD 0 = ww at *
      have k6 : ∀ w, Calls Try.prog 38 #[.int .u64 (e : Int), .int .i64 14] w fun e' w' => e' = .returned (.int .u64 ((rr e 14 : Nat) : Int)) ∧ w = w' := fun w => rotr_any e 14 w be (by decide) (by decide)
      have k11 : ∀ w, Calls Try.prog 38 #[.int .u64 (e : Int), .int .i64 18] w fun e' w' => e' = .returned (.int .u64 ((rr e 18 : Nat) : Int)) ∧ w = w' := fun w => rotr_any e 18 w be (by decide) (by decide)
      have k25 : ∀ w, Calls Try.prog 38 #[.int .u64 (e : Int), .int .i64 41] w fun e' w' => e' = .returned (.int .u64 ((rr e 41 : Nat) : Int)) ∧ w = w' := fun w => rotr_any e 41 w be (by decide) (by decide)
      have k2 : ∀ w, Calls Try.prog 38 #[.int .u64 (a : Int), .int .i64 28] w fun e' w' => e' = .returned (.int .u64 ((rr a 28 : Nat) : Int)) ∧ w = w' := fun w => rotr_any a 28 w ba (by decide) (by decide)
      have k13 : ∀ w, Calls Try.prog 38 #[.int .u64 (a : Int), .int .i64 34] w fun e' w' => e' = .returned (.int .u64 ((rr a 34 : Nat) : Int)) ∧ w = w' := fun w => rotr_any a 34 w ba (by decide) (by decide)
      have k22 : ∀ w, Calls Try.prog 38 #[.int .u64 (a : Int), .int .i64 39] w fun e' w' => e' = .returned (.int .u64 ((rr a 39 : Nat) : Int)) ∧ w = w' := fun w => rotr_any a 39 w ba (by decide) (by decide)
      have l6 := rr_lt e 14 be (by decide)
      have l11 := rr_lt e 18 be (by decide)
      have l25 := rr_lt e 41 be (by decide)
      have l2 := rr_lt a 28 ba (by decide)
      have l13 := rr_lt a 34 ba (by decide)
      have l22 := rr_lt a 39 ba (by decide)
      generalize rr e 14 = r6 at *
      generalize rr e 18 = r11 at *
      generalize rr e 41 = r25 at *
      generalize rr a 28 = r2 at *
      generalize rr a 34 = r13 at *
      generalize rr a 39 = r22 at *
      have e1 : ∀ x : Int, x = ((r6 : Nat) : Int) → bits .xor .u64 x ((r11 : Nat) : Int) = ((r6 ^^^ r11 : Nat) : Int) := fun x hx => by subst hx; exact u64_xor_nat r6 r11 l6 l11
      have f1 := xlt l6 l11
      generalize r6 ^^^ r11 = y1 at *
      have e2 : ∀ x : Int, x = ((y1 : Nat) : Int) → bits .xor .u64 x ((r25 : Nat) : Int) = ((y1 ^^^ r25 : Nat) : Int) := fun x hx => by subst hx; exact u64_xor_nat y1 r25 f1 l25
      have f2 := xlt f1 l25
      generalize y1 ^^^ r25 = y2 at *
      have e3 : ∀ x : Int, x = ((r2 : Nat) : Int) → bits .xor .u64 x ((r13 : Nat) : Int) = ((r2 ^^^ r13 : Nat) : Int) := fun x hx => by subst hx; exact u64_xor_nat r2 r13 l2 l13
      have f3 := xlt l2 l13
      generalize r2 ^^^ r13 = y3 at *
      have e4 : ∀ x : Int, x = ((y3 : Nat) : Int) → bits .xor .u64 x ((r22 : Nat) : Int) = ((y3 ^^^ r22 : Nat) : Int) := fun x hx => by subst hx; exact u64_xor_nat y3 r22 f3 l22
      have f4 := xlt f3 l22
      generalize y3 ^^^ r22 = y4 at *
      have e5 : ∀ x : Int, x = ((e : Nat) : Int) → bits .and .u64 x ((f : Nat) : Int) = ((e &&& f : Nat) : Int) := fun x hx => by subst hx; exact u64_and_nat e f be bf
      have f5 : e &&& f < 18446744073709551616 := alt bf
      generalize e &&& f = y5 at *
      have e0 : bits .xor .u64 (if IntKind.u64.signed = true then -1 else IntKind.u64.max) ((e : Nat) : Int) = ((18446744073709551615 - e : Nat) : Int) := by
        rw [← not64 e be]
        exact u64_xor_nat 18446744073709551615 e (by decide) be
      have e6 : ∀ x : Int, x = (((18446744073709551615 - e) : Nat) : Int) → bits .and .u64 x ((g : Nat) : Int) = (((18446744073709551615 - e) &&& g : Nat) : Int) := fun x hx => by subst hx; exact u64_and_nat (18446744073709551615 - e) g (by omega) bg
      have f6 : (18446744073709551615 - e) &&& g < 18446744073709551616 := alt bg
      generalize (18446744073709551615 - e) &&& g = y6 at *
      generalize 18446744073709551615 - e = ne at *
      have e7 : ∀ x : Int, x = ((y5 : Nat) : Int) → bits .xor .u64 x ((y6 : Nat) : Int) = ((y5 ^^^ y6 : Nat) : Int) := fun x hx => by subst hx; exact u64_xor_nat y5 y6 f5 f6
      have f7 := xlt f5 f6
      generalize y5 ^^^ y6 = y7 at *
      have e8 : ∀ x : Int, x = ((a : Nat) : Int) → bits .and .u64 x ((b : Nat) : Int) = ((a &&& b : Nat) : Int) := fun x hx => by subst hx; exact u64_and_nat a b ba bb
      have f8 : a &&& b < 18446744073709551616 := alt bb
      generalize a &&& b = y8 at *
      have e9 : ∀ x : Int, x = ((a : Nat) : Int) → bits .and .u64 x ((c : Nat) : Int) = ((a &&& c : Nat) : Int) := fun x hx => by subst hx; exact u64_and_nat a c ba bc
      have f9 : a &&& c < 18446744073709551616 := alt bc
      generalize a &&& c = y9 at *
      have e10 : ∀ x : Int, x = ((b : Nat) : Int) → bits .and .u64 x ((c : Nat) : Int) = ((b &&& c : Nat) : Int) := fun x hx => by subst hx; exact u64_and_nat b c bb bc
      have f10 : b &&& c < 18446744073709551616 := alt bc
      generalize b &&& c = y10 at *
      have e11 : ∀ x : Int, x = ((y8 : Nat) : Int) → bits .xor .u64 x ((y9 : Nat) : Int) = ((y8 ^^^ y9 : Nat) : Int) := fun x hx => by subst hx; exact u64_xor_nat y8 y9 f8 f9
      have f11 := xlt f8 f9
      generalize y8 ^^^ y9 = y11 at *
      have e12 : ∀ x : Int, x = ((y11 : Nat) : Int) → bits .xor .u64 x ((y10 : Nat) : Int) = ((y11 ^^^ y10 : Nat) : Int) := fun x hx => by subst hx; exact u64_xor_nat y11 y10 f11 f10
      have f12 := xlt f11 f10
      generalize y11 ^^^ y10 = y12 at *
      go_wp2_with fail
      go_quiet (first
        | (go_at_call 38; with_reducible exact quietW (k6 _))
        | (go_at_call 38; with_reducible exact quietW (k11 _))
        | (go_at_call 38; with_reducible exact quietW (k25 _)))
      go_wp2_with fail
      refine (k2 _).mono ?_
      rintro e' w' ⟨rfl, rfl⟩
      go_wp2_with fail
      refine (k13 _).mono ?_
      rintro e' w' ⟨rfl, rfl⟩
      go_wp2_with fail
      refine (k22 _).mono ?_
      rintro e' w' ⟨rfl, rfl⟩
      clear k6 k11 k25 k2 k13 k22
      go_wp2
      go_roundw
      case rel => exact ⟨k + 1, _, _, _, _, _, _, _, _, by omega, by go_num, HN, by simp only [IntKind.wrap_u64]; go_num, rfl, rfl, rfl, by simp only [IntKind.wrap_u64]; go_num, rfl, rfl, rfl, HA3.out.drewN _, HA6.out.drewN _, HA7.out.drewN _, belowN HB.out _⟩
      case measure => simp [intOf]; omega
    · obtain rfl : k = 80 := by omega
      have HM : Hid (mixL K s z = s.plus ⟨a, b, c, d, e, f, g, h⟩) := HFin.out _ HQ.out
      have HP : Hid (∀ k, k ≤ 8 → (plusTo s ⟨a, b, c, d, e, f, g, h⟩ k).length = 8) := fun k hk => by simp [plusTo, list8, S8.plus]; omega
      rw [show ((80 : Nat) : Int) = 80 from rfl]
      clear HQ HFin HA7 HW HS HK HKr HG HKl HZ hr ba bb bc bd be bf bg bh z3 hs2
      go_wp2
      go_loopw [113] (fun y wr => ∃ k : Nat, k ≤ 8 ∧ y = .int .i64 (k : Int) ∧ Hid (Arr wr w.heap.size 26 .u64 (nI (plusTo s ⟨a, b, c, d, e, f, g, h⟩ k))) ∧ Hid (Arr wr (w.heap.size + 1) 26 .u64 (nI (List.replicate 8 0))) ∧ Hid (Below w.heap.size w wr)) (fun y _ => 8 - (intOf y).toNat)
      case atStart => exact ⟨0, by omega, rfl, HA3, HA6, HB⟩
      case round =>
        clear HA3 HA6 HB
        obtain ⟨k, hk, rfl, HP3, HA6', HB'⟩ := hrel
        rcases (show k = 0 ∨ k = 1 ∨ k = 2 ∨ k = 3 ∨ k = 4 ∨ k = 5 ∨ k = 6 ∨ k = 7 ∨ k = 8 by omega) with rfl | rfl | rfl | rfl | rfl | rfl | rfl | rfl | rfl
        · have cS : wr.cell? ⟨w.heap.size, 0, none⟩ = some (.int .u64 (s.a : Int)) := HP3.out.cell 0 (by rw [nI_length, HP.out 0 (by decide)]; decide)
          have fS := HP3.out.unfrozen 0
          have HN : Hid (Arr (wr.setCell ⟨w.heap.size, 0, none⟩ (.int .u64 (IntKind.u64.wrap ((s.a : Int) + (a : Int))))) w.heap.size 26 .u64 (nI (plusTo s ⟨a, b, c, d, e, f, g, h⟩ 1))) := by
            show Arr _ _ _ _ _
            have := HP3.out.set (by rw [nI_length, HP.out 0 (by decide)]; decide) 0 (((s.a + a) % 18446744073709551616 : Nat) : Int)
            rw [show IntKind.u64.wrap ((s.a : Int) + (a : Int)) = (((s.a + a) % 18446744073709551616 : Nat) : Int) from by rw [IntKind.wrap_u64]; omega]
            exact this
          go_wp2_with (refine wpList_indexA rfl 26 _ _ rfl _ _ 0 rfl rfl Try.underlying26 Try.underlying23 Try.one23 (by decide) rfl ?_)
          go_roundw
          case rel => exact ⟨1, by decide, rfl, HN, HA6'.out.other _ _ (by show w.heap.size + 1 ≠ w.heap.size; omega), HB'.out.setCell (Nat.le_refl _) _⟩
          case measure => decide
        · have cS : wr.cell? ⟨w.heap.size, 1, none⟩ = some (.int .u64 (s.b : Int)) := HP3.out.cell 1 (by rw [nI_length, HP.out 1 (by decide)]; decide)
          have fS := HP3.out.unfrozen 1
          have HN : Hid (Arr (wr.setCell ⟨w.heap.size, 1, none⟩ (.int .u64 (IntKind.u64.wrap ((s.b : Int) + (b : Int))))) w.heap.size 26 .u64 (nI (plusTo s ⟨a, b, c, d, e, f, g, h⟩ 2))) := by
            show Arr _ _ _ _ _
            have := HP3.out.set (by rw [nI_length, HP.out 1 (by decide)]; decide) 1 (((s.b + b) % 18446744073709551616 : Nat) : Int)
            rw [show IntKind.u64.wrap ((s.b : Int) + (b : Int)) = (((s.b + b) % 18446744073709551616 : Nat) : Int) from by rw [IntKind.wrap_u64]; omega]
            exact this
          go_wp2_with (refine wpList_indexA rfl 26 _ _ rfl _ _ 1 rfl rfl Try.underlying26 Try.underlying23 Try.one23 (by decide) rfl ?_)
          go_roundw
          case rel => exact ⟨2, by decide, rfl, HN, HA6'.out.other _ _ (by show w.heap.size + 1 ≠ w.heap.size; omega), HB'.out.setCell (Nat.le_refl _) _⟩
          case measure => decide
        · have cS : wr.cell? ⟨w.heap.size, 2, none⟩ = some (.int .u64 (s.c : Int)) := HP3.out.cell 2 (by rw [nI_length, HP.out 2 (by decide)]; decide)
          have fS := HP3.out.unfrozen 2
          have HN : Hid (Arr (wr.setCell ⟨w.heap.size, 2, none⟩ (.int .u64 (IntKind.u64.wrap ((s.c : Int) + (c : Int))))) w.heap.size 26 .u64 (nI (plusTo s ⟨a, b, c, d, e, f, g, h⟩ 3))) := by
            show Arr _ _ _ _ _
            have := HP3.out.set (by rw [nI_length, HP.out 2 (by decide)]; decide) 2 (((s.c + c) % 18446744073709551616 : Nat) : Int)
            rw [show IntKind.u64.wrap ((s.c : Int) + (c : Int)) = (((s.c + c) % 18446744073709551616 : Nat) : Int) from by rw [IntKind.wrap_u64]; omega]
            exact this
          go_wp2_with (refine wpList_indexA rfl 26 _ _ rfl _ _ 2 rfl rfl Try.underlying26 Try.underlying23 Try.one23 (by decide) rfl ?_)
          go_roundw
          case rel => exact ⟨3, by decide, rfl, HN, HA6'.out.other _ _ (by show w.heap.size + 1 ≠ w.heap.size; omega), HB'.out.setCell (Nat.le_refl _) _⟩
          case measure => decide
        · have cS : wr.cell? ⟨w.heap.size, 3, none⟩ = some (.int .u64 (s.d : Int)) := HP3.out.cell 3 (by rw [nI_length, HP.out 3 (by decide)]; decide)
          have fS := HP3.out.unfrozen 3
          have HN : Hid (Arr (wr.setCell ⟨w.heap.size, 3, none⟩ (.int .u64 (IntKind.u64.wrap ((s.d : Int) + (d : Int))))) w.heap.size 26 .u64 (nI (plusTo s ⟨a, b, c, d, e, f, g, h⟩ 4))) := by
            show Arr _ _ _ _ _
            have := HP3.out.set (by rw [nI_length, HP.out 3 (by decide)]; decide) 3 (((s.d + d) % 18446744073709551616 : Nat) : Int)
            rw [show IntKind.u64.wrap ((s.d : Int) + (d : Int)) = (((s.d + d) % 18446744073709551616 : Nat) : Int) from by rw [IntKind.wrap_u64]; omega]
            exact this
          go_wp2_with (refine wpList_indexA rfl 26 _ _ rfl _ _ 3 rfl rfl Try.underlying26 Try.underlying23 Try.one23 (by decide) rfl ?_)
          go_roundw
          case rel => exact ⟨4, by decide, rfl, HN, HA6'.out.other _ _ (by show w.heap.size + 1 ≠ w.heap.size; omega), HB'.out.setCell (Nat.le_refl _) _⟩
          case measure => decide
        · have cS : wr.cell? ⟨w.heap.size, 4, none⟩ = some (.int .u64 (s.e : Int)) := HP3.out.cell 4 (by rw [nI_length, HP.out 4 (by decide)]; decide)
          have fS := HP3.out.unfrozen 4
          have HN : Hid (Arr (wr.setCell ⟨w.heap.size, 4, none⟩ (.int .u64 (IntKind.u64.wrap ((s.e : Int) + (e : Int))))) w.heap.size 26 .u64 (nI (plusTo s ⟨a, b, c, d, e, f, g, h⟩ 5))) := by
            show Arr _ _ _ _ _
            have := HP3.out.set (by rw [nI_length, HP.out 4 (by decide)]; decide) 4 (((s.e + e) % 18446744073709551616 : Nat) : Int)
            rw [show IntKind.u64.wrap ((s.e : Int) + (e : Int)) = (((s.e + e) % 18446744073709551616 : Nat) : Int) from by rw [IntKind.wrap_u64]; omega]
            exact this
          go_wp2_with (refine wpList_indexA rfl 26 _ _ rfl _ _ 4 rfl rfl Try.underlying26 Try.underlying23 Try.one23 (by decide) rfl ?_)
          go_roundw
          case rel => exact ⟨5, by decide, rfl, HN, HA6'.out.other _ _ (by show w.heap.size + 1 ≠ w.heap.size; omega), HB'.out.setCell (Nat.le_refl _) _⟩
          case measure => decide
        · have cS : wr.cell? ⟨w.heap.size, 5, none⟩ = some (.int .u64 (s.f : Int)) := HP3.out.cell 5 (by rw [nI_length, HP.out 5 (by decide)]; decide)
          have fS := HP3.out.unfrozen 5
          have HN : Hid (Arr (wr.setCell ⟨w.heap.size, 5, none⟩ (.int .u64 (IntKind.u64.wrap ((s.f : Int) + (f : Int))))) w.heap.size 26 .u64 (nI (plusTo s ⟨a, b, c, d, e, f, g, h⟩ 6))) := by
            show Arr _ _ _ _ _
            have := HP3.out.set (by rw [nI_length, HP.out 5 (by decide)]; decide) 5 (((s.f + f) % 18446744073709551616 : Nat) : Int)
            rw [show IntKind.u64.wrap ((s.f : Int) + (f : Int)) = (((s.f + f) % 18446744073709551616 : Nat) : Int) from by rw [IntKind.wrap_u64]; omega]
            exact this
          go_wp2_with (refine wpList_indexA rfl 26 _ _ rfl _ _ 5 rfl rfl Try.underlying26 Try.underlying23 Try.one23 (by decide) rfl ?_)
          go_roundw
          case rel => exact ⟨6, by decide, rfl, HN, HA6'.out.other _ _ (by show w.heap.size + 1 ≠ w.heap.size; omega), HB'.out.setCell (Nat.le_refl _) _⟩
          case measure => decide
        · have cS : wr.cell? ⟨w.heap.size, 6, none⟩ = some (.int .u64 (s.g : Int)) := HP3.out.cell 6 (by rw [nI_length, HP.out 6 (by decide)]; decide)
          have fS := HP3.out.unfrozen 6
          have HN : Hid (Arr (wr.setCell ⟨w.heap.size, 6, none⟩ (.int .u64 (IntKind.u64.wrap ((s.g : Int) + (g : Int))))) w.heap.size 26 .u64 (nI (plusTo s ⟨a, b, c, d, e, f, g, h⟩ 7))) := by
            show Arr _ _ _ _ _
            have := HP3.out.set (by rw [nI_length, HP.out 6 (by decide)]; decide) 6 (((s.g + g) % 18446744073709551616 : Nat) : Int)
            rw [show IntKind.u64.wrap ((s.g : Int) + (g : Int)) = (((s.g + g) % 18446744073709551616 : Nat) : Int) from by rw [IntKind.wrap_u64]; omega]
            exact this
          go_wp2_with (refine wpList_indexA rfl 26 _ _ rfl _ _ 6 rfl rfl Try.underlying26 Try.underlying23 Try.one23 (by decide) rfl ?_)
          go_roundw
          case rel => exact ⟨7, by decide, rfl, HN, HA6'.out.other _ _ (by show w.heap.size + 1 ≠ w.heap.size; omega), HB'.out.setCell (Nat.le_refl _) _⟩
          case measure => decide
        · have cS : wr.cell? ⟨w.heap.size, 7, none⟩ = some (.int .u64 (s.h : Int)) := HP3.out.cell 7 (by rw [nI_length, HP.out 7 (by decide)]; decide)
          have fS := HP3.out.unfrozen 7
          have HN : Hid (Arr (wr.setCell ⟨w.heap.size, 7, none⟩ (.int .u64 (IntKind.u64.wrap ((s.h : Int) + (h : Int))))) w.heap.size 26 .u64 (nI (plusTo s ⟨a, b, c, d, e, f, g, h⟩ 8))) := by
            show Arr _ _ _ _ _
            have := HP3.out.set (by rw [nI_length, HP.out 7 (by decide)]; decide) 7 (((s.h + h) % 18446744073709551616 : Nat) : Int)
            rw [show IntKind.u64.wrap ((s.h : Int) + (h : Int)) = (((s.h + h) % 18446744073709551616 : Nat) : Int) from by rw [IntKind.wrap_u64]; omega]
            exact this
          go_wp2_with (refine wpList_indexA rfl 26 _ _ rfl _ _ 7 rfl rfl Try.underlying26 Try.underlying23 Try.one23 (by decide) rfl ?_)
          go_roundw
          case rel => exact ⟨8, by decide, rfl, HN, HA6'.out.other _ _ (by show w.heap.size + 1 ≠ w.heap.size; omega), HB'.out.setCell (Nat.le_refl _) _⟩
          case measure => decide
        · have A3 : Arr wr w.heap.size 26 .u64 (nI (s.plus ⟨a, b, c, d, e, f, g, h⟩).list) := HP3.out
          rw [← HM.out] at A3
          have HL : Hid ((nI (mixL K s z).list).length = 8) := by show _ = _; rw [nI_length]; rfl
          go_wp2_with (first
            | (refine wpList_loadA rfl 26 _ rfl w.heap.size rfl A3 Try.underlying26 Try.size26 HL.out ?_)
            | (refine wpList_storeA rfl 26 _ _ rfl (w.heap.size + 1) (nI (mixL K s z).list) rfl rfl HA6'.out Try.size26 (by decide +kernel) HL.out ?_))
          exact bodyPost_ret (resA rfl _ _ (w.heap.size + 1) rfl (HA6'.out.whole _) Try.underlying26 Try.size26 HL.out) rfl ⟨rfl, below_setRow HB'.out (by omega) _⟩
end Go.Proofs.Ythcnnglpncblaaa.B
