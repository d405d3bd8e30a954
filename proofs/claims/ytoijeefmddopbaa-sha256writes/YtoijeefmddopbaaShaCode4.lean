/-
  The code of layer 13 (sha256): mix.
-/
import Derived.Test.YtoijeefmddopbaaShaCode3
namespace Go.Proofs.Ytoijeefmddopbaa
open Go.RowKit
set_option linter.unusedVariables false
set_option maxRecDepth 8192

/-- A state whose first k words were added. -/
def plusTo (s q : S8) (k : Nat) : List Nat := (s.plus q).list.take k ++ s.list.drop k
theorem list8 (s : S8) : s.list.length = 8 := rfl
theorem not32 (e : Nat) (h : e < 4294967296) : 4294967295 ^^^ e = 4294967295 - e := by
  have h1 : (~~~(BitVec.ofNat 32 e)).toNat = 4294967295 - e := by
    rw [BitVec.toNat_not, BitVec.toNat_ofNat]
    omega
  rw [← h1, ← BitVec.allOnes_xor, BitVec.toNat_xor, BitVec.toNat_allOnes, BitVec.toNat_ofNat, Nat.mod_eq_of_lt (show e < 2 ^ 32 from h)]
/-- 'a[i]' of an array of words by value. -/
theorem run_indexA {P : Program} {w : World} (ty e : TypeId) (m : Nat) (cs : Array Value) (k ek : IntKind) (i : Nat) (z : Int) (hu : P.underlying ty = some (.array m e)) (hue : P.underlying e = some (.int ek)) (he : (P.info? e).map (·.size) = some 1) (hi : i < m) (hv : cs[i]? = some (.int ek z)) :
    (Instr.index ty (.agg cs) (.int k (i : Int))).run P w = .ok (.int ek z) w := by
  have h1 : (0 : Int) ≤ (i : Int) ∧ (i : Int) < (m : Int) := by omega
  obtain ⟨inf, hq, hs⟩ := Option.map_eq_some_iff.1 he
  simp [Instr.index, asIntOf, run_underlying hu, run_underlying hue, sizeOf, typeInfo, hq, hs, h1, part, isAgg, hv, go_sem]
  omega
theorem wpList_indexA {P : Program} {ops : Array Oper} {rest : List Oper} {o : Oper} {a : Act} {w : World} {Q : Exit → Act → World → Prop} (hgd : o.guard = none) (ty : TypeId) (x y : Operand) (ho : o.op = .index ty x y)
    (cs : Array Value) (k : IntKind) (i : Nat) (hx : a.eval x = .agg cs) (hy : a.eval y = .int k (i : Int)) {e : TypeId} {m : Nat} {ek : IntKind} {z : Int} (hu : P.underlying ty = some (.array m e)) (hue : P.underlying e = some (.int ek)) (he : (P.info? e).map (·.size) = some 1) (hi : i < m) (hv : cs[i]? = some (.int ek z))
    (h : wpList P ops Q rest (a.put o.dst (.int ek z)) w) : wpList P ops Q (o :: rest) a w :=
  wpList_plain hgd fun _ hK => by
    unfold Oper.wp execOp
    simp only [ho, hx, hy, Sem.run_bind, Sem.run_pure, Result.andThen_ok, run_indexA ty e m cs k ek i z hu hue he hi hv]
    exact hK _ _ h
theorem Try.one29 : (Try.prog.info? 29).map (·.size) = some 1 := by kernel_rfl
set_option maxHeartbeats 1600000 in
theorem mix_any (s : S8) (K z : List Nat) (a : Option Addr) (cap : Nat) (w : World) (hs : s.Ok) (hK : K.length = 64) (hKl : ∀ x ∈ K, x < 4294967296) (hr : Row .u8 w a 64 cap (nI z)) (hz : ∀ x ∈ z, x < 256) :
    Calls Try.prog 34 #[.agg ((nI s.list).map (Value.int .u32)).toArray, .slice a 64 cap, .agg ((nI K).map (Value.int .u32)).toArray] w fun e w' => e = .returned (.agg ((nI (mixL K s z).list).map (Value.int .u32)).toArray) ∧ Below w.heap.size w w' := by
  have HZ : Hid (∀ x ∈ z, x < 256) := hz
  have HK : Hid (K.length = 64) := hK
  have HKl : Hid (∀ x ∈ K, x < 4294967296) := hKl
  clear hz hK hKl
  generalize hX0 : ((nI s.list).map (Value.int .u32)).toArray = X0
  generalize hX1 : ((nI K).map (Value.int .u32)).toArray = X1
  go_enter Try.func34, Try.ntmps34
  go_wp2_with fail
  have A3 := ((Arr.new w 30 .u32 (nI s.list) X0 hX0.symm).alloc (.cells X1 32)).alloc (.cells ((nI (List.replicate 8 0)).map (Value.int .u32)).toArray 30)
  have A5 := (Arr.new (w.alloc (.cells X0 30)) 32 .u32 (nI K) X1 hX1.symm).alloc (.cells ((nI (List.replicate 8 0)).map (Value.int .u32)).toArray 30)
  have A6 := Arr.new ((w.alloc (.cells X0 30)).alloc (.cells X1 32)) 30 .u32 (nI (List.replicate 8 0)) _ rfl
  have q1 := below_three w (.cells X0 30) (.cells X1 32) (.cells ((nI (List.replicate 8 0)).map (Value.int .u32)).toArray 30)
  have z1 : (w.alloc (.cells X0 30)).heap.size = w.heap.size + 1 := by simp
  have z2 : ((w.alloc (.cells X0 30)).alloc (.cells X1 32)).heap.size = w.heap.size + 1 + 1 := by simp
  have z3 : (((w.alloc (.cells X0 30)).alloc (.cells X1 32)).alloc (.cells ((nI (List.replicate 8 0)).map (Value.int .u32)).toArray 30)).heap.size = w.heap.size + 1 + 1 + 1 := by simp
  rw [z1] at A5
  rw [z2] at A6
  clear z1 z2
  change Calls Try.prog _ _ (((w.alloc (.cells X0 30)).alloc (.cells X1 32)).alloc (.cells ((nI (List.replicate 8 0)).map (Value.int .u32)).toArray 30)) _
  generalize ((w.alloc (.cells X0 30)).alloc (.cells X1 32)).alloc (.cells ((nI (List.replicate 8 0)).map (Value.int .u32)).toArray 30) = w1 at *
  refine (spread_any z a cap w1 (hr.below q1 (Nat.le_refl _)) HZ.out).mono ?_
  rintro e w2 ⟨rfl, q2⟩
  have hs2 := q2.size
  have q3 := (q1.trans (q2.mono (by omega))).alloc (by omega) (.cells ((nI (List.replicate 64 0)).map (Value.int .u32)).toArray 32)
  replace A3 := (A3.below q2 (by omega)).alloc (.cells ((nI (List.replicate 64 0)).map (Value.int .u32)).toArray 32)
  replace A5 := (A5.below q2 (by omega)).alloc (.cells ((nI (List.replicate 64 0)).map (Value.int .u32)).toArray 32)
  replace A6 := (A6.below q2 (by omega)).alloc (.cells ((nI (List.replicate 64 0)).map (Value.int .u32)).toArray 32)
  have A7 := Arr.new w2 32 .u32 (nI (List.replicate 64 0)) _ rfl
  have HW : Hid ((nI (spreadL z)).length = 64) := by show _ = _; rw [nI_length, spreadL_length]
  have HS : Hid (∀ x ∈ spreadL z, x < 4294967296) := spreadL_lt z HZ.out
  have HFin : Hid (∀ q, rndTo s K (spreadL z) 64 = q → mixL K s z = s.plus q) := fun q hq => by unfold mixL; rw [hq]
  generalize spreadL z = W at *
  clear q1 q2
  go_wp2_with (refine wpList_storeA rfl 32 _ _ rfl w2.heap.size (nI (W)) rfl rfl A7 Try.size32 (by decide +kernel) HW.out ?_)
  replace A3 := A3.whole_other ((nI (W)).map (Value.int .u32)).toArray (show w.heap.size ≠ w2.heap.size by omega)
  replace A5 := A5.whole_other ((nI (W)).map (Value.int .u32)).toArray (show w.heap.size + 1 ≠ w2.heap.size by omega)
  replace A6 := A6.whole_other ((nI (W)).map (Value.int .u32)).toArray (show w.heap.size + 1 + 1 ≠ w2.heap.size by omega)
  replace A7 := A7.whole (nI (W))
  replace q3 := below_setRow q3 (show w.heap.size ≤ w2.heap.size by omega) ((nI (W)).map (Value.int .u32)).toArray
  change Code.wp _ _ _ _ ((w2.alloc (.cells ((nI (List.replicate 64 0)).map (Value.int .u32)).toArray 32)).setRow w2.heap.size ((nI (W)).map (Value.int .u32)).toArray)
  generalize (w2.alloc (.cells ((nI (List.replicate 64 0)).map (Value.int .u32)).toArray 32)).setRow w2.heap.size ((nI (W)).map (Value.int .u32)).toArray = w3 at *
  clear hX0 hX1
  generalize hX7 : ((nI (W)).map (Value.int .u32)).toArray = X7
  clear hX7
  have c0 : w3.cell? ⟨w.heap.size, 0, none⟩ = some (.int .u32 (s.a : Int)) := A3.cell 0 (by rw [nI_length]; exact (by decide : 0 < 8))
  have c1 : w3.cell? ⟨w.heap.size, 1, none⟩ = some (.int .u32 (s.b : Int)) := A3.cell 1 (by rw [nI_length]; exact (by decide : 1 < 8))
  have c2 : w3.cell? ⟨w.heap.size, 2, none⟩ = some (.int .u32 (s.c : Int)) := A3.cell 2 (by rw [nI_length]; exact (by decide : 2 < 8))
  have c3 : w3.cell? ⟨w.heap.size, 3, none⟩ = some (.int .u32 (s.d : Int)) := A3.cell 3 (by rw [nI_length]; exact (by decide : 3 < 8))
  have c4 : w3.cell? ⟨w.heap.size, 4, none⟩ = some (.int .u32 (s.e : Int)) := A3.cell 4 (by rw [nI_length]; exact (by decide : 4 < 8))
  have c5 : w3.cell? ⟨w.heap.size, 5, none⟩ = some (.int .u32 (s.f : Int)) := A3.cell 5 (by rw [nI_length]; exact (by decide : 5 < 8))
  have c6 : w3.cell? ⟨w.heap.size, 6, none⟩ = some (.int .u32 (s.g : Int)) := A3.cell 6 (by rw [nI_length]; exact (by decide : 6 < 8))
  have c7 : w3.cell? ⟨w.heap.size, 7, none⟩ = some (.int .u32 (s.h : Int)) := A3.cell 7 (by rw [nI_length]; exact (by decide : 7 < 8))
  go_wp2_with fail
  go_quiet (fail)
  go_wp2_with fail
  go_quiet (fail)
  clear c0 c1 c2 c3 c4 c5 c6 c7
  go_wp2
  go_loopw [8, 9, 10, 11, 12, 13, 14, 15, 39] (fun x8 x9 x10 x11 x12 x13 x14 x15 y wr => ∃ k a b c d e f g h : Nat, k ≤ 64 ∧ y = .int .i64 (k : Int) ∧ Hid (rndTo s K (W) k = ⟨a, b, c, d, e, f, g, h⟩) ∧ x8 = .int .u32 (a : Int) ∧ x9 = .int .u32 (b : Int) ∧ x10 = .int .u32 (c : Int) ∧ x11 = .int .u32 (d : Int) ∧ x12 = .int .u32 (e : Int) ∧ x13 = .int .u32 (f : Int) ∧ x14 = .int .u32 (g : Int) ∧ x15 = .int .u32 (h : Int)
      ∧ Hid (Arr wr w.heap.size 30 .u32 (nI s.list)) ∧ Hid (Arr wr (w.heap.size + 1) 32 .u32 (nI K)) ∧ Hid (Arr wr (w.heap.size + 1 + 1) 30 .u32 (nI (List.replicate 8 0))) ∧ Hid (Arr wr w2.heap.size 32 .u32 (nI (W))) ∧ Hid (Below w.heap.size w wr)) (fun _ _ _ _ _ _ _ _ y _ => 64 - (intOf y).toNat)
  case atStart => exact ⟨0, s.a, s.b, s.c, s.d, s.e, s.f, s.g, s.h, by omega, rfl, rfl, rfl, rfl, rfl, rfl, rfl, rfl, rfl, rfl, A3, A5, A6, A7, belowN (belowN q3 _) _⟩
  case round =>
    clear A3 A5 A6 A7 q3
    obtain ⟨k, a, b, c, d, e, f, g, h, hk, rfl, HQ, rfl, rfl, rfl, rfl, rfl, rfl, rfl, rfl, HA3, HA5, HA6, HA7, HB⟩ := hrel
    have hok := hs.to K (W) k
    rw [HQ.out] at hok
    obtain ⟨ba, bb, bc, bd, be, bf, bg, bh⟩ := hok
    dsimp only at ba bb bc bd be bf bg bh
    by_cases hlt : k < 64
    · have cK := HA5.out.cell k (by rw [nI_length, HK.out]; exact hlt)
      have cW := HA7.out.cell k (by rw [HW.out]; exact hlt)
      rw [nI_get] at cK cW
      have lK := getD_lt (by decide) HKl.out k
      have lW := getD_lt (by decide) HS.out k
      have HN : Hid (rndTo s K (W) (k + 1) = ⟨((h + (rr e 6 ^^^ rr e 11 ^^^ rr e 25) + ((e &&& f) ^^^ ((4294967295 - e) &&& g)) + K[k]?.getD 0 + (W)[k]?.getD 0) + ((rr a 2 ^^^ rr a 13 ^^^ rr a 22) + ((a &&& b) ^^^ (a &&& c) ^^^ (b &&& c)))) % 4294967296, a, b, c, (d + (h + (rr e 6 ^^^ rr e 11 ^^^ rr e 25) + ((e &&& f) ^^^ ((4294967295 - e) &&& g)) + K[k]?.getD 0 + (W)[k]?.getD 0)) % 4294967296, e, f, g⟩) := by
        show (rndTo s K (W) k).rnd _ _ = _
        rw [HQ.out]
        rfl
      generalize K[k]?.getD 0 = kk at *
      generalize (W)[k]?.getD 0 = ww at *
      have k6 : ∀ w, Calls Try.prog 50 #[.int .u32 (e : Int), .int .i64 6] w fun e' w' => e' = .returned (.int .u32 ((rr e 6 : Nat) : Int)) ∧ w = w' := fun w => rotr_any e 6 w be (by decide) (by decide)
      have k11 : ∀ w, Calls Try.prog 50 #[.int .u32 (e : Int), .int .i64 11] w fun e' w' => e' = .returned (.int .u32 ((rr e 11 : Nat) : Int)) ∧ w = w' := fun w => rotr_any e 11 w be (by decide) (by decide)
      have k25 : ∀ w, Calls Try.prog 50 #[.int .u32 (e : Int), .int .i64 25] w fun e' w' => e' = .returned (.int .u32 ((rr e 25 : Nat) : Int)) ∧ w = w' := fun w => rotr_any e 25 w be (by decide) (by decide)
      have k2 : ∀ w, Calls Try.prog 50 #[.int .u32 (a : Int), .int .i64 2] w fun e' w' => e' = .returned (.int .u32 ((rr a 2 : Nat) : Int)) ∧ w = w' := fun w => rotr_any a 2 w ba (by decide) (by decide)
      have k13 : ∀ w, Calls Try.prog 50 #[.int .u32 (a : Int), .int .i64 13] w fun e' w' => e' = .returned (.int .u32 ((rr a 13 : Nat) : Int)) ∧ w = w' := fun w => rotr_any a 13 w ba (by decide) (by decide)
      have k22 : ∀ w, Calls Try.prog 50 #[.int .u32 (a : Int), .int .i64 22] w fun e' w' => e' = .returned (.int .u32 ((rr a 22 : Nat) : Int)) ∧ w = w' := fun w => rotr_any a 22 w ba (by decide) (by decide)
      have l6 := rr_lt e 6 be (by decide)
      have l11 := rr_lt e 11 be (by decide)
      have l25 := rr_lt e 25 be (by decide)
      have l2 := rr_lt a 2 ba (by decide)
      have l13 := rr_lt a 13 ba (by decide)
      have l22 := rr_lt a 22 ba (by decide)
      generalize rr e 6 = r6 at *
      generalize rr e 11 = r11 at *
      generalize rr e 25 = r25 at *
      generalize rr a 2 = r2 at *
      generalize rr a 13 = r13 at *
      generalize rr a 22 = r22 at *
      have e1 : ∀ x : Int, x = ((r6 : Nat) : Int) → bits .xor .u32 x ((r11 : Nat) : Int) = ((r6 ^^^ r11 : Nat) : Int) := fun x hx => by subst hx; exact u32_xor_nat r6 r11 l6 l11
      have f1 := xlt l6 l11
      generalize r6 ^^^ r11 = y1 at *
      have e2 : ∀ x : Int, x = ((y1 : Nat) : Int) → bits .xor .u32 x ((r25 : Nat) : Int) = ((y1 ^^^ r25 : Nat) : Int) := fun x hx => by subst hx; exact u32_xor_nat y1 r25 f1 l25
      have f2 := xlt f1 l25
      generalize y1 ^^^ r25 = y2 at *
      have e3 : ∀ x : Int, x = ((r2 : Nat) : Int) → bits .xor .u32 x ((r13 : Nat) : Int) = ((r2 ^^^ r13 : Nat) : Int) := fun x hx => by subst hx; exact u32_xor_nat r2 r13 l2 l13
      have f3 := xlt l2 l13
      generalize r2 ^^^ r13 = y3 at *
      have e4 : ∀ x : Int, x = ((y3 : Nat) : Int) → bits .xor .u32 x ((r22 : Nat) : Int) = ((y3 ^^^ r22 : Nat) : Int) := fun x hx => by subst hx; exact u32_xor_nat y3 r22 f3 l22
      have f4 := xlt f3 l22
      generalize y3 ^^^ r22 = y4 at *
      have e5 : ∀ x : Int, x = ((e : Nat) : Int) → bits .and .u32 x ((f : Nat) : Int) = ((e &&& f : Nat) : Int) := fun x hx => by subst hx; exact u32_and_nat e f be bf
      have f5 : e &&& f < 4294967296 := alt bf
      generalize e &&& f = y5 at *
      have e0 : bits .xor .u32 (if IntKind.u32.signed = true then -1 else IntKind.u32.max) ((e : Nat) : Int) = ((4294967295 - e : Nat) : Int) := by
        rw [← not32 e be]
        exact u32_xor_nat 4294967295 e (by decide) be
      have e6 : ∀ x : Int, x = (((4294967295 - e) : Nat) : Int) → bits .and .u32 x ((g : Nat) : Int) = (((4294967295 - e) &&& g : Nat) : Int) := fun x hx => by subst hx; exact u32_and_nat (4294967295 - e) g (by omega) bg
      have f6 : (4294967295 - e) &&& g < 4294967296 := alt bg
      generalize (4294967295 - e) &&& g = y6 at *
      generalize 4294967295 - e = ne at *
      have e7 : ∀ x : Int, x = ((y5 : Nat) : Int) → bits .xor .u32 x ((y6 : Nat) : Int) = ((y5 ^^^ y6 : Nat) : Int) := fun x hx => by subst hx; exact u32_xor_nat y5 y6 f5 f6
      have f7 := xlt f5 f6
      generalize y5 ^^^ y6 = y7 at *
      have e8 : ∀ x : Int, x = ((a : Nat) : Int) → bits .and .u32 x ((b : Nat) : Int) = ((a &&& b : Nat) : Int) := fun x hx => by subst hx; exact u32_and_nat a b ba bb
      have f8 : a &&& b < 4294967296 := alt bb
      generalize a &&& b = y8 at *
      have e9 : ∀ x : Int, x = ((a : Nat) : Int) → bits .and .u32 x ((c : Nat) : Int) = ((a &&& c : Nat) : Int) := fun x hx => by subst hx; exact u32_and_nat a c ba bc
      have f9 : a &&& c < 4294967296 := alt bc
      generalize a &&& c = y9 at *
      have e10 : ∀ x : Int, x = ((b : Nat) : Int) → bits .and .u32 x ((c : Nat) : Int) = ((b &&& c : Nat) : Int) := fun x hx => by subst hx; exact u32_and_nat b c bb bc
      have f10 : b &&& c < 4294967296 := alt bc
      generalize b &&& c = y10 at *
      have e11 : ∀ x : Int, x = ((y8 : Nat) : Int) → bits .xor .u32 x ((y9 : Nat) : Int) = ((y8 ^^^ y9 : Nat) : Int) := fun x hx => by subst hx; exact u32_xor_nat y8 y9 f8 f9
      have f11 := xlt f8 f9
      generalize y8 ^^^ y9 = y11 at *
      have e12 : ∀ x : Int, x = ((y11 : Nat) : Int) → bits .xor .u32 x ((y10 : Nat) : Int) = ((y11 ^^^ y10 : Nat) : Int) := fun x hx => by subst hx; exact u32_xor_nat y11 y10 f11 f10
      have f12 := xlt f11 f10
      generalize y11 ^^^ y10 = y12 at *
      go_wp2_with fail
      go_quiet (first
        | (go_at_call 50; with_reducible exact quietW (k6 _))
        | (go_at_call 50; with_reducible exact quietW (k11 _))
        | (go_at_call 50; with_reducible exact quietW (k25 _)))
      go_wp2_with fail
      refine (k2 _).mono ?_
      rintro e' w' ⟨rfl, rfl⟩
      go_wp2_with fail
      refine (k13 _).mono ?_
      rintro e' w' ⟨rfl, rfl⟩
      go_wp2_with fail
      refine (k22 _).mono ?_
      rintro e' w' ⟨rfl, rfl⟩
      clear k6 k11 k25 k2 k13 k22
      go_wp2
      go_roundw
      case rel => exact ⟨k + 1, _, _, _, _, _, _, _, _, by omega, by go_num, HN, by go_num, rfl, rfl, rfl, by go_num, rfl, rfl, rfl, HA3.out.drewN _, HA5.out.drewN _, HA6.out.drewN _, HA7.out.drewN _, belowN HB.out _⟩
      case measure => simp [intOf]; omega
    · obtain rfl : k = 64 := by omega
      have HM : Hid (mixL K s z = s.plus ⟨a, b, c, d, e, f, g, h⟩) := HFin.out _ HQ.out
      have HP : Hid (∀ k, k ≤ 8 → (plusTo s ⟨a, b, c, d, e, f, g, h⟩ k).length = 8) := fun k hk => by simp [plusTo, list8, S8.plus]; omega
      rw [show ((64 : Nat) : Int) = 64 from rfl]
      clear HQ HFin HA5 HA7 HW HS HK HKl HZ hr ba bb bc bd be bf bg bh z3 hs2
      go_wp2
      go_loopw [111] (fun y wr => ∃ k : Nat, k ≤ 8 ∧ y = .int .i64 (k : Int) ∧ Hid (Arr wr w.heap.size 30 .u32 (nI (plusTo s ⟨a, b, c, d, e, f, g, h⟩ k))) ∧ Hid (Arr wr (w.heap.size + 1 + 1) 30 .u32 (nI (List.replicate 8 0))) ∧ Hid (Below w.heap.size w wr)) (fun y _ => 8 - (intOf y).toNat)
      case atStart => exact ⟨0, by omega, rfl, HA3, HA6, HB⟩
      case round =>
        clear HA3 HA6 HB
        obtain ⟨k, hk, rfl, HP3, HA6', HB'⟩ := hrel
        rcases (show k = 0 ∨ k = 1 ∨ k = 2 ∨ k = 3 ∨ k = 4 ∨ k = 5 ∨ k = 6 ∨ k = 7 ∨ k = 8 by omega) with rfl | rfl | rfl | rfl | rfl | rfl | rfl | rfl | rfl
        · have cS : wr.cell? ⟨w.heap.size, 0, none⟩ = some (.int .u32 (s.a : Int)) := HP3.out.cell 0 (by rw [nI_length, HP.out 0 (by decide)]; decide)
          have fS := HP3.out.unfrozen 0
          have HN : Hid (Arr (wr.setCell ⟨w.heap.size, 0, none⟩ (.int .u32 (((s.a : Int) + (a : Int)) % 4294967296))) w.heap.size 30 .u32 (nI (plusTo s ⟨a, b, c, d, e, f, g, h⟩ 1))) := by
            show Arr _ _ _ _ _
            have := HP3.out.set (by rw [nI_length, HP.out 0 (by decide)]; decide) 0 (((s.a + a) % 4294967296 : Nat) : Int)
            rw [show ((s.a : Int) + (a : Int)) % 4294967296 = (((s.a + a) % 4294967296 : Nat) : Int) from by omega]
            exact this
          go_wp2_with (refine wpList_indexA rfl 30 _ _ rfl _ _ 0 rfl rfl Try.underlying30 Try.underlying29 Try.one29 (by decide) rfl ?_)
          go_roundw
          case rel => exact ⟨1, by decide, rfl, HN, HA6'.out.other _ _ (by show w.heap.size + 1 + 1 ≠ w.heap.size; omega), HB'.out.setCell (Nat.le_refl _) _⟩
          case measure => decide
        · have cS : wr.cell? ⟨w.heap.size, 1, none⟩ = some (.int .u32 (s.b : Int)) := HP3.out.cell 1 (by rw [nI_length, HP.out 1 (by decide)]; decide)
          have fS := HP3.out.unfrozen 1
          have HN : Hid (Arr (wr.setCell ⟨w.heap.size, 1, none⟩ (.int .u32 (((s.b : Int) + (b : Int)) % 4294967296))) w.heap.size 30 .u32 (nI (plusTo s ⟨a, b, c, d, e, f, g, h⟩ 2))) := by
            show Arr _ _ _ _ _
            have := HP3.out.set (by rw [nI_length, HP.out 1 (by decide)]; decide) 1 (((s.b + b) % 4294967296 : Nat) : Int)
            rw [show ((s.b : Int) + (b : Int)) % 4294967296 = (((s.b + b) % 4294967296 : Nat) : Int) from by omega]
            exact this
          go_wp2_with (refine wpList_indexA rfl 30 _ _ rfl _ _ 1 rfl rfl Try.underlying30 Try.underlying29 Try.one29 (by decide) rfl ?_)
          go_roundw
          case rel => exact ⟨2, by decide, rfl, HN, HA6'.out.other _ _ (by show w.heap.size + 1 + 1 ≠ w.heap.size; omega), HB'.out.setCell (Nat.le_refl _) _⟩
          case measure => decide
        · have cS : wr.cell? ⟨w.heap.size, 2, none⟩ = some (.int .u32 (s.c : Int)) := HP3.out.cell 2 (by rw [nI_length, HP.out 2 (by decide)]; decide)
          have fS := HP3.out.unfrozen 2
          have HN : Hid (Arr (wr.setCell ⟨w.heap.size, 2, none⟩ (.int .u32 (((s.c : Int) + (c : Int)) % 4294967296))) w.heap.size 30 .u32 (nI (plusTo s ⟨a, b, c, d, e, f, g, h⟩ 3))) := by
            show Arr _ _ _ _ _
            have := HP3.out.set (by rw [nI_length, HP.out 2 (by decide)]; decide) 2 (((s.c + c) % 4294967296 : Nat) : Int)
            rw [show ((s.c : Int) + (c : Int)) % 4294967296 = (((s.c + c) % 4294967296 : Nat) : Int) from by omega]
            exact this
          go_wp2_with (refine wpList_indexA rfl 30 _ _ rfl _ _ 2 rfl rfl Try.underlying30 Try.underlying29 Try.one29 (by decide) rfl ?_)
          go_roundw
          case rel => exact ⟨3, by decide, rfl, HN, HA6'.out.other _ _ (by show w.heap.size + 1 + 1 ≠ w.heap.size; omega), HB'.out.setCell (Nat.le_refl _) _⟩
          case measure => decide
        · have cS : wr.cell? ⟨w.heap.size, 3, none⟩ = some (.int .u32 (s.d : Int)) := HP3.out.cell 3 (by rw [nI_length, HP.out 3 (by decide)]; decide)
          have fS := HP3.out.unfrozen 3
          have HN : Hid (Arr (wr.setCell ⟨w.heap.size, 3, none⟩ (.int .u32 (((s.d : Int) + (d : Int)) % 4294967296))) w.heap.size 30 .u32 (nI (plusTo s ⟨a, b, c, d, e, f, g, h⟩ 4))) := by
            show Arr _ _ _ _ _
            have := HP3.out.set (by rw [nI_length, HP.out 3 (by decide)]; decide) 3 (((s.d + d) % 4294967296 : Nat) : Int)
            rw [show ((s.d : Int) + (d : Int)) % 4294967296 = (((s.d + d) % 4294967296 : Nat) : Int) from by omega]
            exact this
          go_wp2_with (refine wpList_indexA rfl 30 _ _ rfl _ _ 3 rfl rfl Try.underlying30 Try.underlying29 Try.one29 (by decide) rfl ?_)
          go_roundw
          case rel => exact ⟨4, by decide, rfl, HN, HA6'.out.other _ _ (by show w.heap.size + 1 + 1 ≠ w.heap.size; omega), HB'.out.setCell (Nat.le_refl _) _⟩
          case measure => decide
        · have cS : wr.cell? ⟨w.heap.size, 4, none⟩ = some (.int .u32 (s.e : Int)) := HP3.out.cell 4 (by rw [nI_length, HP.out 4 (by decide)]; decide)
          have fS := HP3.out.unfrozen 4
          have HN : Hid (Arr (wr.setCell ⟨w.heap.size, 4, none⟩ (.int .u32 (((s.e : Int) + (e : Int)) % 4294967296))) w.heap.size 30 .u32 (nI (plusTo s ⟨a, b, c, d, e, f, g, h⟩ 5))) := by
            show Arr _ _ _ _ _
            have := HP3.out.set (by rw [nI_length, HP.out 4 (by decide)]; decide) 4 (((s.e + e) % 4294967296 : Nat) : Int)
            rw [show ((s.e : Int) + (e : Int)) % 4294967296 = (((s.e + e) % 4294967296 : Nat) : Int) from by omega]
            exact this
          go_wp2_with (refine wpList_indexA rfl 30 _ _ rfl _ _ 4 rfl rfl Try.underlying30 Try.underlying29 Try.one29 (by decide) rfl ?_)
          go_roundw
          case rel => exact ⟨5, by decide, rfl, HN, HA6'.out.other _ _ (by show w.heap.size + 1 + 1 ≠ w.heap.size; omega), HB'.out.setCell (Nat.le_refl _) _⟩
          case measure => decide
        · have cS : wr.cell? ⟨w.heap.size, 5, none⟩ = some (.int .u32 (s.f : Int)) := HP3.out.cell 5 (by rw [nI_length, HP.out 5 (by decide)]; decide)
          have fS := HP3.out.unfrozen 5
          have HN : Hid (Arr (wr.setCell ⟨w.heap.size, 5, none⟩ (.int .u32 (((s.f : Int) + (f : Int)) % 4294967296))) w.heap.size 30 .u32 (nI (plusTo s ⟨a, b, c, d, e, f, g, h⟩ 6))) := by
            show Arr _ _ _ _ _
            have := HP3.out.set (by rw [nI_length, HP.out 5 (by decide)]; decide) 5 (((s.f + f) % 4294967296 : Nat) : Int)
            rw [show ((s.f : Int) + (f : Int)) % 4294967296 = (((s.f + f) % 4294967296 : Nat) : Int) from by omega]
            exact this
          go_wp2_with (refine wpList_indexA rfl 30 _ _ rfl _ _ 5 rfl rfl Try.underlying30 Try.underlying29 Try.one29 (by decide) rfl ?_)
          go_roundw
          case rel => exact ⟨6, by decide, rfl, HN, HA6'.out.other _ _ (by show w.heap.size + 1 + 1 ≠ w.heap.size; omega), HB'.out.setCell (Nat.le_refl _) _⟩
          case measure => decide
        · have cS : wr.cell? ⟨w.heap.size, 6, none⟩ = some (.int .u32 (s.g : Int)) := HP3.out.cell 6 (by rw [nI_length, HP.out 6 (by decide)]; decide)
          have fS := HP3.out.unfrozen 6
          have HN : Hid (Arr (wr.setCell ⟨w.heap.size, 6, none⟩ (.int .u32 (((s.g : Int) + (g : Int)) % 4294967296))) w.heap.size 30 .u32 (nI (plusTo s ⟨a, b, c, d, e, f, g, h⟩ 7))) := by
            show Arr _ _ _ _ _
            have := HP3.out.set (by rw [nI_length, HP.out 6 (by decide)]; decide) 6 (((s.g + g) % 4294967296 : Nat) : Int)
            rw [show ((s.g : Int) + (g : Int)) % 4294967296 = (((s.g + g) % 4294967296 : Nat) : Int) from by omega]
            exact this
          go_wp2_with (refine wpList_indexA rfl 30 _ _ rfl _ _ 6 rfl rfl Try.underlying30 Try.underlying29 Try.one29 (by decide) rfl ?_)
          go_roundw
          case rel => exact ⟨7, by decide, rfl, HN, HA6'.out.other _ _ (by show w.heap.size + 1 + 1 ≠ w.heap.size; omega), HB'.out.setCell (Nat.le_refl _) _⟩
          case measure => decide
        · have cS : wr.cell? ⟨w.heap.size, 7, none⟩ = some (.int .u32 (s.h : Int)) := HP3.out.cell 7 (by rw [nI_length, HP.out 7 (by decide)]; decide)
          have fS := HP3.out.unfrozen 7
          have HN : Hid (Arr (wr.setCell ⟨w.heap.size, 7, none⟩ (.int .u32 (((s.h : Int) + (h : Int)) % 4294967296))) w.heap.size 30 .u32 (nI (plusTo s ⟨a, b, c, d, e, f, g, h⟩ 8))) := by
            show Arr _ _ _ _ _
            have := HP3.out.set (by rw [nI_length, HP.out 7 (by decide)]; decide) 7 (((s.h + h) % 4294967296 : Nat) : Int)
            rw [show ((s.h : Int) + (h : Int)) % 4294967296 = (((s.h + h) % 4294967296 : Nat) : Int) from by omega]
            exact this
          go_wp2_with (refine wpList_indexA rfl 30 _ _ rfl _ _ 7 rfl rfl Try.underlying30 Try.underlying29 Try.one29 (by decide) rfl ?_)
          go_roundw
          case rel => exact ⟨8, by decide, rfl, HN, HA6'.out.other _ _ (by show w.heap.size + 1 + 1 ≠ w.heap.size; omega), HB'.out.setCell (Nat.le_refl _) _⟩
          case measure => decide
        · have A3 : Arr wr w.heap.size 30 .u32 (nI (s.plus ⟨a, b, c, d, e, f, g, h⟩).list) := HP3.out
          rw [← HM.out] at A3
          have HL : Hid ((nI (mixL K s z).list).length = 8) := by show _ = _; rw [nI_length]; rfl
          go_wp2_with (first
            | (refine wpList_loadA rfl 30 _ rfl w.heap.size rfl A3 Try.underlying30 Try.size30 HL.out ?_)
            | (refine wpList_storeA rfl 30 _ _ rfl (w.heap.size + 1 + 1) (nI (mixL K s z).list) rfl rfl HA6'.out Try.size30 (by decide +kernel) HL.out ?_))
          exact bodyPost_ret (resA rfl _ _ (w.heap.size + 1 + 1) rfl (HA6'.out.whole _) Try.underlying30 Try.size30 HL.out) rfl ⟨rfl, below_setRow HB'.out (by omega) _⟩
end Go.Proofs.Ytoijeefmddopbaa
