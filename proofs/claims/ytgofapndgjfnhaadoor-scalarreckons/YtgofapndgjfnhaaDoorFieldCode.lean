/-
  The code of layer 16 (field), as it landed: arrays of words and bytes as values; step.
-/
import Derived.Test.YtgofapndgjfnhaaDoorAvBase
import Derived.Test.YtgofapndgjfnhaaDoorFieldWords
import Derived.Test.YtgofapndgjfnhaaDoorFieldPlain
import Derived.Test.YtgofapndgjfnhaaDoorBits
import Derived.Laws.Externs
import Derived.Laws.BitsAllLaws
import Derived.Shelf.Bits.Mul64
namespace Go.Proofs.YtgofapndgjfnhaaDoor.N
open Go.RowKit
set_option linter.unusedVariables false
set_option maxRecDepth 8192

theorem ret_two {k1 k2 : IntKind} {a b c d : Int} (h1 : a = b) (h2 : c = d) : Ending.returned (.tuple #[.int k1 a, .int k2 c]) = .returned (.tuple #[.int k1 b, .int k2 d]) := by rw [h1, h2]
/-- A number as 32 bytes, as four words, as eight words. -/
def bA (a : Nat) : Array Value := arr .u8 (digL a 32)
def wA (a : Nat) : Array Value := arr .u64 (W.digL a 4)
def lA (a : Nat) : Array Value := arr .u64 (W.digL a 8)
theorem bA_def (a : Nat) : bA a = arr .u8 (digL a 32) := rfl
theorem wA_def (a : Nat) : wA a = arr .u64 (W.digL a 4) := rfl
theorem lA_def (a : Nat) : lA a = arr .u64 (W.digL a 8) := rfl
theorem bA_size (a : Nat) : (bA a).size = 32 := by rw [bA_def, arr_size, digL_length]
theorem wA_size (a : Nat) : (wA a).size = 4 := by rw [wA_def, arr_size, W.digL_length]
theorem lA_size (a : Nat) : (lA a).size = 8 := by rw [lA_def, arr_size, W.digL_length]
theorem bA_one (a : Nat) : (bA a).all (·.oneCell') = true := arr_one _ _
theorem wA_one (a : Nat) : (wA a).all (·.oneCell') = true := arr_one _ _
theorem lA_one (a : Nat) : (lA a).all (·.oneCell') = true := arr_one _ _
theorem bA_zero : bA 0 = arr .u8 (List.replicate 32 0) := by rw [bA_def, digL_zero]
theorem wA_zero : wA 0 = arr .u64 (List.replicate 4 0) := by rw [wA_def, W.digL_zero]
theorem lA_zero : lA 0 = arr .u64 (List.replicate 8 0) := by rw [lA_def, W.digL_zero]
theorem bA_get (a i : Nat) (hi : i < 32) : (bA a)[i]? = some (.int .u8 ((a / 256 ^ i % 256 : Nat) : Int)) := by
  rw [bA_def, arr_get _ _ i (by rw [digL_length]; exact hi)]
  have := dg_digL (x := a) (n := 32) hi
  unfold dg at this
  rw [this]
theorem wA_get (a i : Nat) (hi : i < 4) : (wA a)[i]? = some (.int .u64 ((a / 18446744073709551616 ^ i % 18446744073709551616 : Nat) : Int)) := by
  rw [wA_def, arr_get _ _ i (by rw [W.digL_length]; exact hi)]
  have := W.dg_digL (x := a) (n := 4) hi
  unfold W.dg at this
  rw [this]
theorem w256 : (18446744073709551616 : Nat) ^ 4 = 2 ^ 256 := by decide
theorem b256 : (256 : Nat) ^ 32 = 2 ^ 256 := by decide
theorem bA_inj {a b : Nat} (ha : a < 2 ^ 256) (hb : b < 2 ^ 256) (h : digL a 32 = digL b 32) : a = b := by
  have := congrArg vL h
  rwa [vL_digL_lt (by rw [b256]; exact ha), vL_digL_lt (by rw [b256]; exact hb)] at this
theorem wA_inj {a b : Nat} (ha : a < 2 ^ 256) (hb : b < 2 ^ 256) (h : W.digL a 4 = W.digL b 4) : a = b := by
  have := congrArg W.vL h
  rwa [W.vL_digL_lt (by rw [w256]; exact ha), W.vL_digL_lt (by rw [w256]; exact hb)] at this
attribute [irreducible] bA wA lA
theorem run_indexV {P : Program} {w : World} (ty e : TypeId) (m : Nat) (cs : Array Value) (k ek : IntKind) (i : Nat) (z : Int) (hu : P.underlying ty = some (.array m e)) (hue : P.underlying e = some (.int ek)) (he : (P.info? e).map (·.size) = some 1) (hi : i < m) (hv : cs[i]? = some (.int ek z)) :
    (Instr.index ty (.agg cs) (.int k (i : Int))).run P w = .ok (.int ek z) w := by
  have h1 : (0 : Int) ≤ (i : Int) ∧ (i : Int) < (m : Int) := by omega
  obtain ⟨inf, hq, hs⟩ := Option.map_eq_some_iff.1 he
  simp [Instr.index, asIntOf, run_underlying hu, run_underlying hue, sizeOf, typeInfo, hq, hs, h1, part, isAgg, hv, go_sem]
  omega
theorem wpList_indexV {P : Program} {ops : Array Oper} {rest : List Oper} {o : Oper} {a : Act} {w : World} {Q : Exit → Act → World → Prop} (hgd : o.guard = none) (ty : TypeId) (x y : Operand) (ho : o.op = .index ty x y)
    (cs : Array Value) (k : IntKind) (i : Nat) (hx : a.eval x = .agg cs) (hy : a.eval y = .int k (i : Int)) {e : TypeId} {m : Nat} {ek : IntKind} {z : Int} (hu : P.underlying ty = some (.array m e)) (hue : P.underlying e = some (.int ek)) (he : (P.info? e).map (·.size) = some 1) (hi : i < m) (hv : cs[i]? = some (.int ek z))
    (h : wpList P ops Q rest (a.put o.dst (.int ek z)) w) : wpList P ops Q (o :: rest) a w :=
  wpList_plain hgd fun _ hK => by
    unfold Oper.wp execOp
    simp only [ho, hx, hy, Sem.run_bind, Sem.run_pure, Result.andThen_ok, run_indexV ty e m cs k ek i z hu hue he hi hv]
    exact hK _ _ h
theorem Tryd.szB : (Tryd.prog.info? 23).map (·.size) = some 32 := by kernel_rfl
theorem Tryd.szW : (Tryd.prog.info? 70).map (·.size) = some 4 := by kernel_rfl
theorem Tryd.sz8 : (Tryd.prog.info? 5).map (·.size) = some 1 := by kernel_rfl
theorem Tryd.sz64 : (Tryd.prog.info? 68).map (·.size) = some 1 := by kernel_rfl
theorem zeroB (w : World) : (zeroValue 23).run Tryd.prog w = .ok (.agg (bA 0)) w := by rw [bA_zero]; kernel_rfl
theorem zeroW (w : World) : (zeroValue 70).run Tryd.prog w = .ok (.agg (wA 0)) w := by rw [wA_zero]; kernel_rfl
theorem zeroW4 (w : World) : (zeroValue 70).run Tryd.prog w = .ok (.agg (arr .u64 (List.replicate 4 0))) w := by kernel_rfl
theorem zeroB32 (w : World) : (zeroValue 23).run Tryd.prog w = .ok (.agg (arr .u8 (List.replicate 32 0))) w := by kernel_rfl
theorem Tryd.szL : (Tryd.prog.info? 92).map (·.size) = some 8 := by kernel_rfl
theorem zeroL8 (w : World) : (zeroValue 92).run Tryd.prog w = .ok (.agg (arr .u64 (List.replicate 8 0))) w := by kernel_rfl
set_option maxHeartbeats 1000000 in
theorem mul64_any (x y : Nat) (hx : x < 18446744073709551616) (hy : y < 18446744073709551616) (w : World) :
    Calls Tryd.prog 85 #[.int .u64 (x : Int), .int .u64 (y : Int)] w fun e w' => e = .returned (.tuple #[.int .u64 ((x * y / 18446744073709551616 : Nat) : Int), .int .u64 ((x * y % 18446744073709551616 : Nat) : Int)]) ∧ w = w' := by
  obtain ⟨bd, bt, bw, hhi⟩ := Lib.mul64_hi x y hx hy
  have ba := Lib.half_mul_le (a := x / 4294967296) (b := y / 4294967296) (by omega) (by omega)
  have bb := Lib.half_mul_le (a := x / 4294967296) (b := y % 4294967296) (by omega) (by omega)
  have bc := Lib.half_mul_le (a := x % 4294967296) (b := y / 4294967296) (by omega) (by omega)
  have ba' : x / 4294967296 * (y / 4294967296) < 18446744073709551616 := by omega
  have bb' : x / 4294967296 * (y % 4294967296) < 18446744073709551616 := by omega
  have bc' : x % 4294967296 * (y / 4294967296) < 18446744073709551616 := by omega
  have b1 : x / 4294967296 * (y / 4294967296) + (x / 4294967296 * (y % 4294967296) + x % 4294967296 * (y % 4294967296) / 4294967296) / 4294967296 < 18446744073709551616 := by omega
  have b2 : x / 4294967296 * (y / 4294967296) + (x / 4294967296 * (y % 4294967296) + x % 4294967296 * (y % 4294967296) / 4294967296) / 4294967296 + ((x / 4294967296 * (y % 4294967296) + x % 4294967296 * (y % 4294967296) / 4294967296) % 4294967296 + x % 4294967296 * (y / 4294967296)) / 4294967296 < 18446744073709551616 := by omega
  go_enter Tryd.func85, Tryd.ntmps85
  go_wp2
  simp only [Mul64.maskN x hx, Mul64.maskN y hy, Mul64.divN, Mul64.mulN, Mul64.addN, Mul64.wrapN _ bd, Mul64.wrapN _ bb', Mul64.wrapN _ bt, Mul64.maskN _ bt, Mul64.wrapN _ bc', Mul64.wrapN _ bw, Mul64.wrapN _ ba', Mul64.wrapN _ b1, Mul64.wrapN _ b2, Mul64.wrapM (x * y)]
  rw [hhi]
  go_ret2
  exact ⟨rfl, rfl⟩
theorem add64_any (x y c : Nat) (hc : c ≤ 1) (w : World) : (callFunc 86 #[.int .u64 (x : Int), .int .u64 (y : Int), .int .u64 (c : Int)]).run Tryd.prog w =
    .ok (.value (.tuple #[.int .u64 (((x + y + c) % 18446744073709551616 : Nat) : Int), .int .u64 (((x + y + c) / 18446744073709551616 : Nat) : Int)])) w := by
  rw [run_callFunc_extern Tryd.func86 (by kernel_rfl) (by kernel_rfl) (by kernel_rfl) (e := add64Entry) (by kernel_rfl), run_add64 x y c (by omega) (by omega) (by omega) (by omega)]
  simp only [Result.andThen]
  congr 5 <;> omega
theorem add64_none (x y : Nat) (w : World) : (callFunc 86 #[.int .u64 (x : Int), .int .u64 (y : Int), .int .u64 0]).run Tryd.prog w =
    .ok (.value (.tuple #[.int .u64 (((x + y) % 18446744073709551616 : Nat) : Int), .int .u64 (((x + y) / 18446744073709551616 : Nat) : Int)])) w := add64_any x y 0 (by decide) w
def sub64Entry : Array Value → Sem Value := fun args => do
  let (x, y, b) ← Extern.MathBitsCarry.three "Sub64" args
  pure (Extern.MathBitsCarry.pair ((x + Extern.MathBitsCarry.m64 - y - b) % Extern.MathBitsCarry.m64) (if x < y + b then 1 else 0))
theorem run_sub64 {P : Program} (x y k : Nat) (hk : k ≤ 1) (w : World) : (sub64Entry #[.int .u64 (x : Int), .int .u64 (y : Int), .int .u64 (k : Int)]).run P w =
    .ok (Extern.MathBitsCarry.pair ((x + Extern.MathBitsCarry.m64 - y - k) % Extern.MathBitsCarry.m64) (if x < y + k then 1 else 0)) w := by
  rcases (show k = 0 ∨ k = 1 by omega) with rfl | rfl <;> rfl
theorem sub64_any (x y c : Nat) (hc : c ≤ 1) (w : World) : (callFunc 74 #[.int .u64 (x : Int), .int .u64 (y : Int), .int .u64 (c : Int)]).run Tryd.prog w =
    .ok (.value (.tuple #[.int .u64 (((x + 18446744073709551616 - y - c) % 18446744073709551616 : Nat) : Int), .int .u64 (((if x < y + c then 1 else 0 : Nat)) : Int)])) w := by
  rw [run_callFunc_extern Tryd.func74 (by kernel_rfl) (by kernel_rfl) (by kernel_rfl) (e := sub64Entry) (by kernel_rfl), run_sub64 x y c hc]
  rfl
/-- x * y + s + o, as two words. -/
def stLo (x y s o : Nat) : Nat := (x * y + s + o) % 18446744073709551616
def stHi (x y s o : Nat) : Nat := (x * y + s + o) / 18446744073709551616
theorem step_parts (x y s o : Nat) (hx : x < 18446744073709551616) (hy : y < 18446744073709551616) (hs : s < 18446744073709551616) (ho : o < 18446744073709551616) (hi lo c1 c2 l1 l2 : Nat)
    (h1 : x * y / 18446744073709551616 = hi) (h2 : x * y % 18446744073709551616 = lo) (h3 : (lo + s) % 18446744073709551616 = l1) (h4 : (lo + s) / 18446744073709551616 = c1) (h5 : (l1 + o) % 18446744073709551616 = l2) (h6 : (l1 + o) / 18446744073709551616 = c2) :
    l2 = stLo x y s o ∧ hi + c1 + c2 = stHi x y s o ∧ hi + c1 + c2 < 18446744073709551616 := by
  have hxy : x * y ≤ 18446744073709551615 * 18446744073709551615 := Nat.mul_le_mul (by omega) (by omega)
  unfold stLo stHi
  generalize x * y = m at *
  omega
set_option maxHeartbeats 1600000 in
theorem step_any (x y s o : Nat) (w : World) (hx : x < 18446744073709551616) (hy : y < 18446744073709551616) (hs : s < 18446744073709551616) (ho : o < 18446744073709551616) :
    Calls Tryd.prog 80 #[.int .u64 (x : Int), .int .u64 (y : Int), .int .u64 (s : Int), .int .u64 (o : Int)] w fun e w' => e = .returned (.tuple #[.int .u64 ((stLo x y s o : Nat) : Int), .int .u64 ((stHi x y s o : Nat) : Int)]) ∧ w = w' := by
  obtain ⟨hi, h1⟩ : ∃ a, x * y / 18446744073709551616 = a := ⟨_, rfl⟩
  obtain ⟨lo, h2⟩ : ∃ a, x * y % 18446744073709551616 = a := ⟨_, rfl⟩
  obtain ⟨l1, h3⟩ : ∃ a, (lo + s) % 18446744073709551616 = a := ⟨_, rfl⟩
  obtain ⟨c1, h4⟩ : ∃ a, (lo + s) / 18446744073709551616 = a := ⟨_, rfl⟩
  obtain ⟨l2, h5⟩ : ∃ a, (l1 + o) % 18446744073709551616 = a := ⟨_, rfl⟩
  obtain ⟨c2, h6⟩ : ∃ a, (l1 + o) / 18446744073709551616 = a := ⟨_, rfl⟩
  obtain ⟨r1, r2, r3⟩ := step_parts x y s o hx hy hs ho hi lo c1 c2 l1 l2 h1 h2 h3 h4 h5 h6
  have hm := mul64_any x y hx hy w
  rw [h1, h2] at hm
  have a1 := fun w => add64_none lo s w
  rw [h3, h4] at a1
  have a2 := fun w => add64_none l1 o w
  rw [h5, h6] at a2
  have R1 : Hid (l2 = stLo x y s o) := r1
  have R2 : Hid (hi + c1 + c2 = stHi x y s o) := r2
  clear h1 h2 h3 h4 h5 h6 r1 r2
  go_enter Tryd.func80, Tryd.ntmps80
  go_wp2_with fail
  refine hm.mono ?_
  rintro e w' ⟨rfl, rfl⟩
  clear hm
  go_wp2_with (first | rw [a1 _] | rw [a2 _])
  go_ret2
  exact ⟨ret_two (by rw [R1.out]) (by rw [← R2.out]; go_num), rfl⟩
end Go.Proofs.YtgofapndgjfnhaaDoor.N
