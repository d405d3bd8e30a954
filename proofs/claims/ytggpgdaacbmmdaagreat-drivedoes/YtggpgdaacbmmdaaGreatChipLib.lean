/-
  The library's functions that chip calls: math/bits.Mul, maps.Keys, slices.Collect (the shelf's contracts, laid in plain words), slices.Repeat (walked). (Written by tools/gen/chip_lib.py.)
-/
import Derived.Shelf.SlIterI.Nil
import Derived.Shelf.Bits.Mul64
import Derived.RangeFuncCalls
import Derived.Test.YtggpgdaacbmmdaaGreatMapIs
import Derived.Test.YtggpgdaacbmmdaaGreatChipLow
namespace Go.Proofs.YtggpgdaacbmmdaaGreat
open Go.RowKit Go.Maps Go.Sort Go.Shelf
set_option linter.unusedVariables false
set_option maxRecDepth 8192

def libRen : Go.Shelf.Ren := ⟨fun | 7 => 87 | 10 => 112 | 8 => 86 | 11 => 111 | n => n, fun | 23 => 67 | 26 => 3 | 3 => 104 | 28 => 123 | 0 => 0 | 27 => 122 | 33 => 71 | 4 => 4 | 24 => 42 | n => n, fun n => n⟩
theorem keysL : SlLaysZI.n7 Tryz.prog libRen where
  mixed := by kernel_rfl
  f7 := ⟨Tryz.f87.name, by decide, Tryz.func87.trans (congrArg some (by kernel_rfl))⟩
  f10 := ⟨Tryz.f112.name, by decide, Tryz.func112.trans (congrArg some (by kernel_rfl))⟩
  t0 := Tryz.underlying0
  a0 := Tryz.isAgg0
  z0 := Tryz.sizeOf0
  v0 := Tryz.zeroValue0
  t4 := Tryz.underlying4
  a4 := Tryz.isAgg4
  z4 := Tryz.sizeOf4
  v4 := Tryz.zeroValue4
  t23 := Tryz.underlying67
  a23 := Tryz.isAgg67
  z23 := Tryz.sizeOf67
  v23 := Tryz.zeroValue67
  t26 := Tryz.underlying3
  a26 := Tryz.isAgg3
  z26 := Tryz.sizeOf3
  v26 := Tryz.zeroValue3
  t27 := Tryz.underlying122
  a27 := Tryz.isAgg122
  z27 := Tryz.sizeOf122
  v27 := Tryz.zeroValue122
  t28 := Tryz.underlying123
  a28 := Tryz.isAgg123
  z28 := Tryz.sizeOf123
  v28 := Tryz.zeroValue123
  t33 := Tryz.underlying71
  a33 := Tryz.isAgg71
  z33 := Tryz.sizeOf71
  v33 := Tryz.zeroValue71
theorem collL : SlLaysZI.n8 Tryz.prog libRen where
  mixed := by kernel_rfl
  f8 := ⟨Tryz.f86.name, by decide, Tryz.func86.trans (congrArg some (by kernel_rfl))⟩
  f11 := ⟨Tryz.f111.name, by decide, Tryz.func111.trans (congrArg some (by kernel_rfl))⟩
  t0 := Tryz.underlying0
  a0 := Tryz.isAgg0
  z0 := Tryz.sizeOf0
  v0 := Tryz.zeroValue0
  t24 := Tryz.underlying42
  a24 := Tryz.isAgg42
  z24 := Tryz.sizeOf42
  v24 := Tryz.zeroValue42
  t26 := Tryz.underlying3
  a26 := Tryz.isAgg3
  z26 := Tryz.sizeOf3
  v26 := Tryz.zeroValue3
  t28 := Tryz.underlying123
  a28 := Tryz.isAgg123
  z28 := Tryz.sizeOf123
  v28 := Tryz.zeroValue123
  i26 := by kernel_rfl
def mulRen : Go.Shelf.Ren := ⟨fun | 212 => 138 | 263 => 154 | 264 => 155 | n => n, fun | 46 => 158 | 51 => 172 | 146 => 173 | 53 => 175 | 148 => 176 | n => n, fun n => n⟩
theorem mulLays : Lays.n212 Tryz.prog mulRen where
  mixed := by kernel_rfl
  f212 := Tryz.func138.trans (congrArg some (by kernel_rfl))
  f263 := Tryz.func154.trans (congrArg some (by kernel_rfl))
  f264 := Tryz.func155.trans (congrArg some (by kernel_rfl))
  t46 := Tryz.underlying158
  a46 := Tryz.isAgg158
  z46 := Tryz.sizeOf158
  v46 := Tryz.zeroValue158
  t51 := Tryz.underlying172
  a51 := Tryz.isAgg172
  z51 := Tryz.sizeOf172
  v51 := Tryz.zeroValue172
  t53 := Tryz.underlying175
  a53 := Tryz.isAgg175
  z53 := Tryz.sizeOf175
  v53 := Tryz.zeroValue175
  t146 := Tryz.underlying173
  a146 := Tryz.isAgg173
  z146 := Tryz.sizeOf173
  v146 := Tryz.zeroValue173
  t148 := Tryz.underlying176
  a148 := Tryz.isAgg176
  z148 := Tryz.sizeOf176
  v148 := Tryz.zeroValue176

theorem mul_any (x y : Nat) (hx : x < 18446744073709551616) (hy : y < 18446744073709551616) (w : World) :
    Calls Tryz.prog 138 #[.int .u64 x, .int .u64 y] w fun e w' => e = .returned (.tuple #[.int .u64 ((x * y / 18446744073709551616 : Nat) : Int), .int .u64 ((x * y % 18446744073709551616 : Nat) : Int)]) ∧ w' = w := Any.bits_Mul mulLays x y hx hy w

/-- maps.Keys: the map in a box. -/
theorem keys_any (mb : Option Nat) (w : World) : Calls Tryz.prog 87 #[.map mb] w fun e w' =>
    e = .returned (.func (.func 112) #[] #[.pointer (some ⟨w.heap.size, 0, none⟩)]) ∧ w' = w.alloc (.cells #[.map mb] 67) :=
  (callsIn_wide (n := 1)).1 (AnyZI.keys_in keysL _ 1 trivial rfl mb w)

theorem enters_keys1 : ∀ args w, (callFunc 112 args).run Tryz.prog w = .ok (.enter 112 args) w := keysL.f10.enters rfl

/-- slices.Collect of the keys of a map: each once, in some order. -/
theorem collect_some (Bm b n : Nat) (m : Value → Option Value) (w : World) (hBm : Bm < w.heap.size) (hm : w.cell? ⟨Bm, 0, none⟩ = some (.map (some b))) (hown : MapIs Tryz.prog 3 w b n m) (hn : n ≤ 1000000) :
    Calls Tryz.prog 86 #[.func (.func 112) #[] #[.pointer (some ⟨Bm, 0, none⟩)]] w fun e w' => ∃ (v : Value) (ss : List Int), e = .returned v ∧
      (ss.Nodup ∧ (∀ x ∈ ss, (Lit.int .i64 x).wf = true) ∧ ∀ x, (Lit.int .i64 x).wf = true → (x ∈ ss ↔ (m (.int .i64 x)).isSome = true)) ∧ w'.ownsRow w.heap.size 3 1 v ss.length (ss.map (Value.int .i64)) ∧ Below w.heap.size w w' := by
  obtain ⟨D, hD, hmD⟩ := hown
  have hsz := hD.size_le
  have hK : Keyed Tryz.prog 3 := int_keyed Tryz.underlying3
  refine ((callsIn_wide (n := 5)).1 (AnyZI.collect_in collL Fence.wide 5 trivial trivial rfl (by omega) 112 #[.pointer (some ⟨Bm, 0, none⟩)] trivial enters_keys1
    (fun ss => ss.Perm (intKeys D)) (Maps.size D) (by unfold maxLen; omega) (by omega) w (AnyZI.keys_gives { keysL with } Fence.wide _ trivial rfl (by omega) Bm b n D w hBm hm hD))).mono ?_
  rintro e w' ⟨v, ss, rfl, hS, hrow, _, hb⟩
  obtain ⟨es, hes, hpw⟩ := hD.tidy hK
  have hkeys : ∀ p ∈ es, ∃ x, p.1 = .int .i64 x ∧ (Lit.int .i64 x).wf = true := by
    obtain ⟨es', clock, _, F, _, hDe⟩ := hD
    rw [hes] at hDe
    have e1 := (DataW.map.inj hDe)
    intro p hp
    rw [e1] at hp
    obtain ⟨v', hv'⟩ := Maps.fit_keys F p ((WideShapes.sorted_perm _).mem_iff.1 hp)
    obtain ⟨x, _, hx, hw⟩ := Maps.keyOf_i64 Tryz.underlying3 hv'
    exact ⟨x, hx, hw⟩
  have hmem : ∀ x, x ∈ intKeys D ↔ Maps.has D (.int .i64 x) = true := by
    intro x
    rw [hes]
    show x ∈ es.map (fun p => intOf p.1) ↔ es.any (fun p => p.1.sameKey (.int .i64 x)) = true
    rw [List.mem_map, List.any_eq_true]
    constructor
    · rintro ⟨p, hp, rfl⟩
      obtain ⟨y, hy, _⟩ := hkeys p hp
      refine ⟨p, hp, ?_⟩
      rw [hy]
      exact WideAt.sameKey_self trivial
    · rintro ⟨p, hp, hs⟩
      exact ⟨p, hp, by rw [WideAt.sameKey_eq hs]; rfl⟩
  have hnd : (intKeys D).Nodup := by
    rw [hes]
    show (es.map (fun p => intOf p.1)).Nodup
    rw [List.Nodup, List.pairwise_map]
    refine List.Pairwise.imp_of_mem ?_ hpw
    intro p q hp hq hne he
    obtain ⟨x, hx, _⟩ := hkeys p hp
    obtain ⟨y, hy, _⟩ := hkeys q hq
    rw [hx, hy] at he hne
    exact hne (by rw [show x = y from he])
  refine ⟨v, ss, rfl, ⟨hS.nodup_iff.2 hnd, fun x hx => ?_, fun x hx => ?_⟩, hrow, hb⟩
  · have h1 := (hmem x).1 (hS.mem_iff.1 hx)
    rw [hes] at h1
    obtain ⟨p, hp, hs⟩ := List.any_eq_true.1 h1
    obtain ⟨y, hy, hw⟩ := hkeys p hp
    rw [WideAt.sameKey_eq hs] at hy
    cases hy
    exact hw
  · rw [hS.mem_iff, hmem x, (hmD _ _ (keyOf_int_mk Tryz.underlying3 hx)).1]

/-- slices.Collect of the keys of a nil map. -/
theorem collect_none (Bm : Nat) (w : World) (hBm : Bm < w.heap.size) (hm : w.cell? ⟨Bm, 0, none⟩ = some (.map none)) :
    Calls Tryz.prog 86 #[.func (.func 112) #[] #[.pointer (some ⟨Bm, 0, none⟩)]] w fun e w' => ∃ (v : Value) (ss : List Int), e = .returned v ∧
      ss = [] ∧ w'.ownsRow w.heap.size 3 1 v ss.length (ss.map (Value.int .i64)) ∧ Below w.heap.size w w' := by
  refine ((callsIn_wide (n := 5)).1 (AnyZI.collect_in collL Fence.wide 5 trivial trivial rfl (by omega) 112 #[.pointer (some ⟨Bm, 0, none⟩)] trivial enters_keys1
    (fun ss => ss = []) 0 (by unfold maxLen; omega) (by omega) w (AnyZI.keys_gives_nil { keysL with } Fence.wide _ trivial rfl Bm w hBm hm))).mono ?_
  rintro e w' ⟨v, ss, rfl, hS, hrow, _, hb⟩
  exact ⟨v, ss, rfl, hS, hrow, hb⟩
end Go.Proofs.YtggpgdaacbmmdaaGreat
