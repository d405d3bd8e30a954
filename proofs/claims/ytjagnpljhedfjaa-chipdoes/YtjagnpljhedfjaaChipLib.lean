/-
  The library's functions that chip calls: math/bits.Mul, maps.Keys, slices.Collect (the shelf's contracts, laid in plain words), slices.Repeat (walked). (Written by tools/gen/chip_lib.py.)
-/
import Derived.Shelf.SlIterI.Nil
import Derived.Shelf.Bits.Mul64
import Derived.RangeFuncCalls
import Derived.Test.YtjagnpljhedfjaaMapIs
import Derived.Test.YtjagnpljhedfjaaChipLow
namespace Go.Proofs.Ytjagnpljhedfjaa
open Go.RowKit Go.Maps Go.Sort Go.Shelf
set_option linter.unusedVariables false
set_option maxRecDepth 8192

def libRen : Go.Shelf.Ren := ⟨fun | 7 => 53 | 10 => 72 | 8 => 52 | 11 => 71 | n => n, fun | 23 => 65 | 26 => 3 | 3 => 85 | 28 => 83 | 0 => 0 | 27 => 82 | 33 => 53 | 4 => 4 | 24 => 24 | n => n, fun n => n⟩
theorem keysL : SlLaysZI.n7 Try.prog libRen where
  mixed := by kernel_rfl
  f7 := ⟨Try.f53.name, by decide, Try.func53.trans (congrArg some (by kernel_rfl))⟩
  f10 := ⟨Try.f72.name, by decide, Try.func72.trans (congrArg some (by kernel_rfl))⟩
  t0 := Try.underlying0
  a0 := Try.isAgg0
  z0 := Try.sizeOf0
  v0 := Try.zeroValue0
  t4 := Try.underlying4
  a4 := Try.isAgg4
  z4 := Try.sizeOf4
  v4 := Try.zeroValue4
  t23 := Try.underlying65
  a23 := Try.isAgg65
  z23 := Try.sizeOf65
  v23 := Try.zeroValue65
  t26 := Try.underlying3
  a26 := Try.isAgg3
  z26 := Try.sizeOf3
  v26 := Try.zeroValue3
  t27 := Try.underlying82
  a27 := Try.isAgg82
  z27 := Try.sizeOf82
  v27 := Try.zeroValue82
  t28 := Try.underlying83
  a28 := Try.isAgg83
  z28 := Try.sizeOf83
  v28 := Try.zeroValue83
  t33 := Try.underlying53
  a33 := Try.isAgg53
  z33 := Try.sizeOf53
  v33 := Try.zeroValue53
theorem collL : SlLaysZI.n8 Try.prog libRen where
  mixed := by kernel_rfl
  f8 := ⟨Try.f52.name, by decide, Try.func52.trans (congrArg some (by kernel_rfl))⟩
  f11 := ⟨Try.f71.name, by decide, Try.func71.trans (congrArg some (by kernel_rfl))⟩
  t0 := Try.underlying0
  a0 := Try.isAgg0
  z0 := Try.sizeOf0
  v0 := Try.zeroValue0
  t24 := Try.underlying24
  a24 := Try.isAgg24
  z24 := Try.sizeOf24
  v24 := Try.zeroValue24
  t26 := Try.underlying3
  a26 := Try.isAgg3
  z26 := Try.sizeOf3
  v26 := Try.zeroValue3
  t28 := Try.underlying83
  a28 := Try.isAgg83
  z28 := Try.sizeOf83
  v28 := Try.zeroValue83
  i26 := by kernel_rfl
def mulRen : Go.Shelf.Ren := ⟨fun | 212 => 82 | 263 => 84 | 264 => 85 | n => n, fun | 46 => 103 | 51 => 106 | 146 => 107 | 53 => 109 | 148 => 110 | n => n, fun n => n⟩
theorem mulL : Lays.n212 Try.prog mulRen where
  mixed := by kernel_rfl
  f212 := Try.func82.trans (congrArg some (by kernel_rfl))
  f263 := Try.func84.trans (congrArg some (by kernel_rfl))
  f264 := Try.func85.trans (congrArg some (by kernel_rfl))
  t46 := Try.underlying103
  a46 := Try.isAgg103
  z46 := Try.sizeOf103
  v46 := Try.zeroValue103
  t51 := Try.underlying106
  a51 := Try.isAgg106
  z51 := Try.sizeOf106
  v51 := Try.zeroValue106
  t53 := Try.underlying109
  a53 := Try.isAgg109
  z53 := Try.sizeOf109
  v53 := Try.zeroValue109
  t146 := Try.underlying107
  a146 := Try.isAgg107
  z146 := Try.sizeOf107
  v146 := Try.zeroValue107
  t148 := Try.underlying110
  a148 := Try.isAgg110
  z148 := Try.sizeOf110
  v148 := Try.zeroValue110

theorem mul_any (x y : Nat) (hx : x < 18446744073709551616) (hy : y < 18446744073709551616) (w : World) :
    Calls Try.prog 82 #[.int .u64 x, .int .u64 y] w fun e w' => e = .returned (.tuple #[.int .u64 ((x * y / 18446744073709551616 : Nat) : Int), .int .u64 ((x * y % 18446744073709551616 : Nat) : Int)]) ∧ w' = w := Any.bits_Mul mulL x y hx hy w

/-- maps.Keys: the map in a box. -/
theorem keys_any (mb : Option Nat) (w : World) : Calls Try.prog 53 #[.map mb] w fun e w' =>
    e = .returned (.func (.func 72) #[] #[.pointer (some ⟨w.heap.size, 0, none⟩)]) ∧ w' = w.alloc (.cells #[.map mb] 65) :=
  (callsIn_wide (n := 1)).1 (AnyZI.keys_in keysL _ 1 trivial rfl mb w)

theorem enters_keys1 : ∀ args w, (callFunc 72 args).run Try.prog w = .ok (.enter 72 args) w := keysL.f10.enters rfl

/-- slices.Collect of the keys of a map: each once, in some order. -/
theorem collect_some (Bm b n : Nat) (m : Value → Option Value) (w : World) (hBm : Bm < w.heap.size) (hm : w.cell? ⟨Bm, 0, none⟩ = some (.map (some b))) (hown : MapIs Try.prog 3 w b n m) (hn : n ≤ 1000000) :
    Calls Try.prog 52 #[.func (.func 72) #[] #[.pointer (some ⟨Bm, 0, none⟩)]] w fun e w' => ∃ (v : Value) (ss : List Int), e = .returned v ∧
      (ss.Nodup ∧ (∀ x ∈ ss, (Lit.int .i64 x).wf = true) ∧ ∀ x, (Lit.int .i64 x).wf = true → (x ∈ ss ↔ (m (.int .i64 x)).isSome = true)) ∧ w'.ownsRow w.heap.size 3 1 v ss.length (ss.map (Value.int .i64)) ∧ Below w.heap.size w w' := by
  obtain ⟨D, hD, hmD⟩ := hown
  have hsz := hD.size_le
  have hK : Keyed Try.prog 3 := int_keyed Try.underlying3
  refine ((callsIn_wide (n := 5)).1 (AnyZI.collect_in collL Fence.wide 5 trivial trivial rfl (by omega) 72 #[.pointer (some ⟨Bm, 0, none⟩)] trivial enters_keys1
    (fun ss => ss.Perm (intKeys D)) (Maps.size D) (by unfold maxLen; omega) (by omega) w (AnyZI.keys_gives { keysL with } Fence.wide _ trivial rfl (by omega) Bm b n D w hBm hm hD))).mono ?_
  rintro e w' ⟨v, ss, rfl, hS, hrow, _, hb⟩
  obtain ⟨es, hes, hpw⟩ := hD.tidy hK
  have hkeys : ∀ p ∈ es, ∃ x, p.1 = .int .i64 x ∧ (Lit.int .i64 x).wf = true := by
    obtain ⟨es', clock, _, F, _, hDe⟩ := hD
    rw [hes] at hDe
    have e1 := (DataW.map.inj hDe)
    intro p hp
    rw [e1] at hp
    obtain ⟨v', hv'⟩ := Maps.fit_keys F p ((WideShapes.sorted_perm _).mem_iff.1 hp)
    obtain ⟨x, _, hx, hw⟩ := Maps.keyOf_i64 Try.underlying3 hv'
    exact ⟨x, hx, hw⟩
  have hmem : ∀ x, x ∈ intKeys D ↔ Maps.has D (.int .i64 x) = true := by
    intro x
    rw [hes]
    show x ∈ es.map (fun p => intOf p.1) ↔ es.any (fun p => p.1.sameKey (.int .i64 x)) = true
    rw [List.mem_map, List.any_eq_true]
    constructor
    · rintro ⟨p, hp, rfl⟩
      obtain ⟨y, hy, _⟩ := hkeys p hp
      refine ⟨p, hp, ?_⟩
      rw [hy]
      exact WideAt.sameKey_self trivial
    · rintro ⟨p, hp, hs⟩
      exact ⟨p, hp, by rw [WideAt.sameKey_eq hs]; rfl⟩
  have hnd : (intKeys D).Nodup := by
    rw [hes]
    show (es.map (fun p => intOf p.1)).Nodup
    rw [List.Nodup, List.pairwise_map]
    refine List.Pairwise.imp_of_mem ?_ hpw
    intro p q hp hq hne he
    obtain ⟨x, hx, _⟩ := hkeys p hp
    obtain ⟨y, hy, _⟩ := hkeys q hq
    rw [hx, hy] at he hne
    exact hne (by rw [show x = y from he])
  refine ⟨v, ss, rfl, ⟨hS.nodup_iff.2 hnd, fun x hx => ?_, fun x hx => ?_⟩, hrow, hb⟩
  · have h1 := (hmem x).1 (hS.mem_iff.1 hx)
    rw [hes] at h1
    obtain ⟨p, hp, hs⟩ := List.any_eq_true.1 h1
    obtain ⟨y, hy, hw⟩ := hkeys p hp
    rw [WideAt.sameKey_eq hs] at hy
    cases hy
    exact hw
  · rw [hS.mem_iff, hmem x, (hmD _ _ (keyOf_int_mk Try.underlying3 hx)).1]

/-- slices.Collect of the keys of a nil map. -/
theorem collect_none (Bm : Nat) (w : World) (hBm : Bm < w.heap.size) (hm : w.cell? ⟨Bm, 0, none⟩ = some (.map none)) :
    Calls Try.prog 52 #[.func (.func 72) #[] #[.pointer (some ⟨Bm, 0, none⟩)]] w fun e w' => ∃ (v : Value) (ss : List Int), e = .returned v ∧
      ss = [] ∧ w'.ownsRow w.heap.size 3 1 v ss.length (ss.map (Value.int .i64)) ∧ Below w.heap.size w w' := by
  refine ((callsIn_wide (n := 5)).1 (AnyZI.collect_in collL Fence.wide 5 trivial trivial rfl (by omega) 72 #[.pointer (some ⟨Bm, 0, none⟩)] trivial enters_keys1
    (fun ss => ss = []) 0 (by unfold maxLen; omega) (by omega) w (AnyZI.keys_gives_nil { keysL with } Fence.wide _ trivial rfl Bm w hBm hm))).mono ?_
  rintro e w' ⟨v, ss, rfl, hS, hrow, _, hb⟩
  exact ⟨v, ss, rfl, hS, hrow, hb⟩
end Go.Proofs.Ytjagnpljhedfjaa
