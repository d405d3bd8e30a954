/-
  Layer 22, the law SlotsParse.
-/
import Derived.Test.YtagppgdigabbmaaSlotFace
import Derived.Test.YtagppgdigabbmaaSlotRef4
import Derived.Test.YtagppgdigabbmaaSlotEq
namespace Go.Proofs.Ytagppgdigabbmaa.N
open Go.RowKit
set_option linter.unusedVariables false
set_option maxRecDepth 8192

/-- Nine bytes, one by one. -/
theorem nine_of {x : List Int} (h : x.length = 9) : ∃ a b c d e f g i j, x = [a, b, c, d, e, f, g, i, j] := by
  match x, h with
  | [a, b, c, d, e, f, g, i, j], _ => exact ⟨a, b, c, d, e, f, g, i, j, rfl⟩
/-- What is read, by the program and by the document. -/
theorem both_nine {w : World} {a : Option Addr} {c : Nat} (z : List Int) (hr : Row .u8 w a 9 c z) (hx : IsB z) :
    (∃ s : Sl, maySl s = true ∧ (∀ W, Below w.heap.size w W → Calls Try.prog 23 #[.slice a 9 c] W fun e w' => e = .returned (.tuple #[.agg #[.int .i64 s.f, .int .i64 s.a.t, .bool s.a.g, .int .i64 s.b.t, .bool s.b.g], .int .i64 0]) ∧ Below W.heap.size W w') ∧
      ∀ W, Below w.heap.size w W → Calls Try.prog 24 #[.slice a 9 c] W fun e w' => e = .returned (.tuple #[.agg #[.int .i64 s.f, .int .i64 s.a.t, .bool s.a.g, .int .i64 s.b.t, .bool s.b.g], .bool true]) ∧ Below W.heap.size W w') ∨
    ((∀ W, Below w.heap.size w W → Calls Try.prog 23 #[.slice a 9 c] W fun e w' => e = .returned (.tuple #[.agg #[.int .i64 0, .int .i64 0, .bool false, .int .i64 0, .bool false], .int .i64 4]) ∧ Below W.heap.size W w') ∧
      ∀ W, Below w.heap.size w W → Calls Try.prog 24 #[.slice a 9 c] W fun e w' => e = .returned (.tuple #[.agg #[.int .i64 0, .int .i64 0, .bool false, .int .i64 0, .bool false], .bool false]) ∧ Below W.heap.size W w') := by
  obtain ⟨x0, x1, x2, x3, f, t0, g0, t1, g1, hz⟩ := nine_of hr.hlen
  obtain ⟨b, off, rfl, _, _⟩ := hr.hcell (by decide)
  have hp := fun W (q : Below w.heap.size w W) => sParse_nine z x0 x1 x2 x3 f t0 g0 t1 g1 hz (hr.below q (Nat.le_refl _)) hx ⟨f, ⟨t0, g0 != 0⟩, ⟨t1, g1 != 0⟩⟩ rfl
  have hd := fun W (q : Below w.heap.size w W) => refParse_nine z x0 x1 x2 x3 f t0 g0 t1 g1 hz (hr.below q (Nat.le_refl _)) hx ⟨f, ⟨t0, g0 == 1⟩, ⟨t1, g1 == 1⟩⟩ rfl
  have hm : maySl ⟨f, ⟨t0, g0 != 0⟩, ⟨t1, g1 != 0⟩⟩ = maySl ⟨f, ⟨t0, g0 == 1⟩, ⟨t1, g1 == 1⟩⟩ := rfl
  by_cases hb : (g0 = 0 ∨ g0 = 1) ∧ (g1 = 0 ∨ g1 = 1)
  · have e0 : (g0 != 0) = (g0 == 1) := by rcases hb.1 with rfl | rfl <;> rfl
    have e1 : (g1 != 0) = (g1 == 1) := by rcases hb.2 with rfl | rfl <;> rfl
    rw [e0, e1] at hp
    by_cases h : maySl ⟨f, ⟨t0, g0 == 1⟩, ⟨t1, g1 == 1⟩⟩ = true ∧ bytesSl ⟨f, ⟨t0, g0 == 1⟩, ⟨t1, g1 == 1⟩⟩ = z
    · exact .inl ⟨_, h.1, fun W q => (hp W q).mono fun e w' he => ⟨he.1 h.1 h.2, he.2.2⟩, fun W q => (hd W q).mono fun e w' he => ⟨he.1 h.1 h.2, he.2.2⟩⟩
    · exact .inr ⟨fun W q => (hp W q).mono fun e w' he => ⟨he.2.1 fun h1 h2 => h ⟨h1, h2⟩, he.2.2⟩, fun W q => (hd W q).mono fun e w' he => ⟨he.2.1 fun h1 h2 => h ⟨h1, h2⟩, he.2.2⟩⟩
  · have n0 : bytesSl ⟨f, ⟨t0, g0 != 0⟩, ⟨t1, g1 != 0⟩⟩ ≠ z := fun h => hb (by
      rw [hz] at h
      simp only [bytesSl, List.cons.injEq, and_true] at h
      obtain ⟨_, _, _, _, _, _, h6, _, h8⟩ := h
      exact ⟨bit_01 h6, bit_01 h8⟩)
    have n1 : bytesSl ⟨f, ⟨t0, g0 == 1⟩, ⟨t1, g1 == 1⟩⟩ ≠ z := fun h => hb (by
      rw [hz] at h
      simp only [bytesSl, List.cons.injEq, and_true] at h
      obtain ⟨_, _, _, _, _, _, h6, _, h8⟩ := h
      exact ⟨bit_01 h6, bit_01 h8⟩)
    exact .inr ⟨fun W q => (hp W q).mono fun e w' he => ⟨he.2.1 fun _ => n0, he.2.2⟩, fun W q => (hd W q).mono fun e w' he => ⟨he.2.1 fun _ => n1, he.2.2⟩⟩
set_option maxHeartbeats 1600000 in
theorem walk_slotsParse {a : Option Addr} {n c : Nat} {z : List Int} (w : World) (hr : Row .u8 w a n c z) (hx : IsB z) : Calls Try.prog 4 #[.slice a n c] w fun e w' => e = .returned (.bool true) ∧ Below w.heap.size w w' := by
  have hmx := hr.hmax
  have hcp := hr.hcap
  unfold maxLen at hmx
  by_cases hn : 100 < n
  · go_enter Try.func4, Try.ntmps4
    go_wp2
    go_ret
    exact ⟨rfl, Below.refl _ _⟩
  have key : (∃ s : Sl, (∀ W, Below w.heap.size w W → Calls Try.prog 23 #[.slice a n c] W fun e w' => e = .returned (.tuple #[.agg #[.int .i64 s.f, .int .i64 s.a.t, .bool s.a.g, .int .i64 s.b.t, .bool s.b.g], .int .i64 0]) ∧ Below W.heap.size W w') ∧
      ∀ W, Below w.heap.size w W → Calls Try.prog 24 #[.slice a n c] W fun e w' => e = .returned (.tuple #[.agg #[.int .i64 s.f, .int .i64 s.a.t, .bool s.a.g, .int .i64 s.b.t, .bool s.b.g], .bool true]) ∧ Below W.heap.size W w') ∨
    ((∀ W, Below w.heap.size w W → Calls Try.prog 23 #[.slice a n c] W fun e w' => e = .returned (.tuple #[.agg #[.int .i64 0, .int .i64 0, .bool false, .int .i64 0, .bool false], .int .i64 4]) ∧ Below W.heap.size W w') ∧
      ∀ W, Below w.heap.size w W → Calls Try.prog 24 #[.slice a n c] W fun e w' => e = .returned (.tuple #[.agg #[.int .i64 0, .int .i64 0, .bool false, .int .i64 0, .bool false], .bool false]) ∧ Below W.heap.size W w') := by
    by_cases h9 : n = 9
    · subst h9
      rcases both_nine z hr hx with ⟨s, _, h1, h2⟩ | h
      · exact .inl ⟨s, h1, h2⟩
      · exact .inr h
    · exact .inr ⟨fun W q => sParse_len (hr.below q (Nat.le_refl _)) h9, fun W q => refParse_len (hr.below q (Nat.le_refl _)) h9⟩
  clear hr hx
  rcases key with ⟨s, hp, hd⟩ | ⟨hp, hd⟩
  · go_enter Try.func4, Try.ntmps4
    go_wp2_with fail
    refine (hp _ (Below.refl _ _)).mono ?_
    rintro e w1 ⟨rfl, q1⟩
    have V1 := (Vars.start w).call q1
    clear q1
    go_wp2_with (first
      | (refine wpList_allocV V1 3 26 rfl rfl rfl #[.int .i64 0, .int .i64 0, .bool false, .int .i64 0, .bool false] zeroSl ?_; intro w2 g2 V2)
      | (refine wpList_storeV V2 0 rfl _ (.tmp 13) rfl rfl rfl #[.int .i64 s.f, .int .i64 s.a.t, .bool s.a.g, .int .i64 s.b.t, .bool s.b.g] rfl rfl Try.szSl rfl rfl (slX_one _ _ _ _ _) ?_; intro w3 V3))
    refine (hd _ V3.bel).mono ?_
    rintro e w4 ⟨rfl, q4⟩
    have V4 := V3.call q4
    clear q4 V1 V2 V3
    go_wp2_with (first
      | (refine wpList_allocV V4 5 26 rfl rfl rfl #[.int .i64 0, .int .i64 0, .bool false, .int .i64 0, .bool false] zeroSl ?_; intro w5 g5 V5)
      | (refine wpList_storeV V5 0 rfl _ (.tmp 18) rfl rfl rfl #[.int .i64 s.f, .int .i64 s.a.t, .bool s.a.g, .int .i64 s.b.t, .bool s.b.g] rfl rfl Try.szSl rfl rfl (slX_one _ _ _ _ _) ?_; intro w6 V6))
    refine (awake22_any _).mono ?_
    rintro e w7 ⟨rfl, q7⟩
    have V7 := V6.call q7
    clear q7 V4 V5 V6
    go_wp2_with (first
      | (refine wpList_exec rfl (exec_loadT V7 1 rfl (.tmp 3) rfl rfl Try.underlying26 rfl Try.szSl rfl) ?_)
      | (refine wpList_exec rfl (exec_loadT V7 0 rfl (.tmp 5) rfl rfl Try.underlying26 rfl Try.szSl rfl) ?_)
      | (refine wpList_exec rfl (exec_eqlSl s (.tmp 38) (.tmp 39) rfl rfl rfl) ?_))
    go_ret
    exact ⟨rfl, V7.bel⟩
  · go_enter Try.func4, Try.ntmps4
    go_wp2_with fail
    refine (hp _ (Below.refl _ _)).mono ?_
    rintro e w1 ⟨rfl, q1⟩
    have V1 := (Vars.start w).call q1
    clear q1
    go_wp2_with (first
      | (refine wpList_allocV V1 3 26 rfl rfl rfl #[.int .i64 0, .int .i64 0, .bool false, .int .i64 0, .bool false] zeroSl ?_; intro w2 g2 V2)
      | (refine wpList_storeV V2 0 rfl _ (.tmp 13) rfl rfl rfl #[.int .i64 0, .int .i64 0, .bool false, .int .i64 0, .bool false] rfl rfl Try.szSl rfl rfl (slX_one _ _ _ _ _) ?_; intro w3 V3))
    refine (hd _ V3.bel).mono ?_
    rintro e w4 ⟨rfl, q4⟩
    have V4 := V3.call q4
    clear q4 V1 V2 V3
    go_wp2_with (first
      | (refine wpList_allocV V4 5 26 rfl rfl rfl #[.int .i64 0, .int .i64 0, .bool false, .int .i64 0, .bool false] zeroSl ?_; intro w5 g5 V5)
      | (refine wpList_storeV V5 0 rfl _ (.tmp 18) rfl rfl rfl #[.int .i64 0, .int .i64 0, .bool false, .int .i64 0, .bool false] rfl rfl Try.szSl rfl rfl (slX_one _ _ _ _ _) ?_; intro w6 V6))
    refine (awake22_any _).mono ?_
    rintro e w7 ⟨rfl, q7⟩
    have V7 := V6.call q7
    clear q7 V4 V5 V6
    go_wp2_with (first
      | (refine wpList_exec rfl (exec_loadT V7 1 rfl (.tmp 3) rfl rfl Try.underlying26 rfl Try.szSl rfl) ?_)
      | (refine wpList_exec rfl (exec_eqlSl sl0 (.tmp 28) (.tmp 29) rfl rfl rfl) ?_))
    go_ret
    exact ⟨rfl, V7.bel⟩
end Go.Proofs.Ytagppgdigabbmaa.N
