/-
  The code of layer 13 (sha256): put, padding, slices.Grow, slices.Concat, Pad.
-/
import Derived.Test.YthcnnglpncblaaaShaCode4
import Derived.Lib.AppendZeros
namespace Go.Proofs.Ythcnnglpncblaaa
open Go.RowKit
set_option linter.unusedVariables false
set_option maxRecDepth 8192

/-- x in n bytes, the highest first. -/
def beN (n x : Nat) : List Nat := (List.range n).map fun j => x / 256 ^ (n - 1 - j) % 256
theorem beN_length (n x : Nat) : (beN n x).length = n := by simp [beN]
theorem beN_eight (x : Nat) : beN 8 x = be8 x := by simp [beN, be8, List.range, List.range.loop]
theorem beN_four (x : Nat) : beN 4 x = be4 x := by simp [beN, be4, List.range, List.range.loop]
theorem beN_get (n x k : Nat) (h : k < n) : (beN n x)[k]?.getD 0 = x / 256 ^ (n - 1 - k) % 256 := by simp [beN, h]
/-- l with what of b is laid from its end down to k, from off on. -/
def spL (l b : List Nat) (off n k : Nat) : List Nat := l.take (off + k) ++ (b.drop k ++ l.drop (off + n))
theorem spL_length {l b : List Nat} {off n k : Nat} (hb : b.length = n) (h : off + n ≤ l.length) (hk : k ≤ n) : (spL l b off n k).length = l.length := by simp [spL]; omega
theorem spL_full {l b : List Nat} {off n : Nat} (hb : b.length = n) (h : off + n ≤ l.length) : spL l b off n n = l := by
  unfold spL
  rw [List.drop_of_length_le (show b.length ≤ n by omega), List.nil_append, List.take_append_drop]
theorem spL_next {l b : List Nat} {off n k : Nat} (hb : b.length = n) (h : off + n ≤ l.length) (hk : k < n) : (spL l b off n (k + 1)).set (off + k) (b[k]?.getD 0) = spL l b off n k := by
  unfold spL
  have h1 : l.take (off + (k + 1)) = l.take (off + k) ++ [l[off + k]?.getD 0] := by rw [← Nat.add_assoc]; exact take_snocN l (off + k) (by omega)
  have h2 : (l.take (off + k)).length = off + k := by simp; omega
  rw [h1, List.append_assoc, List.set_append_right _ _ (by omega), h2, Nat.sub_self, List.singleton_append, List.set_cons_zero, List.getElem?_eq_getElem (show k < b.length by omega), List.drop_eq_getElem_cons (show k < b.length by omega)]
  rfl
set_option maxHeartbeats 1600000 in
theorem grow13_any (n : Nat) (w : World) (h0 : 0 < n) (hn : n ≤ 1000000) : Calls Try.prog 41 #[.slice none 0 0, .int .i64 (n : Int)] w fun e w' =>
    ∃ v, e = .returned v ∧ w'.ownsRow w.heap.size 5 1 v 0 [] ∧ Below w.heap.size w w' := by
  obtain ⟨i0, hi0, hz0, hz1, hz2⟩ := info_parts Try.info5
  have hrun := Lib.run_append_nil_zeros w 29 3 29 5 i0 (.int .u8 0) .i64 .i64 Try.underlying29 Try.underlying3 hi0 hz0 n h0 (by rw [hz1]; decide) (by omega) (by rw [hz2]; omega)
  have hge := grownCap_ge w n 0 5
  have hle := grownCap_le_maxLen w n 0 5 (by unfold maxLen; omega)
  generalize grownCap w n 0 5 = cp at *
  go_enter Try.func41, Try.ntmps41
  go_wp2_with (at_builtin; refine Lib.wpList_append_run _ rfl _ _ _ _ rfl _ _ rfl rfl _ _ hrun ?_)
  go_ret
  exact ⟨_, rfl, ⟨rfl, .inr ⟨w.heap.size, cp, _, rfl, Nat.le_refl _, heap_alloc_last w _, Nat.zero_le _, hle, by simp [size_zeroCells]; omega, by simp⟩⟩, (below_one w _).drew⟩
set_option maxHeartbeats 3200000 in
theorem concat13_any (z1 z2 : List Nat) (a1 a2 : Option Addr) (l1 c1 l2 c2 b : Nat) (w : World) (h1 : Row .u8 w a1 l1 c1 (nI z1)) (h2 : Row .u8 w a2 l2 c2 (nI z2)) (hb : b < w.heap.size) (hc0 : w.cell? ⟨b, 0, none⟩ = some (.slice a1 l1 c1)) (hc1 : w.cell? ⟨b, 1, none⟩ = some (.slice a2 l2 c2))
    (hl1 : l1 ≤ 100000) (hl2 : l2 ≤ 100000) (h0 : 0 < l2) :
    Calls Try.prog 31 #[.slice (some ⟨b, 0, none⟩) 2 2] w fun e w' => ∃ v, e = .returned v ∧ w'.ownsRow w.heap.size 5 1 v (l1 + l2) ((nI (z1 ++ z2)).map (Value.int .u8)) ∧ Below w.heap.size w w' := by
  obtain ⟨i0, hi0, hz0, hz1, hz2⟩ := info_parts Try.info5
  go_enter Try.func31, Try.ntmps31
  go_wp2
  go_loop [3, 11] (fun s i => (i = .int .i64 0 ∧ s = .int .i64 0) ∨ (i = .int .i64 1 ∧ s = .int .i64 (l1 : Int)) ∨ (i = .int .i64 2 ∧ s = .int .i64 ((l1 + l2 : Nat) : Int))) (fun _ i => 2 - (intOf i).toNat)
  case atStart => exact .inl ⟨rfl, rfl⟩
  case round =>
    rcases hrel with ⟨rfl, rfl⟩ | ⟨rfl, rfl⟩ | ⟨rfl, rfl⟩
    · have p1 : ¬ (l1 : Int) < 0 := by omega
      go_wp2
      go_round
      case rel => exact .inr (.inl ⟨rfl, rfl⟩)
      case measure => decide
    · have p1 : ¬ (l1 : Int) + (l2 : Int) < 0 := by omega
      go_wp2
      go_round
      case rel => exact .inr (.inr ⟨rfl, by go_num⟩)
      case measure => decide
    · go_wp2_with fail
      refine (grow13_any (l1 + l2) w (by omega) (by omega)).mono ?_
      rintro e w1 ⟨v, rfl, own1, q1⟩
      go_wp2
      go_loopw [6, 27] (fun v i wr => ((i = .int .i64 0 ∧ Hid (wr.ownsRow w.heap.size 5 1 v 0 [])) ∨ (i = .int .i64 1 ∧ Hid (wr.ownsRow w.heap.size 5 1 v l1 ((nI z1).map (Value.int .u8)))) ∨ (i = .int .i64 2 ∧ Hid (wr.ownsRow w.heap.size 5 1 v (l1 + l2) ((nI (z1 ++ z2)).map (Value.int .u8))))) ∧ Hid (Below w.heap.size w wr)) (fun _ i _ => 2 - (intOf i).toNat)
      case atStart => exact ⟨.inl ⟨rfl, own1⟩, q1⟩
      case round =>
        clear own1 q1
        obtain ⟨hr, HB⟩ := hrel
        have hsz := HB.out.size
        have d0 := (HB.out.cell (p := ⟨b, 0, none⟩) hb).trans hc0
        have d1 := (HB.out.cell (p := ⟨b, 1, none⟩) hb).trans hc1
        rcases hr with ⟨rfl, HO⟩ | ⟨rfl, HO⟩ | ⟨rfl, HO⟩
        · go_wp2_with (at_builtin; refine wpList_append_row _ rfl _ _ 29 rfl w.heap.size 5 i0 (.int .u8 0) 1 Try.underlying29 hi0 hz0 hz1 hz2 rfl _ _ _ rfl HO.out .u8 a1 l1 c1 _ rfl (h1.below HB.out (Nat.le_refl _)) (by unfold maxLen; omega) (by omega) (by omega) ?_)
          intro v' w3 hown' hgrow
          have q3 := HB.out.grown hgrow hsz (fun k hk => (HO.out.lt k hk).1)
          clear hgrow
          go_wp2
          go_roundw
          case rel => exact ⟨.inr (.inl ⟨rfl, hown'⟩), q3⟩
          case measure => decide
        · go_wp2_with (at_builtin; refine wpList_append_row _ rfl _ _ 29 rfl w.heap.size 5 i0 (.int .u8 0) 1 Try.underlying29 hi0 hz0 hz1 hz2 rfl _ _ _ rfl HO.out .u8 a2 l2 c2 _ rfl (h2.below HB.out (Nat.le_refl _)) (by unfold maxLen; omega) (by omega) (by omega) ?_)
          intro v' w3 hown' hgrow
          have q3 := HB.out.grown hgrow hsz (fun k hk => (HO.out.lt k hk).1)
          rw [← List.map_append, ← nI_append] at hown'
          clear hgrow
          go_wp2
          go_roundw
          case rel => exact ⟨.inr (.inr ⟨rfl, hown'⟩), q3⟩
          case measure => decide
        · go_wp2
          go_ret
          exact ⟨_, rfl, HO.out, HB.out⟩
end Go.Proofs.Ythcnnglpncblaaa
