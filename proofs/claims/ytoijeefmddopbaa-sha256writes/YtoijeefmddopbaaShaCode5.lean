/-
  The code of layer 13 (sha256): put, padding, slices.Grow, slices.Concat, Pad.
-/
import Derived.Test.YtoijeefmddopbaaShaCode4
import Derived.Lib.AppendZeros
namespace Go.Proofs.Ytoijeefmddopbaa
open Go.RowKit
set_option linter.unusedVariables false
set_option maxRecDepth 8192

/-- x in n bytes, the highest first. -/
def beN (n x : Nat) : List Nat := (List.range n).map fun j => x / 256 ^ (n - 1 - j) % 256
theorem beN_length (n x : Nat) : (beN n x).length = n := by simp [beN]
theorem beN_eight (x : Nat) : beN 8 x = be8 x := by simp [beN, be8, List.range, List.range.loop]
theorem beN_four (x : Nat) : beN 4 x = be4 x := by simp [beN, be4, List.range, List.range.loop]
theorem beN_get (n x k : Nat) (h : k < n) : (beN n x)[k]?.getD 0 = x / 256 ^ (n - 1 - k) % 256 := by simp [beN, h]
/-- l with what of b is laid from its end down to k, from off on. -/
def spL (l b : List Nat) (off n k : Nat) : List Nat := l.take (off + k) ++ (b.drop k ++ l.drop (off + n))
theorem spL_length {l b : List Nat} {off n k : Nat} (hb : b.length = n) (h : off + n ≤ l.length) (hk : k ≤ n) : (spL l b off n k).length = l.length := by simp [spL]; omega
theorem spL_full {l b : List Nat} {off n : Nat} (hb : b.length = n) (h : off + n ≤ l.length) : spL l b off n n = l := by
  unfold spL
  rw [List.drop_of_length_le (show b.length ≤ n by omega), List.nil_append, List.take_append_drop]
theorem spL_next {l b : List Nat} {off n k : Nat} (hb : b.length = n) (h : off + n ≤ l.length) (hk : k < n) : (spL l b off n (k + 1)).set (off + k) (b[k]?.getD 0) = spL l b off n k := by
  unfold spL
  have h1 : l.take (off + (k + 1)) = l.take (off + k) ++ [l[off + k]?.getD 0] := by rw [← Nat.add_assoc]; exact take_snocN l (off + k) (by omega)
  have h2 : (l.take (off + k)).length = off + k := by simp; omega
  rw [h1, List.append_assoc, List.set_append_right _ _ (by omega), h2, Nat.sub_self, List.singleton_append, List.set_cons_zero, List.getElem?_eq_getElem (show k < b.length by omega), List.drop_eq_getElem_cons (show k < b.length by omega)]
  rfl
set_option maxHeartbeats 1600000 in
theorem put13_any (l : List Nat) (T : TypeId) (g off n x : Nat) (cap : Nat) (w : World) (hA : Arr w g T .u8 (nI l)) (hl : off + n ≤ l.length) (hll : l.length ≤ 1000000) (hx : x < 18446744073709551616) (hn : n ≤ 8) :
    Calls Try.prog 48 #[.slice (some ⟨g, off, none⟩) n cap, .int .u64 (x : Int)] w fun e w' => e = .returned (.tuple #[]) ∧ Arr w' g T .u8 (nI (spL l (beN n x) off n 0)) ∧ Below g w w' := by
  have HL : Hid (off + n ≤ l.length) := hl
  have HLL : Hid (l.length ≤ maxLen) := by show _ ≤ _; unfold maxLen; omega
  clear hll
  go_enter Try.func48, Try.ntmps48
  go_wp2
  go_loopw [1, 4] (fun y i wr => ∃ k : Nat, k ≤ n ∧ i = .int .i64 ((k : Int) - 1) ∧ y = .int .u64 ((x / 256 ^ (n - k) : Nat) : Int) ∧ Hid (Arr wr g T .u8 (nI (spL l (beN n x) off n k))) ∧ Hid (Below g w wr)) (fun _ i _ => (intOf i + 1).toNat)
  case atStart => exact ⟨n, Nat.le_refl _, by go_num, by simp, by rw [spL_full (beN_length n x) HL.out]; exact hA, Below.refl _ _⟩
  case round =>
    obtain ⟨k, hk, rfl, rfl, HA, HB⟩ := hrel
    by_cases h0 : k = 0
    · subst h0
      go_wp2
      go_end0
      exact ⟨rfl, HA.out, HB.out⟩
    · obtain ⟨j, rfl⟩ : ∃ j, k = j + 1 := ⟨k - 1, by omega⟩
      have hlen := spL_length (beN_length n x) HL.out hk
      have hc := HA.out.cell (off + j) (by rw [nI_length, hlen]; have := HL.out; omega)
      have hf := HA.out.unfrozen (off + j)
      have HN : Hid (Arr (wr.setCell ⟨g, off + j, none⟩ (.int .u8 ((x / 256 ^ (n - (j + 1)) % 256 : Nat) : Int))) g T .u8 (nI (spL l (beN n x) off n j))) := by
        show Arr _ _ _ _ _
        have := HA.out.set (by rw [nI_length, hlen]; exact HLL.out) (off + j) ((x / 256 ^ (n - (j + 1)) % 256 : Nat) : Int)
        rw [nI_set, show n - (j + 1) = n - 1 - j from by omega, ← beN_get n x j (by omega), spL_next (beN_length n x) HL.out (by omega)] at this
        rw [show n - (j + 1) = n - 1 - j from by omega, ← beN_get n x j (by omega)]
        exact this
      have HS : Hid (x / 256 ^ (n - j) = x / 256 ^ (n - (j + 1)) / 256) := by
        show _ = _
        rw [show n - j = n - (j + 1) + 1 from by omega, Nat.pow_succ, Nat.div_div_eq_div_mul]
      have hxl : x / 256 ^ (n - (j + 1)) ≤ x := Nat.div_le_self _ _
      generalize x / 256 ^ (n - (j + 1)) = y at *
      generalize (nI (spL l (beN n x) off n (j + 1)))[off + j]?.getD 0 = c0 at *
      have e1 : ((j + 1 : Nat) : Int) - 1 = (j : Int) := by omega
      rw [e1]
      have hjn : (j : Int) < (n : Int) := by omega
      clear hlen
      go_wp2
      go_roundw
      case rel => exact ⟨j, by omega, by go_num, by rw [HS.out]; go_num, by rw [show ((y : Int) % 256) = ((y % 256 : Nat) : Int) from by omega]; exact HN, HB.out.setCell (Nat.le_refl _) _⟩
      case measure => simp [intOf]
theorem pad_splice (n m : Nat) (hm : noughts n = m) : spL (128 :: List.replicate (m + 8) 0) (beN 8 (8 * n)) (1 + m) 8 0 = padL n := by
  unfold spL padL
  rw [beN_eight, hm, List.drop_zero, Nat.add_zero, Nat.add_comm 1 m, List.take_succ_cons, List.take_replicate, Nat.min_eq_left (by omega), show m + 1 + 8 = (m + 8) + 1 from by omega, List.drop_succ_cons, List.drop_replicate, Nat.sub_self]
  simp
theorem list_set_zero (x : Nat) (n : Nat) : (List.replicate (n + 1) 0).set 0 x = x :: List.replicate n 0 := by rw [List.replicate_succ, List.set_cons_zero]
set_option maxHeartbeats 1600000 in
theorem padding_any (n : Nat) (w : World) (hn : n < 1000000000000) : Calls Try.prog 32 #[.int .u64 (n : Int)] w fun e w' =>
    ∃ v, e = .returned v ∧ w'.ownsRow w.heap.size 5 1 v (noughts n + 9) ((nI (padL n)).map (Value.int .u8)) ∧ Below w.heap.size w w' := by
  obtain ⟨i0, hi0, hz0, hz1, hz2⟩ := info_parts Try.info5
  obtain ⟨m, hm⟩ : ∃ m, noughts n = m := ⟨_, rfl⟩
  have hm64 : m < 64 := by rw [← hm]; exact noughts_lt n
  have hmm : (119 - n % 64) % 64 = m := hm
  have HM : Hid (noughts n = m) := hm
  clear hm
  have hmax : m + 9 ≤ maxLen := by unfold maxLen; omega
  have hmk : ∀ w1 : World, w1.ownsRow w.heap.size 5 1 (.slice (some ⟨w.heap.size, 0, none⟩) (m + 9) (m + 9)) (m + 9) (madeCells (Value.int IntKind.u8 0).cells ((m + 9) * 1)).toList → w.grownBy w1 none →
      Arr w1 w.heap.size 5 .u8 (nI (List.replicate (m + 8 + 1) 0)) ∧ Below w.heap.size w w1 := fun w1 h1 h2 => by
    refine ⟨?_, (Below.refl _ _).grown h2 (Nat.le_refl _) (by simp)⟩
    rw [made_ints] at h1
    have := heap_of_owns h1
    unfold Arr
    rw [this]
    simp [nI]
  have e1 : (n : Int) % 64 = ((n % 64 : Nat) : Int) := by omega
  have hu : n % 64 < 64 := Nat.mod_lt _ (by decide)
  have HP : Hid (spL (128 :: List.replicate (m + 8) 0) (beN 8 (8 * n)) (1 + m) 8 0 = padL n) := pad_splice n m HM.out
  generalize n % 64 = u at *
  have e2 : ((119 : Int) - (u : Int)) % 64 = (m : Int) := by omega
  have e2t : ((119 : Int) - (u : Int)).tmod 64 = (m : Int) := by rw [Int.tmod_eq_emod_of_nonneg (by omega)]; exact e2
  go_enter Try.func32, Try.ntmps32
  go_wp2_with (at_make; refine wpList_make_full _ rfl _ _ 36 rfl w.heap.size 5 i0 (.int .u8 0) 1 Try.underlying36 hi0 hz0 hz1 _ _ _ _ (m + 9) rfl rfl (by omega) (by omega) (by rw [hz2]; omega) hmax (Nat.le_refl _) ?_; intro w1 hown1 hgrow1; obtain ⟨A1, q1⟩ := hmk w1 hown1 hgrow1; have hc0 := A1.cell 0 (by rw [nI_length, List.length_replicate]; omega); have hf0 := A1.unfrozen 0; clear hown1 hgrow1)
  rw [show m + 9 - (1 + m) = 8 from by omega, show (n : Int) * 8 = ((8 * n : Nat) : Int) from by omega]
  replace A1 := A1.set (by rw [nI_length, List.length_replicate]; unfold maxLen; omega) 0 ((128 : Nat) : Int)
  rw [nI_set, list_set_zero] at A1
  replace q1 := q1.setCell (p := ⟨w.heap.size, 0, none⟩) (Nat.le_refl _) (.int .u8 128)
  change Calls Try.prog _ _ (w1.setCell ⟨w.heap.size, 0, none⟩ (.int .u8 ((128 : Nat) : Int))) _
  refine (put13_any (128 :: List.replicate (m + 8) 0) 5 w.heap.size (1 + m) 8 (8 * n) 8 _ A1 (by simp; omega) (by simp; omega) (by omega) (by decide)).mono ?_
  rintro e w2 ⟨rfl, A2, q2⟩
  rw [HP.out] at A2
  clear A1 hc0 hf0
  have hlen : (nI (padL n)).length = m + 9 := by rw [nI_length, padL_length, HM.out]
  have own := A2.own (by rw [hlen]; exact hmax)
  rw [hlen, ← HM.out] at own
  rw [← HM.out]
  clear hlen
  go_wp2
  go_ret
  exact ⟨_, rfl, own, q1.trans q2⟩
set_option maxHeartbeats 1600000 in
theorem grow13_any (n : Nat) (w : World) (h0 : 0 < n) (hn : n ≤ 1000000) : Calls Try.prog 47 #[.slice none 0 0, .int .i64 (n : Int)] w fun e w' =>
    ∃ v, e = .returned v ∧ w'.ownsRow w.heap.size 5 1 v 0 [] ∧ Below w.heap.size w w' := by
  obtain ⟨i0, hi0, hz0, hz1, hz2⟩ := info_parts Try.info5
  have hrun := Lib.run_append_nil_zeros w 36 3 36 5 i0 (.int .u8 0) .i64 .i64 Try.underlying36 Try.underlying3 hi0 hz0 n h0 (by rw [hz1]; decide) (by omega) (by rw [hz2]; omega)
  have hge := grownCap_ge w n 0 5
  have hle := grownCap_le_maxLen w n 0 5 (by unfold maxLen; omega)
  generalize grownCap w n 0 5 = cp at *
  go_enter Try.func47, Try.ntmps47
  go_wp2_with (at_builtin; refine Lib.wpList_append_run _ rfl _ _ _ _ rfl _ _ rfl rfl _ _ hrun ?_)
  go_ret
  exact ⟨_, rfl, ⟨rfl, .inr ⟨w.heap.size, cp, _, rfl, Nat.le_refl _, heap_alloc_last w _, Nat.zero_le _, hle, by simp [size_zeroCells]; omega, by simp⟩⟩, (below_one w _).drew⟩
set_option maxHeartbeats 3200000 in
theorem concat13_any (z1 z2 : List Nat) (a1 a2 : Option Addr) (l1 c1 l2 c2 b : Nat) (w : World) (h1 : Row .u8 w a1 l1 c1 (nI z1)) (h2 : Row .u8 w a2 l2 c2 (nI z2)) (hb : b < w.heap.size) (hc0 : w.cell? ⟨b, 0, none⟩ = some (.slice a1 l1 c1)) (hc1 : w.cell? ⟨b, 1, none⟩ = some (.slice a2 l2 c2))
    (hl1 : l1 ≤ 100000) (hl2 : l2 ≤ 100000) (h0 : 0 < l2) :
    Calls Try.prog 31 #[.slice (some ⟨b, 0, none⟩) 2 2] w fun e w' => ∃ v, e = .returned v ∧ w'.ownsRow w.heap.size 5 1 v (l1 + l2) ((nI (z1 ++ z2)).map (Value.int .u8)) ∧ Below w.heap.size w w' := by
  obtain ⟨i0, hi0, hz0, hz1, hz2⟩ := info_parts Try.info5
  go_enter Try.func31, Try.ntmps31
  go_wp2
  go_loop [3, 11] (fun s i => (i = .int .i64 0 ∧ s = .int .i64 0) ∨ (i = .int .i64 1 ∧ s = .int .i64 (l1 : Int)) ∨ (i = .int .i64 2 ∧ s = .int .i64 ((l1 + l2 : Nat) : Int))) (fun _ i => 2 - (intOf i).toNat)
  case atStart => exact .inl ⟨rfl, rfl⟩
  case round =>
    rcases hrel with ⟨rfl, rfl⟩ | ⟨rfl, rfl⟩ | ⟨rfl, rfl⟩
    · have p1 : ¬ (l1 : Int) < 0 := by omega
      go_wp2
      go_round
      case rel => exact .inr (.inl ⟨rfl, rfl⟩)
      case measure => decide
    · have p1 : ¬ (l1 : Int) + (l2 : Int) < 0 := by omega
      go_wp2
      go_round
      case rel => exact .inr (.inr ⟨rfl, by go_num⟩)
      case measure => decide
    · go_wp2_with fail
      refine (grow13_any (l1 + l2) w (by omega) (by omega)).mono ?_
      rintro e w1 ⟨v, rfl, own1, q1⟩
      go_wp2
      go_loopw [6, 27] (fun v i wr => ((i = .int .i64 0 ∧ Hid (wr.ownsRow w.heap.size 5 1 v 0 [])) ∨ (i = .int .i64 1 ∧ Hid (wr.ownsRow w.heap.size 5 1 v l1 ((nI z1).map (Value.int .u8)))) ∨ (i = .int .i64 2 ∧ Hid (wr.ownsRow w.heap.size 5 1 v (l1 + l2) ((nI (z1 ++ z2)).map (Value.int .u8))))) ∧ Hid (Below w.heap.size w wr)) (fun _ i _ => 2 - (intOf i).toNat)
      case atStart => exact ⟨.inl ⟨rfl, own1⟩, q1⟩
      case round =>
        clear own1 q1
        obtain ⟨hr, HB⟩ := hrel
        have hsz := HB.out.size
        have d0 := (HB.out.cell (p := ⟨b, 0, none⟩) hb).trans hc0
        have d1 := (HB.out.cell (p := ⟨b, 1, none⟩) hb).trans hc1
        rcases hr with ⟨rfl, HO⟩ | ⟨rfl, HO⟩ | ⟨rfl, HO⟩
        · go_wp2_with (at_builtin; refine wpList_append_row _ rfl _ _ 36 rfl w.heap.size 5 i0 (.int .u8 0) 1 Try.underlying36 hi0 hz0 hz1 hz2 rfl _ _ _ rfl HO.out .u8 a1 l1 c1 _ rfl (h1.below HB.out (Nat.le_refl _)) (by unfold maxLen; omega) (by omega) (by omega) ?_)
          intro v' w3 hown' hgrow
          have q3 := HB.out.grown hgrow hsz (fun k hk => (HO.out.lt k hk).1)
          clear hgrow
          go_wp2
          go_roundw
          case rel => exact ⟨.inr (.inl ⟨rfl, hown'⟩), q3⟩
          case measure => decide
        · go_wp2_with (at_builtin; refine wpList_append_row _ rfl _ _ 36 rfl w.heap.size 5 i0 (.int .u8 0) 1 Try.underlying36 hi0 hz0 hz1 hz2 rfl _ _ _ rfl HO.out .u8 a2 l2 c2 _ rfl (h2.below HB.out (Nat.le_refl _)) (by unfold maxLen; omega) (by omega) (by omega) ?_)
          intro v' w3 hown' hgrow
          have q3 := HB.out.grown hgrow hsz (fun k hk => (HO.out.lt k hk).1)
          rw [← List.map_append, ← nI_append] at hown'
          clear hgrow
          go_wp2
          go_roundw
          case rel => exact ⟨.inr (.inr ⟨rfl, hown'⟩), q3⟩
          case measure => decide
        · go_wp2
          go_ret
          exact ⟨_, rfl, HO.out, HB.out⟩
set_option maxHeartbeats 1600000 in
theorem pad_any (z : List Nat) (a : Option Addr) (len cap : Nat) (w : World) (hr : Row .u8 w a len cap (nI z)) (hl : len ≤ 100000) :
    Calls Try.prog 17 #[.slice a len cap] w fun e w' => ∃ v, e = .returned v ∧ w'.ownsRow w.heap.size 5 1 v (len + (noughts len + 9)) ((nI (z ++ padL len)).map (Value.int .u8)) ∧ Below w.heap.size w w' := by
  have hnl := noughts_lt len
  go_enter Try.func17, Try.ntmps17
  go_wp2_with fail
  refine (padding_any len w (by omega)).mono ?_
  rintro e w1 ⟨v, rfl, own1, q1⟩
  obtain ⟨a1, c1, rfl, row1⟩ := row_of_owns own1
  clear own1
  go_wp2_with fail
  have q2 := below_one w1 (.cells #[.slice a len cap, .slice a1 (noughts len + 9) c1] 36)
  have hs1 := q1.size
  refine (concat13_any z (padL len) a a1 len cap (noughts len + 9) c1 w1.heap.size _ ((hr.below q1 (Nat.le_refl _)).below q2 (Nat.le_refl _)) (row1.below q2 (Nat.le_refl _)) (by simp) (by rw [World.cell?_alloc_at _ _ _ _ rfl]; rfl) (by rw [World.cell?_alloc_at _ _ _ _ rfl]; rfl) hl (by omega) (by omega)).mono ?_
  rintro e w3 ⟨v3, rfl, own3, q3⟩
  go_wp2
  go_ret
  exact ⟨_, rfl, owns_base own3 (by simp; omega), (q1.trans (q2.mono hs1)).trans (q3.mono (by simp; omega))⟩
end Go.Proofs.Ytoijeefmddopbaa
