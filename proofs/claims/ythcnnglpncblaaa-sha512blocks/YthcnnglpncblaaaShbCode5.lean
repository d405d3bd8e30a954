/-
  The code of layer 14 (sha512): put, padding, Pad.
-/
import Derived.Test.YthcnnglpncblaaaShbCode4
import Derived.Test.YthcnnglpncblaaaShaCode5
namespace Go.Proofs.Ythcnnglpncblaaa.B
open Go.RowKit
set_option linter.unusedVariables false
set_option maxRecDepth 8192

/-- l with the first k bytes of b laid from off on. -/
def ptL (l b : List Nat) (off k : Nat) : List Nat := l.take off ++ (b.take k ++ l.drop (off + k))
theorem ptL_length {l b : List Nat} {off k : Nat} (hk : k ≤ b.length) (h : off + k ≤ l.length) : (ptL l b off k).length = l.length := by simp [ptL]; omega
theorem ptL_zero (l b : List Nat) (off : Nat) : ptL l b off 0 = l := by simp [ptL]
theorem ptL_next {l b : List Nat} {off k : Nat} (hk : k < b.length) (h : off + k < l.length) : (ptL l b off k).set (off + k) (b[k]?.getD 0) = ptL l b off (k + 1) := by
  unfold ptL
  have h1 : (l.take off).length = off := by simp; omega
  have h2 : (b.take k).length = k := by simp; omega
  rw [List.set_append_right _ _ (by omega), h1, show off + k - off = k from by omega, List.set_append_right _ _ (by omega), h2, Nat.sub_self, take_snocN b k hk, List.drop_eq_getElem_cons h, List.set_cons_zero, List.append_assoc, ← Nat.add_assoc]
  rfl
theorem ptL_spL {l b : List Nat} {off n : Nat} (hb : b.length = n) (h : off + n ≤ l.length) : ptL l b off n = spL l b off n 0 := by
  unfold ptL spL
  rw [List.take_of_length_le (show b.length ≤ n by omega), List.drop_zero, Nat.add_zero]
theorem shr_be (x k : Nat) (hk : k < 8) : x / 2 ^ (64 - 8 * (k + 1)) % 256 = (beN 8 x)[k]?.getD 0 := by
  rw [beN_get 8 x k hk]
  congr 2
  rw [show (256 : Nat) = 2 ^ 8 from rfl, ← Nat.pow_mul]
  congr 1
  omega
set_option maxHeartbeats 1600000 in
theorem put14_any (l : List Nat) (T : TypeId) (g off x : Nat) (cap : Nat) (w : World) (hA : Arr w g T .u8 (nI l)) (hl : off + 8 ≤ l.length) (hll : l.length ≤ 1000000) (hx : x < 18446744073709551616) :
    Calls Try.prog 40 #[.slice (some ⟨g, off, none⟩) 8 cap, .int .u64 (x : Int)] w fun e w' => e = .returned (.tuple #[]) ∧ Arr w' g T .u8 (nI (spL l (beN 8 x) off 8 0)) ∧ Below g w w' := by
  have HL : Hid (off + 8 ≤ l.length) := hl
  have HLL : Hid (l.length ≤ maxLen) := by show _ ≤ _; unfold maxLen; omega
  have HB8 : Hid ((beN 8 x).length = 8) := beN_length 8 x
  have HF : Hid (ptL l (beN 8 x) off 8 = spL l (beN 8 x) off 8 0) := ptL_spL (beN_length 8 x) hl
  clear hll
  go_enter Try.func40, Try.ntmps40
  go_wp2
  go_loopw [7] (fun i wr => ∃ k : Nat, k ≤ 8 ∧ i = .int .i64 (k : Int) ∧ Hid (Arr wr g T .u8 (nI (ptL l (beN 8 x) off k))) ∧ Hid (Below g w wr)) (fun i _ => 8 - (intOf i).toNat)
  case atStart => exact ⟨0, Nat.zero_le _, rfl, by rw [ptL_zero]; exact hA, Below.refl _ _⟩
  case round =>
    clear hA
    obtain ⟨k, hk, rfl, HA, HB⟩ := hrel
    by_cases hlt : k < 8
    · have hlen := ptL_length (l := l) (b := beN 8 x) (off := off) (k := k) (by rw [HB8.out]; exact hk) (by have := HL.out; omega)
      have hc := HA.out.cell (off + k) (by rw [nI_length, hlen]; have := HL.out; omega)
      have hf := HA.out.unfrozen (off + k)
      have HN : Hid (Arr (wr.setCell ⟨g, off + k, none⟩ (.int .u8 ((x / 2 ^ (64 - 8 * (k + 1)) % 256 : Nat) : Int))) g T .u8 (nI (ptL l (beN 8 x) off (k + 1)))) := by
        show Arr _ _ _ _ _
        have := HA.out.set (by rw [nI_length, hlen]; exact HLL.out) (off + k) ((x / 2 ^ (64 - 8 * (k + 1)) % 256 : Nat) : Int)
        rw [nI_set, shr_be x k hlt, ptL_next (by rw [HB8.out]; exact hlt) (by have := HL.out; omega)] at this
        rw [shr_be x k hlt]
        exact this
      have e1 : ((64 : Int) - 8 * ((k : Int) + 1)).toNat = 64 - 8 * (k + 1) := by omega
      have p1 : (0 : Int) ≤ (64 : Int) - 8 * ((k : Int) + 1) := by omega
      have p3 : (64 : Int) - 8 * ((k : Int) + 1) < 64 := by omega
      have hxl : x / 2 ^ (64 - 8 * (k + 1)) ≤ x := Nat.div_le_self _ _
      obtain ⟨sh, hsh⟩ : ∃ a, 64 - 8 * (k + 1) = a := ⟨_, rfl⟩
      rw [hsh] at e1 hxl HN
      obtain ⟨y, hy⟩ : ∃ a, x / 2 ^ sh = a := ⟨_, rfl⟩
      have e2 : (x : Int) / 2 ^ sh = (y : Int) := by rw [← hy]; simp
      rw [hy] at hxl HN
      clear hy hsh
      generalize (nI (ptL l (beN 8 x) off k))[off + k]?.getD 0 = c0 at *
      clear hlen
      go_wp2
      go_roundw
      case rel => exact ⟨k + 1, by omega, by go_num, (by rw [show ((y : Int) % 256) = ((y % 256 : Nat) : Int) from by omega]; exact HN), HB.out.setCell (Nat.le_refl _) _⟩
      case measure => simp [intOf]; omega
    · obtain rfl : k = 8 := by omega
      have A := HA.out
      rw [HF.out] at A
      go_wp2
      go_end0
      exact ⟨rfl, A, HB.out⟩
theorem pad_nought (m : Nat) : spL (128 :: List.replicate (m + 16) 0) (beN 8 0) (1 + m) 8 0 = 128 :: List.replicate (m + 16) 0 := by
  unfold spL
  have e : beN 8 0 = List.replicate 8 0 := by decide
  rw [e, List.drop_zero, Nat.add_zero, Nat.add_comm 1 m, List.take_succ_cons, List.take_replicate, Nat.min_eq_left (by omega), show m + 1 + 8 = (m + 8) + 1 from by omega, List.drop_succ_cons, List.drop_replicate, show m + 16 - (m + 8) = 8 from by omega, List.replicate_append_replicate, List.cons_append, List.replicate_append_replicate]
theorem pad_splice (n m : Nat) (hm : noughts n = m) : spL (128 :: List.replicate (m + 16) 0) (beN 8 (8 * n)) (1 + m + 8) 8 0 = padL n := by
  unfold spL padL
  rw [beN_eight, hm, List.drop_zero, Nat.add_zero, show 1 + m + 8 = (m + 8) + 1 from by omega, List.take_succ_cons, List.take_replicate, Nat.min_eq_left (by omega), show m + 8 + 1 + 8 = (m + 16) + 1 from by omega, List.drop_succ_cons, List.drop_replicate, Nat.sub_self]
  simp
theorem list_set_zero (x : Nat) (n : Nat) : (List.replicate (n + 1) 0).set 0 x = x :: List.replicate n 0 := by rw [List.replicate_succ, List.set_cons_zero]
set_option maxHeartbeats 1600000 in
theorem padding_any (n : Nat) (w : World) (hn : n < 1000000000000) : Calls Try.prog 29 #[.int .u64 (n : Int)] w fun e w' =>
    ∃ v, e = .returned v ∧ w'.ownsRow w.heap.size 5 1 v (noughts n + 17) ((nI (padL n)).map (Value.int .u8)) ∧ Below w.heap.size w w' := by
  obtain ⟨i0, hi0, hz0, hz1, hz2⟩ := info_parts Try.info5
  obtain ⟨m, hm⟩ : ∃ m, noughts n = m := ⟨_, rfl⟩
  have hm64 : m < 128 := by rw [← hm]; exact noughts_lt n
  have hmm : (239 - n % 128) % 128 = m := hm
  have HM : Hid (noughts n = m) := hm
  clear hm
  have hmax : m + 17 ≤ maxLen := by unfold maxLen; omega
  have hmk : ∀ w1 : World, w1.ownsRow w.heap.size 5 1 (.slice (some ⟨w.heap.size, 0, none⟩) (m + 17) (m + 17)) (m + 17) (madeCells (Value.int IntKind.u8 0).cells ((m + 17) * 1)).toList → w.grownBy w1 none →
      Arr w1 w.heap.size 5 .u8 (nI (List.replicate (m + 16 + 1) 0)) ∧ Below w.heap.size w w1 := fun w1 h1 h2 => by
    refine ⟨?_, (Below.refl _ _).grown h2 (Nat.le_refl _) (by simp)⟩
    rw [made_ints] at h1
    have := heap_of_owns h1
    unfold Arr
    rw [this]
    simp [nI]
  have e1 : (n : Int) % 128 = ((n % 128 : Nat) : Int) := by omega
  have hu : n % 128 < 128 := Nat.mod_lt _ (by decide)
  have HP : Hid (spL (128 :: List.replicate (m + 16) 0) (beN 8 (8 * n)) (1 + m + 8) 8 0 = padL n) := pad_splice n m HM.out
  have HP0 : Hid (spL (128 :: List.replicate (m + 16) 0) (beN 8 0) (1 + m) 8 0 = 128 :: List.replicate (m + 16) 0) := pad_nought m
  have hmul := fun w => mul64_any n 8 (by omega) (by decide) w
  rw [show n * 8 / 18446744073709551616 = 0 from by omega, show n * 8 % 18446744073709551616 = 8 * n from by omega] at hmul
  generalize n % 128 = u at *
  have e2 : ((239 : Int) - (u : Int)) % 128 = (m : Int) := by omega
  have e2t : ((239 : Int) - (u : Int)).tmod 128 = (m : Int) := by rw [Int.tmod_eq_emod_of_nonneg (by omega)]; exact e2
  go_enter Try.func29, Try.ntmps29
  go_wp2_with (at_make; refine wpList_make_full _ rfl _ _ 29 rfl w.heap.size 5 i0 (.int .u8 0) 1 Try.underlying29 hi0 hz0 hz1 _ _ _ _ (m + 17) rfl rfl (by omega) (by omega) (by rw [hz2]; omega) hmax (Nat.le_refl _) ?_; intro w1 hown1 hgrow1; obtain ⟨A1, q1⟩ := hmk w1 hown1 hgrow1; have hc0 := A1.cell 0 (by rw [nI_length, List.length_replicate]; omega); have hf0 := A1.unfrozen 0; clear hown1 hgrow1)
  replace A1 := A1.set (by rw [nI_length, List.length_replicate]; unfold maxLen; omega) 0 ((128 : Nat) : Int)
  rw [nI_set, list_set_zero] at A1
  replace q1 := q1.setCell (p := ⟨w.heap.size, 0, none⟩) (Nat.le_refl _) (.int .u8 128)
  change Calls Try.prog _ _ (w1.setCell ⟨w.heap.size, 0, none⟩ (.int .u8 ((128 : Nat) : Int))) _
  refine (hmul _).mono ?_
  rintro e w2 ⟨rfl, rfl⟩
  obtain ⟨w2, hw2⟩ : ∃ x, x = w1.setCell ⟨w.heap.size, 0, none⟩ (.int .u8 ((128 : Nat) : Int)) := ⟨_, rfl⟩
  rw [← hw2] at A1 ⊢
  rw [show w1.setCell ⟨w.heap.size, 0, none⟩ (.int .u8 128) = w2 from hw2.symm] at q1
  clear hw2 hc0 hf0
  obtain ⟨n8, hn8⟩ : ∃ x, 8 * n = x := ⟨_, rfl⟩
  have hn8l : n8 < 18446744073709551616 := by omega
  rw [hn8] at HP ⊢
  clear hn8 e1
  have s1 : m + 17 - (1 + m) = 16 := by omega
  go_wp2_with fail
  refine (put14_any (128 :: List.replicate (m + 16) 0) 5 w.heap.size (1 + m) 0 16 _ A1 (by simp; omega) (by simp; omega) (by decide)).mono ?_
  rintro e w3 ⟨rfl, A3, q3⟩
  rw [HP0.out] at A3
  replace q3 := q1.trans q3
  clear A1 q1 w2
  go_wp2_with fail
  refine (put14_any (128 :: List.replicate (m + 16) 0) 5 w.heap.size (1 + m + 8) n8 8 _ A3 (by simp; omega) (by simp; omega) hn8l).mono ?_
  rintro e w4 ⟨rfl, A4, q4⟩
  rw [HP.out] at A4
  replace q4 := q3.trans q4
  clear A3 q3 w3
  have hlen : (nI (padL n)).length = m + 17 := by rw [nI_length, padL_length, HM.out]
  have own := A4.own (by rw [hlen]; exact hmax)
  rw [hlen, ← HM.out] at own
  rw [← HM.out]
  clear hlen
  go_wp2
  go_ret
  exact ⟨_, rfl, own, q4⟩
set_option maxHeartbeats 1600000 in
theorem pad_any (z : List Nat) (a : Option Addr) (len cap : Nat) (w : World) (hr : Row .u8 w a len cap (nI z)) (hl : len ≤ 100000) :
    Calls Try.prog 16 #[.slice a len cap] w fun e w' => ∃ v, e = .returned v ∧ w'.ownsRow w.heap.size 5 1 v (len + (noughts len + 17)) ((nI (z ++ padL len)).map (Value.int .u8)) ∧ Below w.heap.size w w' := by
  have hnl := noughts_lt len
  go_enter Try.func16, Try.ntmps16
  go_wp2_with fail
  refine (padding_any len w (by omega)).mono ?_
  rintro e w1 ⟨v, rfl, own1, q1⟩
  obtain ⟨a1, c1, rfl, row1⟩ := row_of_owns own1
  clear own1
  go_wp2_with fail
  have q2 := below_one w1 (.cells #[.slice a len cap, .slice a1 (noughts len + 17) c1] 29)
  have hs1 := q1.size
  refine (concat13_any z (padL len) a a1 len cap (noughts len + 17) c1 w1.heap.size _ ((hr.below q1 (Nat.le_refl _)).below q2 (Nat.le_refl _)) (row1.below q2 (Nat.le_refl _)) (by simp) (by rw [World.cell?_alloc_at _ _ _ _ rfl]; rfl) (by rw [World.cell?_alloc_at _ _ _ _ rfl]; rfl) hl (by omega) (by omega)).mono ?_
  rintro e w3 ⟨v3, rfl, own3, q3⟩
  go_wp2
  go_ret
  exact ⟨_, rfl, owns_base own3 (by simp; omega), (q1.trans (q2.mono hs1)).trans (q3.mono (by simp; omega))⟩
end Go.Proofs.Ythcnnglpncblaaa.B
