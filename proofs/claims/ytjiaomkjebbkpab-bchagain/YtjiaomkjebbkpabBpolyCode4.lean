/-
  The code of layer 4 (bpoly), as it landed: times, Value, packed return what the face asks.
-/
import Derived.Test.YtjiaomkjebbkpabBpolyCode3
import Derived.Test.YtjiaomkjebbkpabPolyCode3
namespace Go.Proofs.Ytjiaomkjebbkpab
open Go.RowKit
set_option linter.unusedVariables false

set_option maxHeartbeats 400000 in
theorem btimes_any (a b : Nat) (w : World) (ha : a < 8192) (hb : b < 8192) :
    Calls Try.prog 38 #[.int .i64 a, .int .i64 b] w fun e w' => e = .returned (.int .i64 (gmul a b : Nat)) ∧ w = w' := by
  go_enter Try.func38, Try.ntmps38
  go_wp2_with fail
  refine (gfMul_same a b _ ha hb).mono ?_
  rintro e w' ⟨rfl, rfl⟩
  go_wp2_with fail
  go_ret
  exact ⟨rfl, rfl⟩

set_option maxHeartbeats 1600000 in
set_option maxRecDepth 100000 in
theorem bvalC : BValC where
  no := by
    intro a len cap z x w hr hb hsm hx
    have hE : Hid (isE x = decide (0 ≤ x ∧ x < 8192)) := rfl
    have hx' : x < 0 ∨ 8192 ≤ x := by have := hE.out; rw [hx] at this; simp at this; omega
    clear hx
    rcases hx' with h | h
    · go_enter Try.func23, Try.ntmps23
      go_wp2
      go_ret2
      exact ⟨rfl, Below.refl _ _⟩
    · have h0 : ¬ x < 0 := by omega
      go_enter Try.func23, Try.ntmps23
      go_wp2
      go_ret2
      exact ⟨rfl, Below.refl _ _⟩
  yes := by
    intro a len cap z x w hr hb hsm hx
    have hd := bdeg_any a len cap z w hr hb (by omega)
    have HE : Hid (evl (norm (bts z)) x = evl (bts z) x) := evl_eqv x (norm_eqv _)
    have HC : Hid (∀ i, (cf (norm (bts z)) i : Int) = bitI z i) := fun i => by rw [cf_norm, cf_bts_int]
    have h01 := is01_norm (is01_bts z)
    have hle := norm_bts_le z
    rw [hr.hlen] at hle
    generalize norm (bts z) = p at *
    generalize hpl : p.length = L at *
    have HL : Hid (p.length = L) := hpl
    clear hpl
    have hx0 : (0 : Int) ≤ (x : Int) := by omega
    have hx1 : (x : Int) < 8192 := by omega
    go_enter Try.func23, Try.ntmps23
    go_wp2_with fail
    refine hd.mono ?_
    rintro e w' ⟨rfl, rfl⟩
    clear hd
    go_wp2_with fail
    go_loop [6, 7] (fun o y => ∃ k : Nat, k ≤ L ∧ y = .int .i64 ((k : Int) - 1) ∧ o = .int .i64 (evl (p.drop k) x : Nat)) (fun _ y => (intOf y + 1).toNat)
    case atStart => exact ⟨L, Nat.le_refl _, rfl, by rw [List.drop_of_length_le (by have := HL.out; omega)]; rfl⟩
    case round =>
      obtain ⟨k, hk, rfl, rfl⟩ := hrel
      cases k with
      | zero =>
        go_wp2
        go_ret2
        exact ⟨by rw [← HE.out]; rfl, Below.refl _ _⟩
      | succ m =>
        rw [show ((m + 1 : Nat) : Int) - 1 = (m : Int) from by omega]
        have hdp : IsP (p.drop (m + 1)) := fun y hy => h01.isP y (List.mem_of_mem_drop hy)
        have c1 := evl_lt hdp x hx
        have c2 := gmul_lt (evl (p.drop (m + 1)) x) x c1
        have HS : Hid (evl (p.drop m) x = gmul (evl (p.drop (m + 1)) x) x ^^^ cf p m) := by
          show _ = _
          rw [drop_cons p m (by have := HL.out; omega), gmul_comm _ x c1 hx, Nat.xor_comm]
          rfl
        have c3 := h01.cf m
        have HV : Hid (bitI z m = (cf p m : Int)) := (HC.out m).symm
        generalize evl (p.drop (m + 1)) x = o at *
        go_wp2_with fail
        refine (btimes_any o x _ c1 hx).mono ?_
        rintro e w' ⟨rfl, rfl⟩
        go_wp2_with fail
        refine (bcoef_any _ _ _ m z _ hr hb (by omega) (by omega)).mono ?_
        rintro e w' ⟨rfl, rfl⟩
        rw [HV.out]
        go_wp2_with fail
        go_round
        case rel => exact ⟨m, by omega, by go_num, by rw [HS.out, xor_i64 _ _ (by omega) (by omega)]⟩
        case measure => simp [intOf]

set_option maxHeartbeats 1600000 in
set_option maxRecDepth 100000 in
theorem packed_any (a : Option Addr) (len cap : Nat) (l : List Nat) (w : World) (hr : Row .i64 w a len cap (ints l)) (hl : Is01 l) (hsm : len ≤ 4000) :
    Calls Try.prog 57 #[.slice a len cap] w (Gives w (pk l)) := by
  obtain ⟨i0, hi0, hz0, hz1, hz2⟩ := info_parts Try.info5
  obtain ⟨j0, hj0, hy0, hy1, hy2⟩ := info_parts Try.info3
  have HL : Hid (l.length = len) := by have := hr.hlen; rwa [length_ints] at this
  have HT : Hid (turnI (List.replicate ((len + 7) / 8) 0) (onesAt l len) = pk l) := by have := turn_ones hl; rwa [HL.out] at this
  have HIN : Hid (inB ((len + 7) / 8) (onesAt l len) = true) := by show _ = _; rw [inB_iff]; have := onesAt_in hl; rwa [HL.out] at this
  have HOL : Hid (∀ k, (onesAt l k).length ≤ k) := fun k => apartTo_le _ _ _
  have HWF : Hid (∀ n ∈ onesAt l len, (Lit.int .i64 n).wf = true) := by
    intro n hn
    have h := (inB_iff _ _).1 HIN.out n hn
    simp [Lit.wf, IntKind.min, IntKind.max, IntKind.signed, IntKind.bits]
    omega
  have HPL : Hid ((pk l).length = (len + 7) / 8) := by show _ = _; rw [length_pk, HL.out]
  have HH : Hid (∀ k, cf l k = 1 → onesAt l (k + 1) = onesAt l k ++ [(k : Int)]) := fun k h => onesAt_hit hl k h
  have HM : Hid (∀ k, cf l k ≠ 1 → onesAt l (k + 1) = onesAt l k) := fun k h => onesAt_miss hl k h
  go_enter Try.func57, Try.ntmps57
  go_wp2
  go_loopw [3, 10] (fun v y wr => ∃ i : Nat, i ≤ len ∧ y = .int .i64 i ∧ wr.ownsRow w.heap.size 3 1 v (onesAt l i).length ((onesAt l i).map (Value.int .i64)) ∧ Below w.heap.size w wr) (fun _ y _ => len - (intOf y).toNat)
  case atStart => exact ⟨0, Nat.zero_le _, rfl, World.ownsRow_nil _ _ _ _, Below.refl _ _⟩
  case round =>
    obtain ⟨i, hi, rfl, hown, hnx⟩ := hrel
    have hsz := hnx.size
    by_cases hlt : i < len
    · have hrr := hr.below hnx (Nat.le_refl _)
      obtain ⟨b, off, rfl, hbs, hcell⟩ := hrr.hcell (by omega)
      have hc1 := hcell i hlt
      rw [ints_get] at hc1
      clear hcell hrr
      have hii : (i : Int) < (len : Int) := by omega
      have hol := HOL.out i
      by_cases hv : cf l i = 1
      · have hq : (((cf l i : Nat) : Int) == 1) = true := by simp [hv]
        have HS : Hid (onesAt l (i + 1) = onesAt l i ++ [(i : Int)]) := HH.out i hv
        have HSL : Hid ((onesAt l (i + 1)).length = (onesAt l i).length + 1) := by show _ = _; rw [HS.out]; simp
        clear hv
        generalize onesAt l i = os at *
        generalize hos : os.length = k at *
        go_wp2_with (at_builtin; refine wpList_append_own _ rfl _ _ 30 rfl w.heap.size 3 j0 (.int .i64 0) 1 8 Try.underlying30 hj0 hy0 hy1 hy2 rfl (by decide) _ _ _ rfl (hown.alloc _) ⟨wr.heap.size, 0, none⟩ 1 1 [.int .i64 (i : Nat)] rfl rfl (cell_one_new _ _ _) (by intro u hu; simp at hu; subst hu; rfl) (by unfold maxLen; omega) (by omega) (by simp; omega) ?_)
        intro v' w1 hown' hgrow _
        have R := rel_push hsz hown hnx hown' hgrow
        rw [← HS.out, ← HSL.out] at R
        clear hown' hgrow hown hnx
        go_wp2
        go_roundw
        case rel => exact ⟨i + 1, by omega, by go_num, R.1, R.2⟩
        case measure => simp [intOf]; omega
      · have hq : (((cf l i : Nat) : Int) == 1) = false := by simp; omega
        have HS : Hid (onesAt l (i + 1) = onesAt l i) := HM.out i hv
        clear hv
        go_wp2
        go_roundw
        case rel => exact ⟨i + 1, by omega, by go_num, by rw [HS.out]; exact hown, hnx⟩
        case measure => simp [intOf]; omega
    · have e : i = len := by omega
      subst e
      obtain ⟨a5, cp5, rfl, hrow5⟩ := row_of_owns hown
      clear hown
      have hmax : (i + 7) / 8 ≤ maxLen := by unfold maxLen; omega
      have hmk : ∀ w1 : World, w1.ownsRow w.heap.size 5 1 (.slice (some ⟨wr.heap.size, 0, none⟩) ((i + 7) / 8) ((i + 7) / 8)) ((i + 7) / 8) (madeCells (Value.int IntKind.u8 0).cells (((i + 7) / 8) * 1)).toList → wr.grownBy w1 none →
          Row .u8 w1 (some ⟨wr.heap.size, 0, none⟩) ((i + 7) / 8) ((i + 7) / 8) (List.replicate ((i + 7) / 8) 0) ∧ Below wr.heap.size wr w1 := fun w1 h1 h2 => by
        rw [made_ints] at h1
        exact ⟨isB_of_row h1, (Below.refl _ _).grown h2 (Nat.le_refl _) (by simp)⟩
      have hzb := isB_zeros ((i + 7) / 8)
      have e1 : IntKind.i64.wrap ((i : Int) + 8) = (i : Int) + 8 := by rw [IntKind.wrap_i64]; omega
      have e2 : IntKind.i64.wrap ((i : Int) + 8 - 1) = (i : Int) + 8 - 1 := by rw [IntKind.wrap_i64]; omega
      have e3 : ((i : Int) + 8 - 1).tdiv 8 = (((i + 7) / 8 : Nat) : Int) := by rw [Int.tdiv_eq_ediv_of_nonneg (by omega)]; omega
      have hsm8 : (i + 7) / 8 ≤ 1000 := by omega
      generalize hn8 : (i + 7) / 8 = n8 at *
      clear hn8
      go_wp2_with (at_make; refine wpList_make_full _ rfl _ _ 22 rfl w.heap.size 5 i0 (.int .u8 0) 1 Try.underlying22 hi0 hz0 hz1 _ _ _ _ n8 rfl rfl (by omega) (by omega) (by rw [hz2]; omega) hmax (by omega) ?_; intro w1 hown1 hgrow1)
      obtain ⟨hrow1, hb1⟩ := hmk w1 hown1 hgrow1
      clear hmk hown1 hgrow1
      have hrow6 := hrow5.below hb1 (Nat.le_refl _)
      refine (turn_any _ _ _ _ _ _ _ (onesAt l i) _ hrow1 hzb hrow6 HWF.out hsm8).mono ?_
      rintro e w2 ⟨hb2, h2⟩
      rcases h2 with ⟨_, rfl, hown2⟩ | ⟨hf, _⟩
      · rw [HT.out] at hown2
        have hrow7 := isB_of_row hown2
        have hB : Below w.heap.size w w2 := btrans (btrans hnx (hb1.mono (Nat.le_refl _))) hb2
        clear hown2
        go_wp2_with fail
        go_ret
        refine ⟨some ⟨w1.heap.size, 0, none⟩, n8, ?_, ?_, hB⟩
        · rw [HPL.out]; rfl
        · rw [HPL.out]; exact hrow7
      · exact absurd hf (by rw [HIN.out]; simp)

end Go.Proofs.Ytjiaomkjebbkpab
