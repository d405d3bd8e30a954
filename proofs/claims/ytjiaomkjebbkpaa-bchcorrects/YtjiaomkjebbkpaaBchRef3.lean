/-
  Layer 5's reference, Encode: the more bytes of data; nothing old turns.
-/
import Derived.Test.YtjiaomkjebbkpaaBchRef2
namespace Go.Proofs.Ytjiaomkjebbkpaa
open Go.RowKit
set_option linter.unusedVariables false

theorem padB_take (n : Nat) (p : List Nat) (h : n ≤ p.length) : p.take n = padB n p := by
  apply list_ext
  · rw [List.length_take, length_padB]; omega
  · intro i hi
    rw [List.length_take] at hi
    rw [cf_take p n i (by omega), cf_padB, if_pos (by omega)]
theorem bts_noughts (n i : Nat) : cf (bts (List.replicate n 0)) i = 0 := by
  rw [cf_bts]
  have e : bitI (List.replicate n 0) i = 0 := by
    unfold bitI
    have : (List.replicate n (0 : Int))[i / 8]?.getD 0 = 0 := by
      by_cases h : i / 8 < n
      · simp [h]
      · rw [List.getElem?_eq_none (by simpa using h)]; rfl
    rw [this]
    unfold bitAt
    simp
  rw [e]; rfl
theorem isB_noughts (n : Nat) : IsB (List.replicate n 0) := fun x hx => by
  have := List.eq_of_mem_replicate hx
  omega

set_option maxHeartbeats 400000 in
theorem refPadded_any (a : Option Addr) (len cap : Nat) (w : World) (hl : len ≤ 1000) : Calls Try.prog 32 #[.slice a len cap, .int .i64 (len : Nat)] w fun e w' => e = .returned (.slice a len cap) ∧ w = w' := by
  go_enter Try.func32, Try.ntmps32
  go_wp2
  go_loop [0] (fun y => y = .slice a len cap) (fun _ => 0)
  case atStart => rfl
  case round =>
    obtain rfl := hrel
    go_wp2
    go_ret
    exact ⟨rfl, rfl⟩

set_option maxHeartbeats 3200000 in
set_option maxRecDepth 100000 in
theorem refEncode_any (t : Nat) (a : Option Addr) (len cap : Nat) (x : List Int) (w : World) (ht : t ≤ 8) (hr : Row .u8 w a len cap x) (hx : IsB x) (hsm : len ≤ 600) :
    Calls Try.prog 13 #[.int .i64 t, .slice a len cap] w fun e w' => ∃ z v cp, IsEnc t x z ∧ e = .returned (.slice v z.length cp) ∧ Row .u8 w' v z.length cp z ∧ Below w.heap.size w w' := by
  obtain ⟨i0, hi0, hz0, hz1, hz2⟩ := info_parts Try.info5
  obtain ⟨n, hn⟩ : ∃ n, n = (13 * t + 7) / 8 := ⟨_, rfl⟩
  have HN : Hid (n = (13 * t + 7) / 8) := hn
  have hn14 : n ≤ 14 := by omega
  have hn8 : 13 * t ≤ 8 * n := by omega
  have hmx : n ≤ maxLen := by unfold maxLen; omega
  have cSz := refSize_any t
  rw [← hn] at cSz
  clear hn
  have hmk : ∀ w1 : World, w1.ownsRow w.heap.size 5 1 (.slice (some ⟨w.heap.size, 0, none⟩) n n) n (madeCells (Value.int IntKind.u8 0).cells (n * 1)).toList → w.grownBy w1 none →
      w1.ownsRow w.heap.size 5 1 (.slice (some ⟨w.heap.size, 0, none⟩) n n) n ((List.replicate n (0 : Int)).map (Value.int .u8)) ∧ Below w.heap.size w w1 := fun w1 h1 h2 => by
    refine ⟨?_, (Below.refl _ _).grown h2 (Nat.le_refl _) (by simp)⟩
    rw [made_ints] at h1
    exact h1
  have HME : Hid (∀ g r, Is01 g → Eqv g (genTo t) → IsMod (wordL t x (List.replicate n 0)) g r → IsEnc t x (pk (padB (13 * t) r))) := fun g r hg he hm =>
    enc_of_mod ht (fun i _ => bts_noughts n i) (hm.eqv (Eqv.refl _) he hg (is01_genTo t) (Eqv.refl _) hm.hr)
  have HGN : Hid (∀ g, Eqv g (genTo t) → norm g ≠ []) := fun g he e => by
    have := length_genTo t ht
    rw [norm_ext he, norm_genTo] at e
    rw [e] at this
    simp at this
  have hw01 := is01_wordL t x (List.replicate n 0)
  have hLW : (wordL t x (List.replicate n 0)).length = 13 * t + 8 * len := by rw [length_wordL, hr.hlen]
  go_enter Try.func13, Try.ntmps13
  go_wp2_with fail
  refine (cSz _ ht).mono ?_
  rintro e w' ⟨rfl, rfl⟩
  go_wp2_with (at_make; refine wpList_make_full _ rfl _ _ 22 rfl w.heap.size 5 i0 (.int .u8 0) 1 Try.underlying22 hi0 hz0 hz1 _ _ _ _ n rfl rfl rfl rfl (by rw [hz2]; omega) hmx (Nat.le_refl _) ?_; intro w1 hown1 hgrow1)
  obtain ⟨hown2, q1⟩ := hmk w1 hown1 hgrow1
  clear hmk hown1 hgrow1
  obtain ⟨a2, cp2, hv2, row2⟩ := row_of_owns hown2
  simp only [Value.slice.injEq, true_and] at hv2
  obtain ⟨rfl, rfl⟩ := hv2
  clear hown2
  replace hr := hr.below q1 (Nat.le_refl _)
  go_wp2_with fail
  refine (refWord_any t _ _ _ _ _ _ x (List.replicate n 0) _ ht hr hx row2 (isB_noughts n) hn8 hsm (by omega)).mono ?_
  rintro e w3 ⟨a3, cp3, rfl, row3, qq⟩
  replace q1 := btrans q1 qq
  clear qq row2 hr
  go_wp2_with fail
  refine (refGen_any t _ ht).mono ?_
  rintro e w4 ⟨g, a4, cp4, h4, e4, rfl, row4, l4, qq⟩
  replace row3 := row3.below qq (Nat.le_refl _)
  replace q1 := btrans q1 qq
  clear qq
  go_wp2_with fail
  refine (refMod_any _ _ _ _ _ _ _ g _ row3 hw01 row4 h4 (HGN.out g e4) (by omega) (by omega)).mono ?_
  rintro e w5 ⟨r, a5, cp5, hmod, hrl, rfl, row5, qq⟩
  have hE := HME.out g r h4 e4 hmod
  have HE : Hid (IsEnc t x (pk (padB (13 * t) r))) := hE
  have h1r := hmod.hr
  replace q1 := btrans q1 qq
  clear qq row3 row4 e4 hmod hE
  have rowT := row5.take (13 * t) (by omega)
  rw [ints_take, padB_take (13 * t) r (by omega)] at rowT
  have h1p := is01_padB (13 * t) h1r
  have hcap := row5.hcap
  have hmax := row5.hmax
  unfold maxLen at hmax
  clear hrl hLW row5
  have hsl1 : (0 : Int) ≤ 13 * (t : Int) := by omega
  have hsl2 : 13 * (t : Int) ≤ (cp5 : Int) := by omega
  have hsl3 : (13 * (t : Int)).toNat = 13 * t := by omega
  have HZL : Hid ((pk (padB (13 * t) r)).length = n) := by show _ = _; rw [HE.out.len]; exact HN.out.symm
  generalize padB (13 * t) r = pr at *
  go_wp2_with fail
  refine (putL_any _ (13 * t) _ n pr _ h1p HN.out rowT (by omega)).mono ?_
  rintro e w6 ⟨qq, rfl, hown6⟩
  obtain ⟨a6, cp6, hv6, row6⟩ := row_of_owns hown6
  simp only [Value.slice.injEq, true_and] at hv6
  obtain ⟨rfl, rfl⟩ := hv6
  replace q1 := btrans q1 qq
  clear qq hown6 rowT
  go_wp2_with fail
  refine (cSz _ ht).mono ?_
  rintro e w' ⟨rfl, rfl⟩
  go_wp2_with fail
  refine (refPadded_any _ n _ _ (by omega)).mono ?_
  rintro e w' ⟨rfl, rfl⟩
  generalize pk pr = z at *
  go_wp2_with fail
  go_ret
  rw [← HZL.out] at row6 ⊢
  first | exact ⟨z, HE.out, _, _, rfl, row6, q1⟩ | exact ⟨z, _, _, HE.out, rfl, row6, q1⟩

end Go.Proofs.Ytjiaomkjebbkpaa
