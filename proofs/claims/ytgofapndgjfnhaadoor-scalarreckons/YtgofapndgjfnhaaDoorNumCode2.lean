/-
  The code of layer 15 (nums), as it landed: Cmp.
-/
import Derived.Test.YtgofapndgjfnhaaDoorNumCode
namespace Go.Proofs.YtgofapndgjfnhaaDoor.N
open Go.RowKit
set_option linter.unusedVariables false
set_option maxRecDepth 8192

def cmpI (x y : Int) : Int := if x < y then -1 else if y < x then 1 else 0
theorem cmpN_I (a b : Nat) : cmpI (a : Int) (b : Int) = cmpN a b := by
  unfold cmpI cmpN
  simp only [Int.ofNat_lt]
theorem isNaN_any (x : Int) (w : World) : Calls Tryd.prog 63 #[.int .i64 x] w fun e w' => e = .returned (.bool false) ∧ w = w' := by
  go_enter Tryd.func63, Tryd.ntmps63
  go_wp2
  go_ret
  exact ⟨ret_bool (by simp), rfl⟩
theorem compare_any (x y : Int) (w : World) : Calls Tryd.prog 43 #[.int .i64 x, .int .i64 y] w fun e w' => e = .returned (.int .i64 (cmpI x y)) ∧ w = w' := by
  by_cases h1 : x < y
  · have hc : Hid (cmpI x y = -1) := by show _ = _; unfold cmpI; rw [if_pos h1]
    go_enter Tryd.func43, Tryd.ntmps43
    go_wp2_with (go_at_call 63; refine (isNaN_any _ _).mono ?_; rintro e w' ⟨rfl, rfl⟩)
    go_ret
    exact ⟨ret_int hc.out.symm, rfl⟩
  · by_cases h2 : y < x
    · have hc : Hid (cmpI x y = 1) := by show _ = _; unfold cmpI; rw [if_neg h1, if_pos h2]
      go_enter Tryd.func43, Tryd.ntmps43
      go_wp2_with (go_at_call 63; refine (isNaN_any _ _).mono ?_; rintro e w' ⟨rfl, rfl⟩)
      go_ret
      exact ⟨ret_int hc.out.symm, rfl⟩
    · have hc : Hid (cmpI x y = 0) := by show _ = _; unfold cmpI; rw [if_neg h1, if_neg h2]
      go_enter Tryd.func43, Tryd.ntmps43
      go_wp2_with (go_at_call 63; refine (isNaN_any _ _).mono ?_; rintro e w' ⟨rfl, rfl⟩)
      go_ret
      exact ⟨ret_int hc.out.symm, rfl⟩
theorem isNaNB_any (x : Int) (w : World) : Calls Tryd.prog 64 #[.int .u8 x] w fun e w' => e = .returned (.bool false) ∧ w = w' := by
  go_enter Tryd.func64, Tryd.ntmps64
  go_wp2
  go_ret
  exact ⟨ret_bool (by simp), rfl⟩
theorem compareB_any (x y : Int) (w : World) : Calls Tryd.prog 44 #[.int .u8 x, .int .u8 y] w fun e w' => e = .returned (.int .i64 (cmpI x y)) ∧ w = w' := by
  by_cases h1 : x < y
  · have hc : Hid (cmpI x y = -1) := by show _ = _; unfold cmpI; rw [if_pos h1]
    go_enter Tryd.func44, Tryd.ntmps44
    go_wp2_with (go_at_call 64; refine (isNaNB_any _ _).mono ?_; rintro e w' ⟨rfl, rfl⟩)
    go_ret
    exact ⟨ret_int hc.out.symm, rfl⟩
  · by_cases h2 : y < x
    · have hc : Hid (cmpI x y = 1) := by show _ = _; unfold cmpI; rw [if_neg h1, if_pos h2]
      go_enter Tryd.func44, Tryd.ntmps44
      go_wp2_with (go_at_call 64; refine (isNaNB_any _ _).mono ?_; rintro e w' ⟨rfl, rfl⟩)
      go_ret
      exact ⟨ret_int hc.out.symm, rfl⟩
    · have hc : Hid (cmpI x y = 0) := by show _ = _; unfold cmpI; rw [if_neg h1, if_neg h2]
      go_enter Tryd.func44, Tryd.ntmps44
      go_wp2_with (go_at_call 64; refine (isNaNB_any _ _).mono ?_; rintro e w' ⟨rfl, rfl⟩)
      go_ret
      exact ⟨ret_int hc.out.symm, rfl⟩
theorem cmpN_short {a b : List Nat} (ha : Nrm a) (hb : Nrm b) (h : a.length ≠ b.length) : cmpN a.length b.length = cmpN (vL a) (vL b) := by
  unfold cmpN
  rcases Nat.lt_trichotomy a.length b.length with h1 | h1 | h1
  · rw [if_pos h1, if_pos (Nrm.short ha.dig hb h1)]
  · exact absurd h1 h
  · have := Nrm.short hb.dig ha h1
    rw [if_neg (by omega), if_pos h1, if_neg (by omega), if_pos this]
theorem cmpN_digit {a b : List Nat} {n i : Nat} (ha : Dig a) (hb : Dig b) (hla : a.length = n) (hlb : b.length = n) (hi : i < n) (h : ∀ j, i < j → j < n → dg a j = dg b j) (hne : dg a i ≠ dg b i) : cmpN (dg a i) (dg b i) = cmpN (vL a) (vL b) := by
  have h1 := vTo_above (f := dg a) (g := dg b) hi ha.at hb.at h hne
  have h2 := vTo_above (f := dg b) (g := dg a) hi hb.at ha.at (fun j x y => (h j x y).symm) (fun e => hne e.symm)
  rw [vL_to a n (by omega), vL_to b n (by omega)] at h1
  rw [vL_to a n (by omega), vL_to b n (by omega)] at h2
  unfold cmpN
  simp only [h1, h2]
set_option maxHeartbeats 1600000 in
theorem cmp_nrm (a b : List Nat) (aa ab : Option Addr) (n m ca cb : Nat) (la lb ca' cb' : Nat) (w : World) (na : Nrm a) (nb' : Nrm b) (ra : Row .u8 w aa n ca (nI a)) (rb : Row .u8 w ab m cb (nI b)) (hn : n ≤ 1000000) (hm : m ≤ 1000000)
    (hTa : Calls Tryd.prog 42 #[.slice aa la ca'] w fun e w' => e = .returned (.slice aa n ca) ∧ w = w')
    (hTb : Calls Tryd.prog 42 #[.slice ab lb cb'] w fun e w' => e = .returned (.slice ab m cb) ∧ w = w') :
    Calls Tryd.prog 26 #[.slice aa la ca', .slice ab lb cb'] w fun e w' => e = .returned (.int .i64 (cmpN (vL a) (vL b))) ∧ Below w.heap.size w w' := by
  have HLa : Hid (a.length = n) := by have := ra.hlen; rwa [nI_length] at this
  have HLb : Hid (b.length = m) := by have := rb.hlen; rwa [nI_length] at this
  by_cases hne : n = m
  case neg =>
    have HC : Hid (cmpI (n : Int) (m : Int) = cmpN (vL a) (vL b)) := by
      show _ = _
      rw [cmpN_I, ← HLa.out, ← HLb.out]
      exact cmpN_short na nb' (by rw [HLa.out, HLb.out]; exact hne)
    have hq : ((n : Int) != (m : Int)) = true := by simp; omega
    go_enter Tryd.func26, Tryd.ntmps26
    go_wp2_with fail
    refine hTa.mono ?_
    rintro e w' ⟨rfl, rfl⟩
    go_wp2_with fail
    refine hTb.mono ?_
    rintro e w' ⟨rfl, rfl⟩
    go_wp2_with fail
    refine (compare_any _ _ _).mono ?_
    rintro e w' ⟨rfl, rfl⟩
    go_wp2_with fail
    go_ret
    exact ⟨ret_int HC.out, Below.refl _ _⟩
  subst hne
  go_enter Tryd.func26, Tryd.ntmps26
  go_wp2_with fail
  refine hTa.mono ?_
  rintro e w' ⟨rfl, rfl⟩
  go_wp2_with fail
  refine hTb.mono ?_
  rintro e w' ⟨rfl, rfl⟩
  clear hTa hTb
  go_wp2_with fail
  go_loopw [5] (fun y wr => ∃ k : Nat, k ≤ n ∧ y = .int .i64 ((k : Int) - 1) ∧ Hid (∀ j, k ≤ j → j < n → dg a j = dg b j) ∧ Hid (Below w.heap.size w wr)) (fun y _ => (intOf y + 1).toNat)
  case atStart => exact ⟨n, Nat.le_refl _, by go_num, fun j h1 h2 => by omega, Below.refl _ _⟩
  case round =>
    obtain ⟨k, hk, rfl, HE, HB⟩ := hrel
    replace ra := ra.below HB.out (Nat.le_refl _)
    replace rb := rb.below HB.out (Nat.le_refl _)
    by_cases h0 : k = 0
    · subst h0
      have HF : Hid (cmpN (vL a) (vL b) = 0) := by
        show _ = _
        have : a = b := list_dg (by rw [HLa.out, HLb.out]) (fun i => by
          rcases Nat.lt_or_ge i n with h | h
          · exact HE.out i (Nat.zero_le _) h
          · rw [dg_past (by rw [HLa.out]; exact h), dg_past (by rw [HLb.out]; exact h)])
        rw [this]
        unfold cmpN
        simp
      go_wp2
      go_ret
      exact ⟨ret_int HF.out.symm, HB.out⟩
    · have hto : ((k : Int) - 1).toNat = k - 1 := by omega
      have hk0 : (0 : Int) ≤ (k : Int) - 1 := by omega
      have hk1 : (k : Int) - 1 < (n : Int) := by omega
      obtain ⟨b1, o1, rfl, hb1, hc1⟩ := ra.hcell (by omega)
      have hd1 := hc1 (k - 1) (by omega)
      clear hc1
      rw [nI_dg] at hd1
      obtain ⟨b2, o2, rfl, hb2, hc2⟩ := rb.hcell (by omega)
      have hd2 := hc2 (k - 1) (by omega)
      clear hc2
      rw [nI_dg] at hd2
      by_cases hxy : dg a (k - 1) = dg b (k - 1)
      · have HG : Hid (∀ j, k - 1 ≤ j → j < n → dg a j = dg b j) := fun j h1 h2 => by
          by_cases e : j = k - 1
          · rw [e]; exact hxy
          · exact HE.out j (by omega) h2
        rw [hxy] at hd1
        clear HE hxy
        generalize dg b (k - 1) = y at *
        go_wp2_with fail
        go_quiet (fail)
        go_wp2
        go_roundw
        case rel => exact ⟨k - 1, by omega, by go_num, HG, belowN HB.out _⟩
        case measure => simp [intOf]; omega
      · have HG : Hid (cmpI ((dg a (k - 1) : Nat) : Int) ((dg b (k - 1) : Nat) : Int) = cmpN (vL a) (vL b)) := by
          show _ = _
          rw [cmpN_I]
          exact cmpN_digit na.dig nb'.dig HLa.out HLb.out (by omega) (fun j h1 h2 => HE.out j (by omega) h2) hxy
        have hq : (((dg a (k - 1) : Nat) : Int) != ((dg b (k - 1) : Nat) : Int)) = true := by simp; omega
        clear HE hxy
        generalize dg a (k - 1) = x at *
        generalize dg b (k - 1) = y at *
        go_wp2_with fail
        go_quiet (fail)
        go_wp2_with fail
        go_quiet (first | (go_at_call 44; with_reducible exact quiet_eq2 (compareB_any _ _ _)))
        go_wp2
        go_ret
        exact ⟨ret_int HG.out, by first | exact belowN HB.out _ | exact belowN (belowN HB.out _) _⟩
theorem cmp_any (a b : List Nat) (aa ab : Option Addr) (la ca lb cb : Nat) (w : World) (da : Dig a) (db : Dig b) (ra : Row .u8 w aa la ca (nI a)) (rb : Row .u8 w ab lb cb (nI b)) (hla : la ≤ 1000000) (hlb : lb ≤ 1000000) :
    Calls Tryd.prog 26 #[.slice aa la ca, .slice ab lb cb] w fun e w' => e = .returned (.int .i64 (cmpN (vL a) (vL b))) ∧ Below w.heap.size w w' := by
  have h1 := ra.hlen
  have h2 := rb.hlen
  rw [nI_length] at h1 h2
  rw [← vL_nt a, ← vL_nt b]
  exact cmp_nrm (nt a) (nt b) aa ab (tl a) (tl b) ca cb la lb ca cb w (nrm_nt da) (nrm_nt db) (row_nt ra) (row_nt rb) (by have := tl_le a; omega) (by have := tl_le b; omega) (trim_any a aa la ca w ra hla) (trim_any b ab lb cb w rb hlb)
end Go.Proofs.YtgofapndgjfnhaaDoor.N
