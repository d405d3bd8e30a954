/-
  The walk of BitsSums: for every three rows of bytes the law returns true; nothing old turns.
-/
import Derived.Test.YtmdiblknjgkpoaaTurns
namespace Go.Proofs.Ytmdiblknjgkpoaa
open Go.RowKit
set_option linter.unusedVariables false

theorem apartTo_symm (x y : List Int) (n : Nat) : apartTo y x n = apartTo x y n := by
  induction n with
  | zero => rfl
  | succ n ih =>
    by_cases h : bitI x n = bitI y n
    · rw [apartTo_miss x y n h, apartTo_miss y x n h.symm, ih]
    · rw [apartTo_hit x y n h, apartTo_hit y x n (fun e => h e.symm), ih]
theorem apartTo_self (x : List Int) (n : Nat) : apartTo x x n = [] := by
  induction n with
  | zero => rfl
  | succ n ih => rw [apartTo_miss x x n rfl, ih]
theorem apartTo_tri (x y z : List Int) (n : Nat) : (apartTo x z n).length ≤ (apartTo x y n).length + (apartTo y z n).length := by
  induction n with
  | zero => exact Nat.zero_le _
  | succ n ih =>
    by_cases h1 : bitI x n = bitI y n <;> by_cases h2 : bitI y n = bitI z n
    · rw [apartTo_miss x y n h1, apartTo_miss y z n h2, apartTo_miss x z n (h1.trans h2)]; exact ih
    · rw [apartTo_miss x y n h1, apartTo_hit y z n h2, apartTo_hit x z n (by rw [h1]; exact h2)]; simp; omega
    · rw [apartTo_hit x y n h1, apartTo_miss y z n h2, apartTo_hit x z n (by rw [← h2]; exact h1)]; simp; omega
    · rw [apartTo_hit x y n h1, apartTo_hit y z n h2]
      have : (apartTo x z (n + 1)).length ≤ (apartTo x z n).length + 1 := by
        by_cases h3 : bitI x n = bitI z n
        · rw [apartTo_miss x z n h3]; omega
        · rw [apartTo_hit x z n h3]; simp
      simp; omega
theorem wf_apartTo (x y : List Int) (n : Nat) (hn : n ≤ 100000) : ∀ p ∈ apartTo x y n, (Lit.int .i64 p).wf = true := by
  intro p hp
  have := (mem_apartTo x y n p).1 hp
  exact WalkArith.wf_i64 (by omega)

set_option maxHeartbeats 1600000 in
theorem walk_sums (a b c : Option Addr) (len cap len1 cap1 len2 cap2 : Nat) (x y z : List Int) (w : World) (hr : Row .u8 w a len cap x) (hb : IsB x) (hr1 : Row .u8 w b len1 cap1 y) (hb1 : IsB y) (hr2 : Row .u8 w c len2 cap2 z) (hb2 : IsB z) :
    Calls Try.prog 7 #[.slice a len cap, .slice b len1 cap1, .slice c len2 cap2] w fun e w' => e = .returned (.bool true) ∧ Below w.heap.size w w' := by
  have hmax : len ≤ maxLen := Nat.le_trans hr.hcap hr.hmax
  by_cases hs : len ≤ 200
  · have hsm : smallB len 0 = true := smallB_yes hs (by omega)
    by_cases h1 : len = len1
    · subst h1
      have hq : ((len : Int) != (len : Int)) = false := by simp
      by_cases h2 : len = len2
      · subst h2
        have h1000 : len ≤ 1000 := by omega
        have hlx := hr.hlen
        have hly := hr1.hlen
        have HT : Hid (turnI x (apartTo x y (8 * len)) = y) := by
          show _ = _
          have := turn_apart hb hb1 (hlx.trans hly.symm)
          rwa [hlx] at this
        have HN : Hid (inB len (apartTo x y (8 * len)) = true) := (inB_iff _ _).2 (inAll_apartTo x y len)
        have htri := apartTo_tri x y z (8 * len)
        have hle1 := apartTo_le x y (8 * len)
        have hle2 := apartTo_le y z (8 * len)
        have hle3 := apartTo_le x z (8 * len)
        clear hlx hly
        go_enter Try.func7, Try.ntmps7
        go_wp2_with fail
        refine (small_any _ _ len _ 0 _ _ hmax (Nat.zero_le _)).mono ?_
        rintro e w' ⟨rfl, rfl⟩
        rw [hsm]
        go_wp2_with fail
        refine (apart_yes _ _ len _ _ x y _ hr hb hr1 hb1 h1000).mono ?_
        rintro e w1 ⟨v, rfl, hown, hblN⟩
        obtain ⟨a1, cp1, rfl, hrow1⟩ := row_of_owns hown
        clear hown
        replace hr := hr.below hblN (Nat.le_refl _)
        replace hr1 := hr1.below hblN (Nat.le_refl _)
        replace hr2 := hr2.below hblN (Nat.le_refl _)
        have hbl := hblN
        clear hblN
        go_wp2_with fail
        refine (apart_yes _ _ len _ _ y x _ hr1 hb1 hr hb h1000).mono ?_
        rintro e w2 ⟨v, rfl, hown, hblN⟩
        rw [apartTo_symm] at hown
        obtain ⟨a2, cp2, rfl, hrow2⟩ := row_of_owns hown
        clear hown
        replace hr := hr.below hblN (Nat.le_refl _)
        replace hr1 := hr1.below hblN (Nat.le_refl _)
        replace hr2 := hr2.below hblN (Nat.le_refl _)
        replace hrow1 := hrow1.below hblN (Nat.le_refl _)
        replace hbl := hbl.trans (hblN.mono hbl.size)
        clear hblN
        go_wp2_with fail
        refine (apart_yes _ _ len _ _ x x _ hr hb hr hb h1000).mono ?_
        rintro e w3 ⟨v, rfl, hown, hblN⟩
        rw [apartTo_self, List.length_nil] at hown
        obtain ⟨a3, cp3, rfl, hrow3⟩ := row_of_owns hown
        clear hown
        replace hr := hr.below hblN (Nat.le_refl _)
        replace hr1 := hr1.below hblN (Nat.le_refl _)
        replace hr2 := hr2.below hblN (Nat.le_refl _)
        replace hrow1 := hrow1.below hblN (Nat.le_refl _)
        replace hrow2 := hrow2.below hblN (Nat.le_refl _)
        replace hbl := hbl.trans (hblN.mono hbl.size)
        clear hblN
        go_wp2_with fail
        clear hrow3
        refine (apart_yes _ _ len _ _ y z _ hr1 hb1 hr2 hb2 h1000).mono ?_
        rintro e w4 ⟨v, rfl, hown, hblN⟩
        obtain ⟨a4, cp4, rfl, hrow4⟩ := row_of_owns hown
        clear hown
        replace hr := hr.below hblN (Nat.le_refl _)
        replace hr1 := hr1.below hblN (Nat.le_refl _)
        replace hr2 := hr2.below hblN (Nat.le_refl _)
        replace hrow1 := hrow1.below hblN (Nat.le_refl _)
        replace hrow2 := hrow2.below hblN (Nat.le_refl _)
        replace hbl := hbl.trans (hblN.mono hbl.size)
        clear hblN
        go_wp2_with fail
        clear hrow4
        refine (apart_yes _ _ len _ _ x z _ hr hb hr2 hb2 h1000).mono ?_
        rintro e w5 ⟨v, rfl, hown, hblN⟩
        obtain ⟨a5, cp5, rfl, hrow5⟩ := row_of_owns hown
        clear hown
        replace hr := hr.below hblN (Nat.le_refl _)
        replace hr1 := hr1.below hblN (Nat.le_refl _)
        replace hrow1 := hrow1.below hblN (Nat.le_refl _)
        replace hrow2 := hrow2.below hblN (Nat.le_refl _)
        replace hbl := hbl.trans (hblN.mono hbl.size)
        clear hblN
        go_wp2_with fail
        clear hrow5 hr2
        refine (turn_any _ _ _ _ _ _ x (apartTo x y (8 * len)) _ hr hb hrow1 (wf_apartTo x y (8 * len) (by omega)) h1000).mono ?_
        rintro e w6 ⟨hblN, ⟨hin, rfl, hown6⟩ | ⟨hin, rfl⟩⟩
        case inr => rw [HN.out] at hin; simp at hin
        rw [HT.out] at hown6
        obtain ⟨a6, cp6, hv6, hrow6⟩ := row_of_owns hown6
        rw [hv6]
        clear hown6 hv6 hin
        replace hr1 := hr1.below hblN (Nat.le_refl _)
        replace hrow1 := hrow1.below hblN (Nat.le_refl _)
        replace hrow2 := hrow2.below hblN (Nat.le_refl _)
        replace hbl := hbl.trans (hblN.mono hbl.size)
        clear hblN hr
        generalize apartTo x y (8 * len) = D at *
        clear HT HN
        generalize D.length = n at *
        generalize (apartTo y z (8 * len)).length = n4 at *
        generalize (apartTo x z (8 * len)).length = n5 at *
        have hqd : ((n : Int) != (n : Int)) = false := by simp
        go_wp2_with fail
        go_loopw [19] (fun q wr => ∃ k : Nat, k ≤ n ∧ q = .int .i64 k ∧ ∃ nn, wr = w6.drewN nn) (fun q _ => n - (intOf q).toNat)
        case atStart => exact ⟨0, Nat.zero_le _, rfl, 0, rfl⟩
        case round =>
          obtain ⟨k, hk, rfl, nn, rfl⟩ := hrel
          by_cases hlt : k < n
          · obtain ⟨b1, off1, rfl, hbs1, hcell1⟩ := hrow1.hcell (by omega)
            obtain ⟨b2, off2, rfl, hbs2, hcell2⟩ := hrow2.hcell (by omega)
            have hc1 := hcell1 k hlt
            have hc2 := hcell2 k hlt
            clear hcell1 hcell2
            have hlt' : (k : Int) < (n : Int) := by omega
            generalize D[k]?.getD 0 = p at *
            have hpp : (p != p) = false := by simp
            go_wp2
            go_quiet (fail)
            go_wp2
            go_roundw
            case rel => exact ⟨k + 1, by omega, by go_num, _, rfl⟩
            case measure => simp [intOf]; omega
          · have htri' : (n5 : Int) ≤ (n : Int) + (n4 : Int) := by omega
            have hbx : Below w6.heap.size w6 (w6.drewN nn) := below_drewN (Below.refl _ _) _
            go_wp2_with (go_at_call 13; refine (awake_any _).mono ?_; rintro e w7 ⟨rfl, hbl7⟩; have hbl67 := hbx.trans hbl7; have hcv6 := conv_row (hrow6.below hbl67 (Nat.le_refl _)); have hcv1 := conv_row (hr1.below hbl67 (Nat.le_refl _)))
            go_ret
            exact ⟨rfl, hbl.trans (hbl67.mono hbl.size)⟩
      · have hq2 : ((len : Int) != (len2 : Int)) = true := by simp; omega
        go_enter Try.func7, Try.ntmps7
        go_wp2_with fail
        refine (small_any _ _ len _ 0 _ _ hmax (Nat.zero_le _)).mono ?_
        rintro e w' ⟨rfl, rfl⟩
        rw [hsm]
        go_wp2_with fail
        go_ret
        exact ⟨rfl, Below.refl _ _⟩
    · have hq : ((len : Int) != (len1 : Int)) = true := by simp; omega
      go_enter Try.func7, Try.ntmps7
      go_wp2_with fail
      refine (small_any _ _ len _ 0 _ _ hmax (Nat.zero_le _)).mono ?_
      rintro e w' ⟨rfl, rfl⟩
      rw [hsm]
      go_wp2_with fail
      go_ret
      exact ⟨rfl, Below.refl _ _⟩
  · have hsm : smallB len 0 = false := smallB_no hs
    go_enter Try.func7, Try.ntmps7
    go_wp2_with fail
    refine (small_any _ _ len _ 0 _ _ hmax (Nat.zero_le _)).mono ?_
    rintro e w' ⟨rfl, rfl⟩
    rw [hsm]
    go_wp2_with fail
    go_ret
    exact ⟨rfl, Below.refl _ _⟩

end Go.Proofs.Ytmdiblknjgkpoaa
