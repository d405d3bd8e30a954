/-
  The walk of BitsOnes: for every row of bytes the law returns true; nothing old turns.
-/
import Derived.Test.YtmdiblknjgkpoaaSums
namespace Go.Proofs.Ytmdiblknjgkpoaa
open Go.RowKit
set_option linter.unusedVariables false

/-- 0, 1 .. n - 1. -/
def upTo (n : Nat) : List Int := (List.range n).map Int.ofNat
theorem upTo_succ (n : Nat) : upTo (n + 1) = upTo n ++ [(n : Int)] := by simp [upTo, List.range_succ]
theorem length_upTo (n : Nat) : (upTo n).length = n := by simp [upTo]
theorem mem_upTo (n : Nat) (p : Int) : p ∈ upTo n ↔ 0 ≤ p ∧ p < n := by
  simp only [upTo, List.mem_map, List.mem_range]
  constructor
  · rintro ⟨j, h, rfl⟩; exact ⟨by simp, by simpa using h⟩
  · rintro ⟨h0, h1⟩; exact ⟨p.toNat, by omega, by simp; omega⟩
theorem inAll_upTo (n : Nat) : inAll n (upTo (8 * n)) := by
  intro p hp
  have := (mem_upTo _ p).1 hp
  omega
theorem wf_upTo (n : Nat) (hn : n ≤ 100000) : ∀ p ∈ upTo n, (Lit.int .i64 p).wf = true := by
  intro p hp
  have := (mem_upTo n p).1 hp
  exact WalkArith.wf_i64 (by omega)
theorem oddN_upTo (n i : Nat) : oddN (upTo n) i = decide (i < n) := by
  induction n with
  | zero => simp [upTo, oddN]
  | succ n ih =>
    rw [upTo_succ, oddN_snoc, ih]
    by_cases e : i = n
    · subst e; simp
    · rw [if_neg (by simp; omega)]
      by_cases l : i < n
      · simp [l, show i < n + 1 from by omega]
      · simp [l, show ¬ i < n + 1 from by omega]
theorem bitI_zero (n i : Nat) : bitI (List.replicate n 0) i = 0 := by
  unfold bitI
  have : (List.replicate n (0 : Int))[i / 8]?.getD 0 = 0 := by
    by_cases h : i / 8 < n
    · simp [h]
    · rw [List.getElem?_eq_none (by simp; omega)]; rfl
  rw [this]
  unfold bitAt
  simp
theorem length_apart_zero (z : List Int) (m n : Nat) : ((apartTo z (List.replicate m 0) n).length : Int) = onesTo z n := by
  induction n with
  | zero => rfl
  | succ n ih =>
    rw [onesTo_succ, ← ih]
    rcases bitI_01 z n with h | h
    · rw [apartTo_miss _ _ n (by rw [bitI_zero]; exact h), h]; omega
    · rw [apartTo_hit _ _ n (by rw [bitI_zero, h]; decide), h]; simp
theorem bitI_turnAll {z : List Int} (h : IsB z) (i : Nat) (hi : i < 8 * z.length) : bitI (turnI z (upTo (8 * z.length))) i = 1 - bitI z i := by
  rw [bitI_turnI h _ (inAll_upTo z.length) i hi, oddN_upTo]
  simp [hi]
theorem ones_turnAll {z : List Int} (h : IsB z) (n : Nat) (hn : n ≤ 8 * z.length) : onesTo (turnI z (upTo (8 * z.length))) n = n - onesTo z n := by
  induction n with
  | zero => rfl
  | succ n ih =>
    rw [onesTo_succ, onesTo_succ, ih (by omega), bitI_turnAll h n (by omega)]
    omega
theorem isB_zero (n : Nat) : IsB (List.replicate n 0) := by
  intro x hx
  have := List.eq_of_mem_replicate hx
  omega

theorem mem_getD (D : List Int) (k : Nat) (h : k < D.length) : D[k]?.getD 0 ∈ D := by
  rw [List.getElem?_eq_getElem h]; exact List.getElem_mem h

set_option maxHeartbeats 1600000 in
theorem walk_ones (a : Option Addr) (len cap : Nat) (z : List Int) (w : World) (hr : Row .u8 w a len cap z) (hb : IsB z) :
    Calls Try.prog 8 #[.slice a len cap] w fun e w' => e = .returned (.bool true) ∧ Below w.heap.size w w' := by
  have hmax : len ≤ maxLen := Nat.le_trans hr.hcap hr.hmax
  by_cases hs : len ≤ 200
  · have hsm : smallB len 0 = true := smallB_yes hs (by omega)
    have h1000 : len ≤ 1000 := by omega
    obtain ⟨i0, hi0, hz0, hz1, hz2⟩ := info_parts Try.info5
    obtain ⟨j0, hj0, hy0, hy1, hy2⟩ := info_parts Try.info3
    have hlz := hr.hlen
    have HF1 : Hid (∀ p : Int, p ∈ apartTo z (List.replicate len 0) (8 * len) → ∃ q : Nat, p = q ∧ q < 8 * len ∧ bitI z q = 1 ∧ bitI (turnI z (upTo (8 * len))) q = 0) := fun p hp => by
      obtain ⟨h0, h1, h2⟩ := (mem_apartTo _ _ _ _).1 hp
      have hq : p.toNat < 8 * z.length := by omega
      rw [bitI_zero] at h2
      have hq1 : bitI z p.toNat = 1 := by rcases bitI_01 z p.toNat with e | e <;> omega
      refine ⟨p.toNat, by omega, by omega, hq1, ?_⟩
      have := bitI_turnAll hb p.toNat hq
      rw [hlz, hq1] at this
      exact this
    have HF2 : Hid (((apartTo z (List.replicate len 0) (8 * len)).length : Int) = onesTo z (8 * len)) := length_apart_zero z len (8 * len)
    have HF3 : Hid (onesTo (turnI z (upTo (8 * len))) (8 * len) = ((8 * len : Nat) : Int) - onesTo z (8 * len)) := by
      show _ = _
      have := ones_turnAll hb (8 * len) (by omega)
      rwa [hlz] at this
    clear hlz
    have HN : Hid (inB len (upTo (8 * len)) = true) := (inB_iff _ _).2 (inAll_upTo len)
    have hmk : ∀ w1 : World, w1.ownsRow w.heap.size 5 1 (.slice (some ⟨w.heap.size, 0, none⟩) len len) len (madeCells (Value.int IntKind.u8 0).cells (len * 1)).toList → w.grownBy w1 none →
        Row .u8 w1 (some ⟨w.heap.size, 0, none⟩) len len (List.replicate len 0) ∧ Below w.heap.size w w1 := fun w1 h1 h2 => by
      refine ⟨?_, (Below.refl _ _).grown h2 (Nat.le_refl _) (by simp)⟩
      have e : (madeCells (Value.int IntKind.u8 0).cells (len * 1)).toList = (List.replicate len 0).map (Value.int .u8) := by
        rw [Nat.mul_one]
        simpa [Value.cells] using toList_madeCells_one (Value.int IntKind.u8 0) len
      rw [e] at h1
      obtain ⟨a', cap', hv, hrow⟩ := row_of_owns h1
      simp only [Value.slice.injEq, true_and] at hv
      obtain ⟨rfl, rfl⟩ := hv
      exact hrow
    go_enter Try.func8, Try.ntmps8
    go_wp2_with (first
      | (go_at_call 9; refine (small_any _ _ len _ 0 _ _ hmax (Nat.zero_le _)).mono ?_; rintro e w' ⟨rfl, rfl⟩; rw [hsm])
      | (at_make; refine wpList_make_full _ rfl _ _ 22 rfl w.heap.size 5 i0 (.int .u8 0) 1 Try.underlying22 hi0 hz0 hz1 _ _ _ _ len rfl rfl rfl rfl (by rw [hz2]; omega) hmax (Nat.le_refl _) ?_; intro w1 hown1 hgrow1))
    obtain ⟨hrz, hbl⟩ := hmk w1 hown1 hgrow1
    clear hmk hown1 hgrow1
    replace hr := hr.below hbl (Nat.le_refl _)
    refine (apart_yes _ _ len _ _ z (List.replicate len 0) _ hr hb hrz (isB_zero len) h1000).mono ?_
    rintro e w2 ⟨v, rfl, hown2, hblN⟩
    obtain ⟨a2, cp2, rfl, hrow2⟩ := row_of_owns hown2
    clear hown2 hrz
    replace hr := hr.below hblN (Nat.le_refl _)
    replace hbl := hbl.trans (hblN.mono hbl.size)
    clear hblN
    have hDle := apartTo_le z (List.replicate len 0) (8 * len)
    generalize apartTo z (List.replicate len 0) (8 * len) = D at *
    generalize hDl : D.length = n at *
    have HDL : Hid (D.length = n) := hDl
    clear hDl
    go_wp2_with fail
    go_loopw [5, 6] (fun v q wr => ∃ i : Nat, i ≤ 8 * len ∧ q = .int .i64 i ∧ wr.ownsRow w2.heap.size 3 1 v i ((upTo i).map (Value.int .i64)) ∧ Below w2.heap.size w2 wr) (fun _ q _ => 8 * len - (intOf q).toNat)
    case atStart => exact ⟨0, Nat.zero_le _, rfl, World.ownsRow_nil _ _ _ _, Below.refl _ _⟩
    case round =>
      obtain ⟨i, hi, rfl, hown, hnx⟩ := hrel
      have hsz := hnx.size
      by_cases hlt : i < 8 * len
      · go_wp2_with (at_builtin; refine wpList_append_own _ rfl _ _ 24 rfl w2.heap.size 3 j0 (.int .i64 0) 1 8 Try.underlying24 hj0 hy0 hy1 hy2 rfl (by decide) _ _ _ rfl (hown.alloc _) ⟨wr.heap.size, 0, none⟩ 1 1 [.int .i64 (i : Int)] rfl rfl ?c1 ?c2 ?c3 ?c4 ?c5 ?_)
        case c1 => exact cell_one_new _ _ _
        case c2 => intro u hu; simp at hu; subst hu; rfl
        case c3 => unfold maxLen; omega
        case c4 => omega
        case c5 => simp; omega
        intro v' w3 hown' hgrow _
        have R := rel_push hsz hown hnx hown' hgrow
        rw [← upTo_succ] at R
        clear hown' hgrow hown
        go_wp2
        go_roundw
        case rel => exact ⟨i + 1, by omega, by go_num, R.1, R.2⟩
        case measure => simp [intOf]; omega
      · have e : i = 8 * len := by omega
        subst e
        obtain ⟨a3, cp3, rfl, hrow3⟩ := row_of_owns hown
        clear hown
        replace hr := hr.below hnx (Nat.le_refl _)
        replace hrow2 := hrow2.below hnx (Nat.le_refl _)
        replace hbl := hbl.trans (hnx.mono hbl.size)
        clear hnx hsz
        by_cases h300 : 8 * len ≤ 300
        · go_wp2_with fail
          refine (turn_any _ _ _ _ _ _ z (upTo (8 * len)) _ hr hb hrow3 (wf_upTo (8 * len) (by omega)) h1000).mono ?_
          rintro e w6 ⟨hblN, ⟨hin, rfl, hown6⟩ | ⟨hin, rfl⟩⟩
          case inr => rw [HN.out] at hin; simp at hin
          obtain ⟨a6, cp6, hv6, hrow6⟩ := row_of_owns hown6
          rw [hv6]
          clear hown6 hv6 hin hrow3
          replace hr := hr.below hblN (Nat.le_refl _)
          replace hrow2 := hrow2.below hblN (Nat.le_refl _)
          replace hbl := hbl.trans (hblN.mono hbl.size)
          clear hblN
          have hbt := isB_turnI hb (upTo (8 * len))
          generalize turnI z (upTo (8 * len)) = t at *
          go_wp2_with fail
          go_loop [9] (fun q => ∃ k : Nat, k ≤ n ∧ q = .int .i64 k) (fun q => n - (intOf q).toNat)
          case atStart => exact ⟨0, Nat.zero_le _, rfl⟩
          case round =>
            obtain ⟨k, hk, rfl⟩ := hrel
            by_cases hlt2 : k < n
            · obtain ⟨q, hq1, hq2, hq3, hq4⟩ := HF1.out (D[k]?.getD 0) (mem_getD D k (by have := HDL.out; omega))
              obtain ⟨b2, off2, rfl, hbs2, hcell2⟩ := hrow2.hcell (by omega)
              have hc2 := hcell2 k hlt2
              rw [hq1] at hc2
              clear hcell2 hq1
              have hlt' : (k : Int) < (n : Int) := by omega
              go_wp2_with fail
              refine (at_yes _ _ _ q z _ hr hb hq2 h1000).mono ?_
              rintro e w' ⟨rfl, rfl⟩
              rw [hq3]
              go_wp2_with fail
              refine (at_yes _ _ _ q t _ hrow6 hbt hq2 h1000).mono ?_
              rintro e w' ⟨rfl, rfl⟩
              rw [hq4]
              go_wp2_with fail
              go_round
              case rel => exact ⟨k + 1, by omega, by go_num⟩
              case measure => simp [intOf]; omega
            · have ho := onesTo_bd z (8 * len)
              go_wp2_with fail
              refine (awake_any _).mono ?_
              rintro e w7 ⟨rfl, hblN⟩
              replace hr := hr.below hblN (Nat.le_refl _)
              replace hrow6 := hrow6.below hblN (Nat.le_refl _)
              go_wp2_with fail
              refine (ones_any _ _ _ z _ hr hb h1000).mono ?_
              rintro e w' ⟨rfl, rfl⟩
              rw [← HF2.out]
              have hnn : ((n : Int) == (n : Int)) = true := by simp
              go_wp2_with fail
              refine (ones_any _ _ _ t _ hrow6 hbt h1000).mono ?_
              rintro e w' ⟨rfl, rfl⟩
              rw [HF3.out, ← HF2.out]
              have hmm : ((8 * (len : Int) - (n : Int)) == (8 * (len : Int) - (n : Int))) = true := by simp
              rw [show (((8 * len : Nat) : Int) - (n : Int)) = 8 * (len : Int) - (n : Int) from by omega]
              go_wp2_with fail
              go_ret
              exact ⟨rfl, hbl.trans (hblN.mono hbl.size)⟩
        · go_wp2
          go_ret
          exact ⟨rfl, hbl⟩
  · have hsm : smallB len 0 = false := smallB_no hs
    go_enter Try.func8, Try.ntmps8
    go_wp2_with fail
    refine (small_any _ _ len _ 0 _ _ hmax (Nat.zero_le _)).mono ?_
    rintro e w' ⟨rfl, rfl⟩
    rw [hsm]
    go_wp2_with fail
    go_ret
    exact ⟨rfl, Below.refl _ _⟩

end Go.Proofs.Ytmdiblknjgkpoaa
