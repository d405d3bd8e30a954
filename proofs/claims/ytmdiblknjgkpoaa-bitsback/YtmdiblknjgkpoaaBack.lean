/-
  The walk of BitsBack: for every row of bytes and every list of places the law returns true; nothing old turns.
-/
import Derived.Test.YtmdiblknjgkpoaaOnes
namespace Go.Proofs.Ytmdiblknjgkpoaa
open Go.RowKit
set_option linter.unusedVariables false

theorem Try.info4 : (Try.prog.info? 4).map (fun i => (i.zero, i.size, i.bytes)) = some (some (.bool false), 1, 1) := by kernel_rfl

/-- Of each bit below n: is it met an odd number of times? -/
def oddL (ps : List Int) (n : Nat) : List Value := (List.range n).map fun j => Value.bool (oddN ps j)
theorem length_oddL (ps : List Int) (n : Nat) : (oddL ps n).length = n := by simp [oddL]
theorem oddL_nil (n : Nat) : oddL [] n = List.replicate n (.bool false) := by
  apply List.ext_getElem
  · simp [oddL]
  · intro j h1 h2; simp [oddL, oddN]
theorem oddL_at (ps : List Int) (n j : Nat) (h : j < n) : (oddL ps n)[j]? = some (.bool (oddN ps j)) := by simp [oddL, h]
theorem oddL_snoc (ps : List Int) (n q : Nat) (hq : q < n) : (oddL ps n).set q (.bool (!oddN ps q)) = oddL (ps ++ [(q : Int)]) n := by
  apply List.ext_getElem
  · simp [oddL]
  · intro j h1 h2
    rw [List.getElem_set]
    simp only [oddL, List.getElem_map, List.getElem_range, oddN_snoc, Int.toNat_natCast]
    by_cases e : q = j
    · subst e; simp
    · simp [e]

theorem apartTo_prefix (a b : List Int) (m k : Nat) : ∃ r, apartTo a b (m + k) = apartTo a b m ++ r := by
  induction k with
  | zero => exact ⟨[], by simp⟩
  | succ k ih =>
    obtain ⟨r, hr⟩ := ih
    by_cases h : bitI a (m + k) = bitI b (m + k)
    · exact ⟨r, by rw [show m + (k + 1) = m + k + 1 from by omega, apartTo_miss _ _ _ h, hr]⟩
    · exact ⟨r ++ [((m + k : Nat) : Int)], by rw [show m + (k + 1) = m + k + 1 from by omega, apartTo_hit _ _ _ h, hr, List.append_assoc]⟩
theorem apartTo_nth (a b : List Int) (i n : Nat) (hi : i < n) (h : bitI a i ≠ bitI b i) :
    (apartTo a b i).length < (apartTo a b n).length ∧ (apartTo a b n)[(apartTo a b i).length]?.getD 0 = i ∧ (apartTo a b (i + 1)).length = (apartTo a b i).length + 1 := by
  obtain ⟨r, hr⟩ := apartTo_prefix a b (i + 1) (n - (i + 1))
  rw [show i + 1 + (n - (i + 1)) = n from by omega] at hr
  have e := apartTo_hit a b i h
  refine ⟨?_, ?_, ?_⟩
  · rw [hr, e]; simp
  · rw [hr, e]; simp
  · rw [e]; simp
theorem apartTo_mono (a b : List Int) (i n : Nat) (hi : i ≤ n) : (apartTo a b i).length ≤ (apartTo a b n).length := by
  obtain ⟨r, hr⟩ := apartTo_prefix a b i (n - i)
  rw [show i + (n - i) = n from by omega] at hr
  rw [hr]; simp
theorem ones_apart (a b : List Int) (n : Nat) : onesTo a n - onesTo b n ≤ (apartTo a b n).length ∧ -(onesTo a n - onesTo b n) ≤ (apartTo a b n).length ∧ (onesTo a n - onesTo b n - (apartTo a b n).length) % 2 = 0 := by
  induction n with
  | zero => exact ⟨Int.le_refl _, Int.le_refl _, rfl⟩
  | succ n ih =>
    rw [onesTo_succ, onesTo_succ]
    have h1 := bitI_01 a n
    have h2 := bitI_01 b n
    by_cases h : bitI a n = bitI b n
    · rw [apartTo_miss _ _ _ h, h]; omega
    · rw [apartTo_hit _ _ _ h, List.length_append, List.length_singleton]; omega
theorem odd_iff {z : List Int} (h : IsB z) (ps : List Int) (hp : inAll z.length ps) (i : Nat) (hi : i < 8 * z.length) : oddN ps i = (bitI z i != bitI (turnI z ps) i) := by
  rw [bitI_turnI h ps hp i hi]
  have := bitI_01 z i
  cases oddN ps i
  · simp
  · simp; omega

/-- The round of the law that marks a place. -/
theorem rel_odd {w wr : World} {g n q B : Nat} {ps ps' : List Int} (hq : q < n) (hB : B ≤ g) (he : ps' = ps ++ [(q : Int)]) (hown : wr.ownsRow B 4 1 (.slice (some ⟨g, 0, none⟩) n n) n (oddL ps n)) (hnx : Below B w wr) :
    (wr.setCell ⟨g, q, none⟩ (.bool (!oddN ps q))).drew.ownsRow B 4 1 (.slice (some ⟨g, 0, none⟩) n n) n (oddL ps' n) ∧ Below B w (wr.setCell ⟨g, q, none⟩ (.bool (!oddN ps q))).drew := by
  refine ⟨?_, (hnx.setCell hB _).drew⟩
  have := (hown.stored q (.bool (!oddN ps q))).1.drew
  rw [he, ← oddL_snoc ps n q hq]
  exact this

set_option maxHeartbeats 3200000 in
set_option maxRecDepth 100000 in
theorem walk_back (a c : Option Addr) (len cap len' cap' : Nat) (z ps : List Int) (w : World) (hr : Row .u8 w a len cap z) (hb : IsB z) (hr' : Row .i64 w c len' cap' ps) (hw : ∀ n ∈ ps, (Lit.int .i64 n).wf = true) :
    Calls Try.prog 6 #[.slice a len cap, .slice c len' cap'] w fun e w' => e = .returned (.bool true) ∧ Below w.heap.size w w' := by
  have hmax : len ≤ maxLen := Nat.le_trans hr.hcap hr.hmax
  have hmax' : len' ≤ maxLen := Nat.le_trans hr'.hcap hr'.hmax
  by_cases hs : len ≤ 200 ∧ len' ≤ 300
  · have hsm : smallB len len' = true := smallB_yes hs.1 hs.2
    have h1000 : len ≤ 1000 := by omega
    go_enter Try.func6, Try.ntmps6
    go_wp2_with fail
    refine (small_any _ _ len _ len' _ _ hmax hmax').mono ?_
    rintro e w' ⟨rfl, rfl⟩
    rw [hsm]
    go_wp2_with fail
    refine (turn_any _ _ _ _ _ _ z ps _ hr hb hr' hw h1000).mono ?_
    rintro e w1 ⟨hbl, ⟨hin, rfl, hown1⟩ | ⟨hin, rfl⟩⟩
    · obtain ⟨a1, cp1, hv, hrt⟩ := row_of_owns hown1
      rw [hv]
      clear hv hown1
      replace hr := hr.below hbl (Nat.le_refl _)
      replace hr' := hr'.below hbl (Nat.le_refl _)
      have hin' := (inB_iff len ps).1 hin
      have HZ : Hid (z.length = len) := hr.hlen
      have HLP : Hid (ps.length = len') := hr'.hlen
      have hinz : inAll z.length ps := by rw [HZ.out]; exact hin'
      have HU : Hid (turnI (turnI z ps) ps = z) := turn_twice hb ps hinz
      have hbt := isB_turnI hb ps
      have HV : Hid (turnI z (apartTo z (turnI z ps) (8 * len)) = turnI z ps) := by
        show _ = _
        have := turn_apart hb hbt (by rw [length_turnI])
        rwa [HZ.out] at this
      have HN : Hid (inB len (apartTo z (turnI z ps) (8 * len)) = true) := (inB_iff _ _).2 (inAll_apartTo _ _ len)
      have HO : Hid (∀ i, i < 8 * len → oddN ps i = (bitI z i != bitI (turnI z ps) i)) := fun i hi => odd_iff hb ps hinz i (by have := HZ.out; omega)
      have HQ : Hid (∀ k, k < len' → ∃ q : Nat, ps[k]?.getD 0 = q ∧ q < 8 * len ∧ ps.take (k + 1) = ps.take k ++ [(q : Int)]) := fun k hk => by
        have hk' : k < ps.length := by have := HLP.out; omega
        have := hin'.idx k hk'
        refine ⟨(ps[k]?.getD 0).toNat, by omega, by omega, ?_⟩
        rw [take_snoc ps k hk', show (((ps[k]?.getD 0).toNat : Nat) : Int) = ps[k]?.getD 0 from by omega]
      clear hinz
      generalize turnI z ps = t at *
      go_wp2_with fail
      refine (in_any _ _ _ _ _ _ ps _ hr' h1000).mono ?_
      rintro e w' ⟨rfl, rfl⟩
      rw [hin]
      go_wp2_with fail
      refine (turn_any _ _ _ _ _ _ t ps _ hrt hbt hr' hw h1000).mono ?_
      rintro e w2 ⟨hblN, ⟨_, rfl, hown2⟩ | ⟨hin2, rfl⟩⟩
      case inr => rw [hin] at hin2; simp at hin2
      rw [HU.out] at hown2
      obtain ⟨a2, cp2, hv, hru⟩ := row_of_owns hown2
      rw [hv]
      clear hv hown2
      replace hr := hr.below hblN (Nat.le_refl _)
      replace hr' := hr'.below hblN (Nat.le_refl _)
      replace hrt := hrt.below hblN (Nat.le_refl _)
      replace hbl := hbl.trans (hblN.mono hbl.size)
      clear hblN
      go_wp2_with fail
      refine (apart_yes _ _ len _ _ z t _ hr hb hrt hbt h1000).mono ?_
      rintro e w3 ⟨v, rfl, hown3, hblN⟩
      obtain ⟨a3, cp3, rfl, hrl⟩ := row_of_owns hown3
      clear hown3
      replace hr := hr.below hblN (Nat.le_refl _)
      replace hr' := hr'.below hblN (Nat.le_refl _)
      replace hrt := hrt.below hblN (Nat.le_refl _)
      replace hru := hru.below hblN (Nat.le_refl _)
      replace hbl := hbl.trans (hblN.mono hbl.size)
      clear hblN
      go_wp2_with fail
      refine (turn_any _ _ _ _ _ _ z (apartTo z t (8 * len)) _ hr hb hrl (wf_apartTo _ _ (8 * len) (by omega)) h1000).mono ?_
      rintro e w4 ⟨hblN, ⟨_, rfl, hown4⟩ | ⟨hin2, rfl⟩⟩
      case inr => rw [HN.out] at hin2; simp at hin2
      rw [HV.out] at hown4
      obtain ⟨a4, cp4, hv, hrv⟩ := row_of_owns hown4
      rw [hv]
      clear hv hown4
      replace hr := hr.below hblN (Nat.le_refl _)
      replace hr' := hr'.below hblN (Nat.le_refl _)
      replace hrt := hrt.below hblN (Nat.le_refl _)
      replace hru := hru.below hblN (Nat.le_refl _)
      replace hrl := hrl.below hblN (Nat.le_refl _)
      replace hbl := hbl.trans (hblN.mono hbl.size)
      clear hblN HN HV HU hw
      obtain ⟨i0, hi0, hz0, hz1, hz2⟩ := info_parts Try.info4
      have hmx8 : 8 * len ≤ maxLen := by unfold maxLen; omega
      go_wp2_with (at_make; refine wpList_make_full _ rfl _ _ 40 rfl w4.heap.size 4 i0 (.bool false) 1 Try.underlying40 hi0 hz0 hz1 _ _ _ _ (8 * len) rfl rfl (by omega) (by omega) (by rw [hz2]; omega) hmx8 (Nat.le_refl _) ?_; intro w5 hown5 hgrow5)
      have hb5 : Below w4.heap.size w4 w5 := (Below.refl _ _).grown hgrow5 (Nat.le_refl _) (by simp)
      have hown5' : w5.ownsRow w4.heap.size 4 1 (.slice (some ⟨w4.heap.size, 0, none⟩) (8 * len) (8 * len)) (8 * len) (oddL (ps.take 0) (8 * len)) := by
        have e : (madeCells (Value.bool false).cells (8 * len * 1)).toList = oddL (ps.take 0) (8 * len) := by
          rw [List.take_zero, oddL_nil, Nat.mul_one]
          simpa [Value.cells] using toList_madeCells_one (Value.bool false) (8 * len)
        rw [e] at hown5
        exact hown5
      clear hown5 hgrow5
      have hones := ones_apart z t (8 * len)
      obtain ⟨cn, hcn⟩ : ∃ f : Nat → Nat, ∀ i, f i = (apartTo z t i).length := ⟨fun i => (apartTo z t i).length, fun _ => rfl⟩
      have H0 : Hid (cn 0 = 0) := by show _ = _; rw [hcn]; rfl
      have HE : Hid (cn (8 * len) = (apartTo z t (8 * len)).length) := hcn _
      have HC : Hid (∀ i, i < 8 * len → oddN ps i = true → cn i < (apartTo z t (8 * len)).length ∧ (apartTo z t (8 * len))[cn i]?.getD 0 = i ∧ cn (i + 1) = cn i + 1) := fun i hi ho => by
        rw [HO.out i hi] at ho
        have := apartTo_nth z t i (8 * len) hi (by simpa using ho)
        rw [hcn, hcn]
        exact this
      have HM : Hid (∀ i, i < 8 * len → oddN ps i = false → cn (i + 1) = cn i) := fun i hi ho => by
        rw [HO.out i hi] at ho
        rw [hcn, hcn, apartTo_miss z t i (by simpa using ho)]
      clear hcn HO hin hin' HZ
      have hnle := apartTo_le z t (8 * len)
      generalize apartTo z t (8 * len) = D at *
      have HDL : Hid (D.length = D.length) := rfl
      generalize D.length = n at *
      clear HDL
      go_loopw [14] (fun y wr => ∃ i : Nat, i ≤ len' ∧ y = .int .i64 i ∧ wr.ownsRow w4.heap.size 4 1 (.slice (some ⟨w4.heap.size, 0, none⟩) (8 * len) (8 * len)) (8 * len) (oddL (ps.take i) (8 * len)) ∧ Below w4.heap.size w4 wr) (fun y _ => len' - (intOf y).toNat)
      case atStart => exact ⟨0, Nat.zero_le _, rfl, hown5', hb5⟩
      case round =>
        clear hown5' hb5
        obtain ⟨i, hi, rfl, hown, hnx⟩ := hrel
        by_cases hlt : i < len'
        · have hrr := hr'.below hnx (Nat.le_refl _)
          obtain ⟨b, off, rfl, hbs, hcell⟩ := hrr.hcell (by omega)
          have hc1 := hcell i hlt
          clear hcell hrr
          obtain ⟨q, hq1, hq2, hq3⟩ := HQ.out i hlt
          rw [hq1] at hc1
          have hcl := hown.cellAt q (by omega)
          rw [oddL_at _ _ q hq2] at hcl
          have hfz := hown.frozenAt q
          have HR : Hid _ := rel_odd hq2 (Nat.le_refl _) hq3 hown hnx
          clear hq1 hq3 hown hnx
          have hqi : (q : Int) < 8 * (len : Int) := by omega
          have hii : (i : Int) < (len' : Int) := by omega
          go_wp2
          go_region
          all_goals go_wp2
          go_roundw
          case rel => exact ⟨i + 1, by omega, by go_num, HR.out.1, HR.out.2⟩
          case measure => simp [intOf]; omega
        · have e : i = len' := by omega
          subst e
          rw [List.take_of_length_le (by have := HLP.out; omega)] at hown
          replace hr := hr.below hnx (Nat.le_refl _)
          replace hrt := hrt.below hnx (Nat.le_refl _)
          replace hru := hru.below hnx (Nat.le_refl _)
          replace hrv := hrv.below hnx (Nat.le_refl _)
          replace hrl := hrl.below hnx (Nat.le_refl _)
          replace hbl := hbl.trans (hnx.mono hbl.size)
          clear hnx HQ hr'
          clear hi hlt hmax' hsm hs HLP hmx8 hi0 hz0 hz1 hz2
          go_wp2_with fail
          go_loop [15, 16] (fun x y => ∃ k : Nat, k ≤ 8 * len ∧ y = .int .i64 k ∧ x = .int .i64 (cn k)) (fun _ y => 8 * len - (intOf y).toNat)
          case atStart => exact ⟨0, Nat.zero_le _, rfl, by rw [H0.out]; rfl⟩
          case round =>
            obtain ⟨k, hk, rfl, rfl⟩ := hrel
            by_cases hlt : k < 8 * len
            · have hcl := hown.cellAt k (by omega)
              rw [oddL_at _ _ k hlt] at hcl
              have hki : (k : Int) < 8 * (len : Int) := by omega
              cases ho : oddN ps k
              · rw [ho] at hcl
                have HS : Hid (cn (k + 1) = cn k) := HM.out k hlt ho
                clear ho
                go_wp2
                go_round
                case rel => exact ⟨k + 1, by omega, by go_num, by rw [HS.out]⟩
                case measure => simp [intOf]; omega
              · rw [ho] at hcl
                obtain ⟨hc1, hc2, hc3⟩ := HC.out k hlt ho
                have HS : Hid (cn (k + 1) = cn k + 1) := hc3
                obtain ⟨b3, off3, rfl, hbs3, hcell3⟩ := hrl.hcell (by omega)
                have hc4 := hcell3 (cn k) hc1
                rw [hc2] at hc4
                clear ho hc2 hc3 hcell3
                generalize cn k = m at *
                have hmi : (m : Int) < (n : Int) := by omega
                have hkk : ((k : Int) != (k : Int)) = false := by simp
                go_wp2
                go_round
                case rel => exact ⟨k + 1, by omega, by go_num, by rw [HS.out]; go_num⟩
                case measure => simp [intOf]; omega
            · have e : k = 8 * len := by omega
              subst e
              rw [HE.out]
              clear HC HM H0 HE hown hrl
              have ho1 := onesTo_bd z (8 * len)
              have ho2 := onesTo_bd t (8 * len)
              have htm : ((onesTo z (8 * len) - onesTo t (8 * len) - (n : Int)).tmod 2 == 0) = true := by
                rw [beq_iff_eq]
                exact Int.tmod_eq_zero_of_dvd (Int.dvd_of_emod_eq_zero hones.2.2)
              have hx1 := hones.1
              have hx2 := hones.2.1
              clear hones
              go_wp2_with fail
              refine (ones_any _ _ _ z _ hr hb h1000).mono ?_
              rintro e w' ⟨rfl, rfl⟩
              go_wp2_with fail
              refine (ones_any _ _ _ t _ hrt hbt h1000).mono ?_
              rintro e w' ⟨rfl, rfl⟩
              generalize onesTo z (8 * len) = X1 at *
              generalize onesTo t (8 * len) = X2 at *
              go_wp2_with fail
              refine (awake_any _).mono ?_
              rintro e w7 ⟨rfl, hblN⟩
              have hcr := conv_row (hr.below hblN (Nat.le_refl _))
              have hct := conv_row (hrt.below hblN (Nat.le_refl _))
              have hcu := conv_row (hru.below hblN (Nat.le_refl _))
              have hcv := conv_row (hrv.below hblN (Nat.le_refl _))
              have hnn : ((n : Int) == (n : Int)) = true := by simp
              go_wp2_with fail
              go_ret
              exact ⟨rfl, hbl.trans (hblN.mono hbl.size)⟩
    · replace hr := hr.below hbl (Nat.le_refl _)
      replace hr' := hr'.below hbl (Nat.le_refl _)
      go_wp2_with fail
      refine (in_any _ _ _ _ _ _ ps _ hr' h1000).mono ?_
      rintro e w' ⟨rfl, rfl⟩
      rw [hin]
      go_wp2_with fail
      refine (awake_any _).mono ?_
      rintro e w7 ⟨rfl, hblN⟩
      go_wp2_with fail
      go_ret
      exact ⟨rfl, hbl.trans (hblN.mono hbl.size)⟩
  · have hsm : smallB len len' = false := by unfold smallB; rw [decide_eq_false_iff_not]; exact hs
    go_enter Try.func6, Try.ntmps6
    go_wp2_with fail
    refine (small_any _ _ len _ len' _ _ hmax hmax').mono ?_
    rintro e w' ⟨rfl, rfl⟩
    rw [hsm]
    go_wp2_with fail
    go_ret
    exact ⟨rfl, Below.refl _ _⟩

end Go.Proofs.Ytmdiblknjgkpoaa
