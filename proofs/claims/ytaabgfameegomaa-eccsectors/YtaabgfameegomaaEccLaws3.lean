/-
  The walk of layer 6's law EccSectors, out of the code's contracts: it returns true; nothing old turns. (Written by tools/gen/ecc_law_sectors.py.)
-/
import Derived.Test.YtaabgfameegomaaEccAwake
namespace Go.Proofs.Ytaabgfameegomaa
open Go.RowKit
set_option linter.unusedVariables false
set_option maxRecDepth 8192

/-- A code word is told as it is. -/
theorem sec_clean {t : Nat} {x y : List Int} {c : Sec} (h8 : 13 * t + 8 * x.length ≤ 8191) (hx : IsB x) (h : IsSec t x y c) (he : IsEnc t x y) : c.e = 0 ∧ c.d = x ∧ c.n = 0 := by
  have hd : IsDec t x y x y 0 := ⟨rfl, he.len, hx, he.isB, he.above, he.cw, dist_self _ _, Nat.zero_le _⟩
  rcases h with ⟨h0, k, hk⟩ | ⟨_, _, _, hno⟩
  · obtain ⟨h1, _, h3⟩ := dec_unique h8 hk hd
    exact ⟨h0, h1, h3⟩
  · exact absurd hd (hno _ _ _)
theorem noise_step {z y : List Int} {o i : Nat} (hi : i < y.length) (hl : o + i < z.length) : (splice z o (y.take i)).set (o + i) (y[i]?.getD 0) = splice z o (y.take (i + 1)) := by
  have l0 : (y.take i).length = i := by simp; omega
  have l0' : (y.take (i + 1)).length = i + 1 := by simp; omega
  have l1 : (splice z o (y.take i)).length = z.length := length_splice (by omega)
  have l2 : (splice z o (y.take (i + 1))).length = z.length := length_splice (by omega)
  refine getD_ext (by rw [List.length_set, l1, l2]) fun q hq => ?_
  rw [set_get, splice_get (by omega), splice_get (by omega), l0, l0', l1]
  by_cases e : o + i = q
  · subst e
    rw [if_pos ⟨rfl, hl⟩, if_pos (by omega), Nat.add_sub_cancel_left, List.getElem?_take, if_pos (by omega)]
  · rw [if_neg (fun h => e h.1)]
    by_cases h2 : o ≤ q ∧ q < o + i
    · rw [if_pos h2, if_pos (by omega), List.getElem?_take, List.getElem?_take, if_pos (by omega), if_pos (by omega)]
    · rw [if_neg h2, if_neg (by omega)]
/-- What the other sectors are behind the noise. -/
theorem noise_facts {s n f m W L sc : Nat} {x z y : List Int} (hz : IsPack s n f m W x z) (hL : s * W + 1 = L) (hW : n + m = W) (hs : sc < s) (hy : y.length ≤ W) (hyB : IsB y) (hx : IsB x) (hf : f ≤ 8) (hn : n ≤ 64) (hxl : s * n ≤ x.length) :
    (splice z (sc * W) y).length = L ∧ IsB (splice z (sc * W) y) ∧ (splice z (sc * W) y)[L - 1]?.getD 0 = 0 ∧
    ∀ j c, j < s → j ≠ sc → IsSec f (part (splice z (sc * W) y) (j * W) n) (part (splice z (sc * W) y) (j * W + n) m) c → c.e = 0 ∧ c.d = part x (j * n) n ∧ c.n = 0 := by
  have hle := at_le (W := W) hs
  have hzl := hz.len
  have h1 : sc * W + y.length ≤ z.length := by omega
  refine ⟨by rw [length_splice h1, hzl, hL], isB_splice hz.isB hyB, ?_, fun j c hj hne h => ?_⟩
  · rw [splice_get h1, if_neg (by omega), ← hL, Nat.add_sub_cancel]
    exact hz.mark
  · have hlj := at_le (W := W) hj
    have hnj := at_le (W := n) hj
    have hap : j * W + W ≤ sc * W ∨ sc * W + W ≤ j * W := by
      rcases Nat.lt_or_ge j sc with h4 | h4
      · exact .inl (at_le h4)
      · exact .inr (at_le (show sc < j by omega))
    rw [part_splice_off h1 (by omega) (by omega), part_splice_off h1 (by omega) (by omega), hz.all.data j hj] at h
    exact sec_clean (by rw [length_part (by omega)]; omega) (isB_part hx _ _) h (hz.all.more j hj)

set_option maxHeartbeats 6400000 in
set_option maxRecDepth 100000 in
theorem walk_eccSectors (hB : HBitsC) (hE : HEncC) (hD : HDecC) (b p s n f : Int) (a : Option Addr) (len cap : Nat) (x : List Int) (sc : Int) (c : Option Addr) (len' cap' : Nat) (y : List Int) (w : World) (rx : Row .u8 w a len cap x) (bx : IsB x) (k1 : -9223372036854775808 ≤ sc) (k2 : sc ≤ 9223372036854775807) (ry : Row .u8 w c len' cap' y) (hyB : IsB y) :
    Calls Try.prog 8 #[.agg #[.int .i64 b, .int .i64 p, .int .i64 s, .int .i64 n, .int .i64 f], .slice a len cap, .int .i64 sc, .slice c len' cap'] w fun e w' => e = .returned (.bool true) ∧ Below w.heap.size w w' := by
  cases hsm : small6 b p s n f
  · go_enter Try.func8, Try.ntmps8
    go_wp2_with fail
    refine (small6_any b p s n f _).mono ?_
    rintro e w1 ⟨rfl, q1⟩
    rw [hsm]
    go_wp2_with fail
    go_ret
    exact ⟨rfl, btrans (below_one _ _) q1⟩
  cases hmy : mayG b p s n f
  · go_enter Try.func8, Try.ntmps8
    go_wp2_with fail
    refine (small6_any b p s n f _).mono ?_
    rintro e w1 ⟨rfl, q1⟩
    rw [hsm]
    have gb := (gbox_new w 23 b p s n f).below q1 (Nat.le_refl _)
    obtain ⟨_, c0, c1, c2, c3, c4⟩ := gb
    go_wp2_with fail
    refine (refMay_any b p s n f _).mono ?_
    rintro e w2 ⟨rfl, q2⟩
    rw [hmy]
    go_wp2_with fail
    go_ret
    exact ⟨rfl, btrans (btrans (below_one _ _) q1) q2⟩
  obtain ⟨s, n, f, R, m, W, L, rfl, rfl, rfl, G⟩ := gok_ex hmy (small6_may hsm hmy)
  have HSM : Hid (small6 b p s n f = true) := hsm
  have HMY : Hid (mayG b p s n f = true) := hmy
  clear hsm hmy
  have hmaxl : len ≤ maxLen := Nat.le_trans rx.hcap rx.hmax
  have hroom := refRoom_any b p f s n R G.hR G.hs.2 (by have := G.hn; omega)
  by_cases hl : len = R
  case neg =>
    have hq : (((len : Nat) : Int) != (R : Int)) = true := by simp; omega
    clear G
    go_enter Try.func8, Try.ntmps8
    go_wp2_with fail
    refine (small6_any b p s n f _).mono ?_
    rintro e w1 ⟨rfl, q1⟩
    rw [HSM.out]
    have gb := (gbox_new w 23 b p s n f).below q1 (Nat.le_refl _)
    have gb1 := gb
    obtain ⟨_, c0, c1, c2, c3, c4⟩ := gb1
    go_wp2_with fail
    refine (refMay_any b p s n f _).mono ?_
    rintro e w2 ⟨rfl, q2⟩
    rw [HMY.out]
    clear c0 c1 c2 c3 c4
    have gb1 := gb.below q2 (Nat.le_refl _)
    obtain ⟨_, c0, c1, c2, c3, c4⟩ := gb1
    go_wp2_with fail
    refine (hroom _).mono ?_
    rintro e w3 ⟨rfl, q3⟩
    go_wp2_with fail
    go_ret
    exact ⟨rfl, btrans (btrans (btrans (below_one _ _) q1) q2) q3⟩
  subst hl
  have hraw := refRaw_any G
  have hwh := refWhole_any G
  have HL : Hid (s * W + 1 = L) := G.hL
  have HW : Hid (n + m = W) := G.hW
  have hL2 := G.L2
  have hs2 := G.hs
  have hn2 := G.hn
  have hf2 := G.hf
  have hW2 := G.W2
  have HRN : Hid (s * n = len) := G.hR
  have hyl : len' ≤ maxLen := Nat.le_trans ry.hcap ry.hmax
  have hrc := rx.hcap
  have hrm := rx.hmax
  have hpk := fun (w : World) (r : Row .u8 w a len cap x) => eccPack_yes hB hE G a cap x w r bx
  have hun := fun (w : World) (gr : Nat) (z : List Int) (r : Row .u8 w (some ⟨gr, 0, none⟩) L L z) (hz : IsB z) (h0 : z[L - 1]?.getD 0 = 0) => eccUnpack_yes hB G _ _ z w r hz hD h0
  have HXL : Hid (x.length = len) := rx.hlen
  have HYL : Hid (y.length = len') := ry.hlen
  have hxs : ∃ rb off, a = some ⟨rb, off, none⟩ := by
    have := G.hR1
    obtain ⟨rb, off, h, _⟩ := rx.hcell (by omega)
    exact ⟨rb, off, h⟩
  obtain ⟨rb, off, rfl⟩ := hxs
  have hR1 := G.hR1
  have HPT : Hid (∀ i, i < s → i * n + n ≤ len) := fun i hi => G.part hi
  have HAT : Hid (∀ i, i < s → i * W + W + 1 ≤ L) := fun i hi => G.at_ hi
  go_enter Try.func8, Try.ntmps8
  go_wp2_with fail
  have gb := gbox_new w 23 b p s n f
  have q1 := below_one w (.cells #[.int .i64 b, .int .i64 p, .int .i64 s, .int .i64 n, .int .i64 f] 23)
  generalize w.alloc (.cells #[.int .i64 b, .int .i64 p, .int .i64 s, .int .i64 n, .int .i64 f] 23) = w0 at *
  generalize hgg : w.heap.size = g at gb
  replace rx := rx.below q1 (Nat.le_refl _)
  replace ry := ry.below q1 (Nat.le_refl _)
  refine (small6_any b p s n f _).mono ?_
  rintro e w1 ⟨rfl, qq⟩
  replace gb := gb.below qq (Nat.le_refl _)
  replace rx := rx.below qq (Nat.le_refl _)
  replace ry := ry.below qq (Nat.le_refl _)
  replace q1 := btrans q1 qq
  clear qq
  rw [HSM.out]
  have gb_ := gb
  obtain ⟨_, c0, c1, c2, c3, c4⟩ := gb_
  go_wp2_with fail
  clear c0 c1 c2 c3 c4
  refine (refMay_any b p s n f _).mono ?_
  rintro e w2 ⟨rfl, qq⟩
  replace gb := gb.below qq (Nat.le_refl _)
  replace rx := rx.below qq (Nat.le_refl _)
  replace ry := ry.below qq (Nat.le_refl _)
  replace q1 := btrans q1 qq
  clear qq
  rw [HMY.out]
  have gb_ := gb
  obtain ⟨_, c0, c1, c2, c3, c4⟩ := gb_
  go_wp2_with fail
  clear c0 c1 c2 c3 c4
  refine (hroom _).mono ?_
  rintro e w3 ⟨rfl, qq⟩
  replace gb := gb.below qq (Nat.le_refl _)
  replace rx := rx.below qq (Nat.le_refl _)
  replace ry := ry.below qq (Nat.le_refl _)
  replace q1 := btrans q1 qq
  clear qq
  clear HSM HMY hroom
  by_cases hk : 0 ≤ sc ∧ sc < s
  case neg =>
    have hk2 : (sc < 0) ∨ ((s : Int) ≤ sc) := by omega
    have gb_ := gb
    obtain ⟨_, c0, c1, c2, c3, c4⟩ := gb_
    rcases hk2 with h | h
    · have hlt : sc < 0 := h
      go_wp2_with fail
      go_ret
      exact ⟨rfl, q1⟩
    · have hge : (s : Int) ≤ sc := h
      have hnl : ¬ sc < 0 := by omega
      go_wp2_with fail
      go_ret
      exact ⟨rfl, q1⟩
  obtain ⟨sc, rfl⟩ := Int.eq_ofNat_of_zero_le hk.1
  have hsc : sc < s := by omega
  have hs3 : ¬ (sc : Int) < 0 := by omega
  have hs4 : ¬ (s : Int) ≤ (sc : Int) := by omega
  have hs5 : decide ((sc : Int) < 0) = false := by rw [decide_eq_false_iff_not]; exact hs3
  clear hk k1 k2
  have gb_ := gb
  obtain ⟨_, c0, c1, c2, c3, c4⟩ := gb_
  go_wp2_with fail
  clear c0 c1 c2 c3 c4
  refine (hpk _ rx).mono ?_
  rintro e w4 ⟨z, gr, hz, hgr, rfl, own, qb⟩
  clear hpk
  have HPK : Hid (IsPack s n f m W x z) := hz
  have HZL : Hid (z.length = L) := by show _ = _; rw [hz.len, HL.out]
  have hzb := hz.isB
  clear hz
  have gb_ := gb.below qb (Nat.le_refl _)
  obtain ⟨_, c0, c1, c2, c3, c4⟩ := gb_
  go_wp2_with fail
  clear c0 c1 c2 c3 c4
  refine (hraw _).mono ?_
  rintro e w5 ⟨rfl, qq⟩
  replace own := owns_below own qq
  replace qb := qb.trans (qq.mono qb.size)
  clear qq
  clear hraw
  have gb_ := gb.below qb (Nat.le_refl _)
  obtain ⟨_, c0, c1, c2, c3, c4⟩ := gb_
  go_wp2_with fail
  clear c0 c1 c2 c3 c4
  refine (hwh _).mono ?_
  rintro e w6 ⟨rfl, qq⟩
  replace own := owns_below own qq
  replace qb := qb.trans (qq.mono qb.size)
  clear qq
  clear hwh
  obtain ⟨k, hk⟩ : ∃ k, min W len' = k := ⟨_, rfl⟩
  have hkW : k ≤ W ∧ k ≤ len' ∧ (k = W ∨ k = len') := by omega
  clear hk
  have HNF : Hid _ := noise_facts HPK.out HL.out HW.out hsc (y := y.take k) (by rw [List.length_take]; omega) (fun v hv => hyB v (List.mem_of_mem_take hv)) bx hf2.2 hn2.2 (by rw [HRN.out, HXL.out]; exact Nat.le_refl _)
  have hat := HAT.out sc hsc
  obtain ⟨F, hF⟩ : ∃ F, sc * W = F := ⟨_, rfl⟩
  rw [hF] at hat
  have HF : Hid (sc * W = F) := hF
  have HNS : Hid (∀ i, i < k → (splice z F (y.take i)).set (F + i) (y[i]?.getD 0) = splice z F (y.take (i + 1))) := fun i hi => noise_step (by rw [HYL.out]; omega) (by rw [HZL.out]; omega)
  have HN0 : Hid (splice z F (y.take 0) = z) := by show _ = _; rw [List.take_zero]; unfold splice; simp
  rw [hF] at HNF
  clear hF
  have HFI : Hid ((sc : Int) * (W : Int) = (F : Int)) := by show _ = _; rw [← Int.natCast_mul, HF.out]
  go_wp2_with fail
  go_loopw [12] (fun v wr => ∃ i : Nat, i ≤ k ∧ v = .int .i64 i ∧ wr.ownsRow w3.heap.size 5 1 (.slice (some ⟨gr, 0, none⟩) L L) L ((splice z F (y.take i)).map (Value.int .u8)) ∧ Below w3.heap.size w3 wr) (fun v _ => k - (intOf v).toNat)
  case atStart => exact ⟨0, Nat.zero_le _, rfl, by rw [HN0.out]; exact own, qb⟩
  case round =>
    clear own qb HN0
    obtain ⟨i, hi, rfl, own, qb⟩ := hrel
    by_cases hlt : i < k
    case pos =>
      have ry1 := ry.below qb (Nat.le_refl _)
      obtain ⟨yb, yo, rfl, hyb, hyc⟩ := ry1.hcell (by omega)
      have hcy := hyc i (by omega)
      clear hyc
      have hcl := owned_cell own (F + i) (by omega)
      have hfz := own.frozenAt (F + i)
      have R := owned_set (q := F + i) (x := y[i]?.getD 0) hgr own qb
      rw [HNS.out i hlt] at R
      have HR : Hid _ := R
      clear R own qb HNF
      generalize (splice z F (y.take i))[F + i]?.getD 0 = zi at hcl
      generalize y[i]?.getD 0 = yi at *
      have hFIL : F + i < L := by omega
      generalize hFI : F + i = FI at *
      have HFI2 : Hid (F + i = FI) := hFI
      clear hFI
      have u5 : (i : Int) < (W : Int) := by omega
      have u6 : (i : Int) < (len' : Int) := by omega
      have u7 : (sc : Int) * (W : Int) = (F : Int) := HFI.out
      have u8_ : IntKind.i64.wrap (F : Int) = (F : Int) := by rw [IntKind.wrap_i64]; omega
      have u9_ : IntKind.i64.wrap ((F : Int) + (i : Int)) = (FI : Int) := by rw [IntKind.wrap_i64]; have := HFI2.out; omega
      have u10_ : (F : Int) + (i : Int) = (FI : Int) := by have := HFI2.out; omega
      have u11_ : (FI : Int) < (L : Int) := by omega
      clear ry1 hyb hun
      go_wp2_with fail
      go_roundw
      case rel => exact ⟨i + 1, by omega, by go_num, HR.out.1, HR.out.2⟩
      case measure => simp [intOf]; omega
    have e : i = k := by omega
    subst e
    clear HNS hlt hi
    obtain ⟨h1, h2, h3, h4⟩ := HNF.out
    have HSC : Hid (∀ j c, j < s → j ≠ sc → IsSec f (part (splice z F (y.take i)) (j * W) n) (part (splice z F (y.take i)) (j * W + n) m) c → c.e = 0 ∧ c.d = part x (j * n) n ∧ c.n = 0) := h4
    clear h1 h4 HNF
    generalize splice z F (y.take i) = zz at *
    have rz := isB_of_row own
    have hu := hun _ gr zz rz h2 h3
    clear hun h3 rz
    have hseven : ∀ S : Nat → Sec, (∀ j, j < s → IsSec f (part zz (j * W) n) (part zz (j * W + n) m) (S j)) → Hid (∀ j, j < s → j ≠ sc → (S j).e = 0 ∧ (S j).d = part x (j * n) n ∧ (S j).n = 0) := fun S hS => fun j hj hne => HSC.out j (S j) hj hne (hS j hj)
    clear HSC
    have hpart : ∀ (wr : World) (D D2 : Nat), D + n = D2 → D2 ≤ len → Row .u8 wr (some ⟨rb, off, none⟩) len cap x → Row .u8 wr (some ⟨rb, off + D, none⟩) (D2 - D) (cap - D) (part x D n) := fun wr D D2 h1 h2 r => by
      rw [show D2 - D = n by omega]
      exact row_part r D n (cap - D) (by omega) (by omega) (by omega)
    have HPART : Hid _ := hpart
    clear hpart
    by_cases hiW : i < W
    · have v1 : (i : Int) < (W : Int) := by omega
      have v2 : ¬ (i : Int) < (len' : Int) := by omega
      have gb_ := gb.below qb (Nat.le_refl _)
      obtain ⟨_, c0, c1, c2, c3, c4⟩ := gb_
      go_wp2_with fail
      clear c0 c1 c2 c3 c4
      refine hu.mono ?_
      rintro e w7 ⟨S, gs, hS, hgs, rfl, hSA, qq⟩
      have HSS := hseven S hS
      have HSA : Hid (∀ j, j < s → SecAt w7 gs j (S j)) := hSA
      clear hS hSA hseven hu
      replace qb := qb.trans (qq.mono qb.size)
      clear qq own
      have gb7 := gb.below qb (Nat.le_refl _)
      have rx7 := rx.below qb (Nat.le_refl _)
      have gb_ := gb7
      obtain ⟨_, c0, c1, c2, c3, c4⟩ := gb_
      go_wp2_with fail
      clear c0 c1 c2 c3 c4
      go_loopw [15] (fun v wr => ∃ j : Nat, j ≤ s ∧ v = .int .i64 j ∧ Below w7.heap.size w7 wr) (fun v _ => s - (intOf v).toNat)
      case atStart => exact ⟨0, Nat.zero_le _, rfl, Below.refl _ _⟩
      case round =>
        obtain ⟨j, hj, rfl, q7⟩ := hrel
        by_cases hlt : j < s
        case neg =>
          have e : j = s := by omega
          subst e
          go_wp2_with fail
          refine (awake6_any hB hE hD _).mono ?_
          rintro e w8 ⟨rfl, qq⟩
          go_wp2_with fail
          go_ret
          exact ⟨rfl, btrans (btrans (btrans q1 qb) q7) qq⟩
        have u5 : (j : Int) < (s : Int) := by omega
        by_cases hjs : j = sc
        case pos =>
          subst hjs
          go_wp2_with fail
          refine held_begin (by kernel_rfl) ?_
          refine held_reads (rs := [0, 1, 2, 3, 4, 5, 6, 7, 8, 9, 10, 11, 12, 13, 14, 15, 16, 17, 18, 19, 20, 21, 22, 23, 24, 25, 26, 27, 28, 29, 30, 31, 32, 33, 34, 35, 36, 37, 38, 39]) (fuel := 0) (by kernel_rfl) (fun c d v a w h => by cases d <;> exact h) (by kernel_rfl) (Since.drew _) (fun K hK => ?_)
          refine calm_move _ rfl (by rfl) rfl ?_
          go_simp
          refine calm_move _ rfl (by rfl) rfl ?_
          go_simp
          refine calm_do (.bool false) rfl (by rfl) (fun w' hw' => ?_) ?_
          · go_simp
          go_simp
          refine calm_move _ rfl (by rfl) rfl ?_
          go_simp
          refine calm_skip rfl (by rfl) ?_
          go_simp
          refine calm_skip rfl (by rfl) ?_
          go_simp
          refine calm_skip rfl (by rfl) ?_
          go_simp
          refine calm_skip rfl (by rfl) ?_
          go_simp
          refine calm_skip rfl (by rfl) ?_
          go_simp
          refine calm_skip rfl (by rfl) ?_
          go_simp
          refine calm_skip rfl (by rfl) ?_
          go_simp
          refine calm_skip rfl (by rfl) ?_
          go_simp
          refine calm_skip rfl (by rfl) ?_
          go_simp
          refine calm_skip rfl (by rfl) ?_
          go_simp
          refine calm_skip rfl (by rfl) ?_
          go_simp
          refine calm_skip rfl (by rfl) ?_
          go_simp
          refine calm_skip rfl (by rfl) ?_
          go_simp
          refine calm_skip rfl (by rfl) ?_
          go_simp
          refine calm_skip rfl (by rfl) ?_
          go_simp
          refine calm_skip rfl (by rfl) ?_
          go_simp
          refine calm_skip rfl (by rfl) ?_
          go_simp
          refine calm_skip rfl (by rfl) ?_
          go_simp
          refine calm_skip rfl (by rfl) ?_
          go_simp
          refine calm_skip rfl (by rfl) ?_
          go_simp
          refine calm_skip rfl (by rfl) ?_
          go_simp
          refine calm_skip rfl (by rfl) ?_
          go_simp
          refine calm_skip rfl (by rfl) ?_
          go_simp
          refine calm_skip rfl (by rfl) ?_
          go_simp
          refine calm_skip rfl (by rfl) ?_
          go_simp
          refine calm_skip rfl (by rfl) ?_
          go_simp
          refine calm_skip rfl (by rfl) ?_
          go_simp
          refine calm_skip rfl (by rfl) ?_
          go_simp
          refine calm_skip rfl (by rfl) ?_
          go_simp
          refine calm_skip rfl (by rfl) ?_
          go_simp
          refine calm_skip rfl (by rfl) ?_
          go_simp
          refine calm_skip rfl (by rfl) ?_
          go_simp
          refine calm_skip rfl (by rfl) ?_
          go_simp
          refine calm_skip rfl (by rfl) ?_
          go_simp
          refine calm_skip rfl (by rfl) ?_
          go_simp
          refine calm_do (.bool false) rfl (by rfl) (fun w' hw' => ?_) ?_
          · go_simp
          go_simp
          refine calm_nil (hK.out _ ?_)
          clear hK K
          refine wpAnyH_done (by kernel_rfl) ?_ _
          go_wp2_with fail
          go_roundw
          case rel => exact ⟨j + 1, by omega, by go_num, q7.drew⟩
          case measure => simp [intOf]; omega
        obtain ⟨he, hd, hnn⟩ := HSS.out j hlt hjs
        obtain ⟨hgl, a1, cp1, k0, k1, k2, r1⟩ := (HSA.out j hlt).below q7 (Nat.le_refl _)
        have hpt := HPT.out j hlt
        rw [he] at k2
        rw [hnn] at k1
        obtain ⟨D, hD_⟩ : ∃ D, j * n = D := ⟨_, rfl⟩
        rw [hD_] at hd hpt
        have HDD : Hid (j * n = D) := hD_
        clear hD_
        obtain ⟨D2, hD2⟩ : ∃ D2, D + n = D2 := ⟨_, rfl⟩
        have HD2 : Hid (D + n = D2) := hD2
        rw [hd] at r1 k0
        have hdl : (part x D n).length = n := length_part (by rw [HXL.out]; omega)
        rw [hdl] at r1 k0
        have gb1 := gb7.below q7 (Nat.le_refl _)
        have r2 := HPART.out wr D D2 hD2 (by omega) (rx7.below q7 (Nat.le_refl _))
        clear hdl hd he hnn
        generalize part x D n = dd at *
        have HDI : Hid ((j : Int) * (n : Int) = (D : Int)) := by show _ = _; rw [← Int.natCast_mul, HDD.out]
        have HDJ : Hid (((j : Int) + 1) * (n : Int) = (D2 : Int)) := by show _ = _; rw [Int.add_mul, HDI.out]; have := HD2.out; omega
        have hDD2 : D < D2 := by omega
        have hD2l : D2 ≤ len := by omega
        clear hD2
        have hjne : ((j : Int) != (sc : Int)) = true := by simp; omega
        go_wp2_with fail
        refine held_begin (by kernel_rfl) ?_
        refine held_reads (rs := [0, 1, 2, 3, 4, 5, 6, 7, 8, 9, 10, 11, 12, 13, 14, 15, 16, 17, 18, 19, 20, 21, 22, 23, 24, 25, 26, 27, 28, 29, 30, 31, 32, 33, 34, 35, 36, 37, 38, 39]) (fuel := 0) (by kernel_rfl) (fun c d v a w h => by cases d <;> exact h) (by kernel_rfl) (Since.drew _) (fun K hK => ?_)
        refine calm_move _ rfl (by rfl) rfl ?_
        go_simp
        refine calm_move _ rfl (by rfl) rfl ?_
        go_simp
        refine calm_do (.bool true) rfl (by rfl) (fun w' hw' => ?_) ?_
        · go_simp
        go_simp
        refine calm_move _ rfl (by rfl) rfl ?_
        go_simp
        refine calm_move _ rfl (by rfl) rfl ?_
        go_simp
        refine calm_move _ rfl (by rfl) rfl ?_
        go_simp
        refine calm_do (.pointer (some ⟨gs, j * 3, none⟩)) rfl (by rfl) (fun w' hw' => ?_) ?_
        · skip
          go_simp
        go_simp
        refine calm_do (.pointer (some ⟨gs, j * 3 + 2, none⟩)) rfl (by rfl) (fun w' hw' => ?_) ?_
        · skip
          go_simp
        go_simp
        refine calm_do (.int .i64 0) rfl (by rfl) (fun w' hw' => ?_) ?_
        · have kk := (Below.cell (w := wr) hw' (p := ⟨gs, j * 3 + 2, none⟩) hgl).trans k2
          go_simp
        go_simp
        refine calm_do (.bool false) rfl (by rfl) (fun w' hw' => ?_) ?_
        · go_simp
        go_simp
        refine calm_move _ rfl (by rfl) rfl ?_
        go_simp
        refine calm_move _ rfl (by rfl) rfl ?_
        go_simp
        refine calm_move _ rfl (by rfl) rfl ?_
        go_simp
        refine calm_do (.pointer (some ⟨gs, j * 3, none⟩)) rfl (by rfl) (fun w' hw' => ?_) ?_
        · skip
          go_simp
        go_simp
        refine calm_do (.pointer (some ⟨gs, j * 3 + 1, none⟩)) rfl (by rfl) (fun w' hw' => ?_) ?_
        · skip
          go_simp
        go_simp
        refine calm_do (.int .i64 0) rfl (by rfl) (fun w' hw' => ?_) ?_
        · have kk := (Below.cell (w := wr) hw' (p := ⟨gs, j * 3 + 1, none⟩) hgl).trans k1
          go_simp
        go_simp
        refine calm_do (.bool false) rfl (by rfl) (fun w' hw' => ?_) ?_
        · go_simp
        go_simp
        refine calm_do (.bool false) rfl (by rfl) (fun w' hw' => ?_) ?_
        · go_simp
        go_simp
        refine calm_move _ rfl (by rfl) rfl ?_
        go_simp
        refine calm_move _ rfl (by rfl) rfl ?_
        go_simp
        refine calm_move _ rfl (by rfl) rfl ?_
        go_simp
        refine calm_do (.pointer (some ⟨gs, j * 3, none⟩)) rfl (by rfl) (fun w' hw' => ?_) ?_
        · skip
          go_simp
        go_simp
        refine calm_do (.pointer (some ⟨gs, j * 3, none⟩)) rfl (by rfl) (fun w' hw' => ?_) ?_
        · skip
          go_simp
        go_simp
        refine calm_do (.slice a1 n cp1) rfl (by rfl) (fun w' hw' => ?_) ?_
        · have kk := (Below.cell (w := wr) hw' (p := ⟨gs, j * 3, none⟩) hgl).trans k0
          go_simp
        go_simp
        refine calm_do (.string (strOfNums dd)) rfl (by rfl) (fun w' hw' => ?_) ?_
        · have hcc := conv_row Try.underlying24 Try.underlying5 Try.underlying9 (r1.below hw' (Nat.le_refl _))
          go_simp
        go_simp
        refine calm_move _ rfl (by rfl) rfl ?_
        go_simp
        refine calm_move _ rfl (by rfl) rfl ?_
        go_simp
        refine calm_do (.pointer (some ⟨g, 3, none⟩)) rfl (by rfl) (fun w' hw' => ?_) ?_
        · skip
          go_simp
        go_simp
        refine calm_do (.int .i64 n) rfl (by rfl) (fun w' hw' => ?_) ?_
        · have gb' := gb1.below hw' (Nat.le_refl _)
          obtain ⟨_, c0, c1, c2, c3, c4⟩ := gb'
          go_simp
        go_simp
        refine calm_do (.int .i64 D) rfl (by rfl) (fun w' hw' => ?_) ?_
        · skip
          go_simp
          all_goals (rw [HDI.out, IntKind.wrap_i64]; omega)
        go_simp
        refine calm_move _ rfl (by rfl) rfl ?_
        go_simp
        refine calm_do (.int .i64 ((j : Int) + 1)) rfl (by rfl) (fun w' hw' => ?_) ?_
        · skip
          go_simp
          all_goals (rw [IntKind.wrap_i64]; omega)
        go_simp
        refine calm_do (.pointer (some ⟨g, 3, none⟩)) rfl (by rfl) (fun w' hw' => ?_) ?_
        · skip
          go_simp
        go_simp
        refine calm_do (.int .i64 n) rfl (by rfl) (fun w' hw' => ?_) ?_
        · have gb' := gb1.below hw' (Nat.le_refl _)
          obtain ⟨_, c0, c1, c2, c3, c4⟩ := gb'
          go_simp
        go_simp
        refine calm_do (.int .i64 D2) rfl (by rfl) (fun w' hw' => ?_) ?_
        · skip
          go_simp
          all_goals (rw [HDJ.out, IntKind.wrap_i64]; omega)
        go_simp
        refine calm_do (.slice (some ⟨rb, off + D, none⟩) (D2 - D) (cap - D)) rfl (by rfl) (fun w' hw' => ?_) ?_
        · have e1 : (D : Int) ≤ (D2 : Int) := by omega
          have e2 : (D2 : Int) ≤ (cap : Int) := by omega
          have e3 : ¬ cap = D := by omega
          go_simp
        go_simp
        refine calm_do (.string (strOfNums dd)) rfl (by rfl) (fun w' hw' => ?_) ?_
        · have hcc := conv_row Try.underlying24 Try.underlying5 Try.underlying9 (r2.below hw' (Nat.le_refl _))
          go_simp
        go_simp
        refine calm_do (.bool false) rfl (by rfl) (fun w' hw' => ?_) ?_
        · go_simp
        go_simp
        refine calm_do (.bool false) rfl (by rfl) (fun w' hw' => ?_) ?_
        · go_simp
        go_simp
        refine calm_do (.bool false) rfl (by rfl) (fun w' hw' => ?_) ?_
        · go_simp
        go_simp
        refine calm_nil (hK.out _ ?_)
        clear hK K
        refine wpAnyH_done (by kernel_rfl) ?_ _
        go_wp2_with fail
        go_roundw
        case rel => exact ⟨j + 1, by omega, by go_num, q7.drew⟩
        case measure => simp [intOf]; omega
    · have v1 : ¬ (i : Int) < (W : Int) := by omega
      have gb_ := gb.below qb (Nat.le_refl _)
      obtain ⟨_, c0, c1, c2, c3, c4⟩ := gb_
      go_wp2_with fail
      clear c0 c1 c2 c3 c4
      refine hu.mono ?_
      rintro e w7 ⟨S, gs, hS, hgs, rfl, hSA, qq⟩
      have HSS := hseven S hS
      have HSA : Hid (∀ j, j < s → SecAt w7 gs j (S j)) := hSA
      clear hS hSA hseven hu
      replace qb := qb.trans (qq.mono qb.size)
      clear qq own
      have gb7 := gb.below qb (Nat.le_refl _)
      have rx7 := rx.below qb (Nat.le_refl _)
      have gb_ := gb7
      obtain ⟨_, c0, c1, c2, c3, c4⟩ := gb_
      go_wp2_with fail
      clear c0 c1 c2 c3 c4
      go_loopw [15] (fun v wr => ∃ j : Nat, j ≤ s ∧ v = .int .i64 j ∧ Below w7.heap.size w7 wr) (fun v _ => s - (intOf v).toNat)
      case atStart => exact ⟨0, Nat.zero_le _, rfl, Below.refl _ _⟩
      case round =>
        obtain ⟨j, hj, rfl, q7⟩ := hrel
        by_cases hlt : j < s
        case neg =>
          have e : j = s := by omega
          subst e
          go_wp2_with fail
          refine (awake6_any hB hE hD _).mono ?_
          rintro e w8 ⟨rfl, qq⟩
          go_wp2_with fail
          go_ret
          exact ⟨rfl, btrans (btrans (btrans q1 qb) q7) qq⟩
        have u5 : (j : Int) < (s : Int) := by omega
        by_cases hjs : j = sc
        case pos =>
          subst hjs
          go_wp2_with fail
          refine held_begin (by kernel_rfl) ?_
          refine held_reads (rs := [0, 1, 2, 3, 4, 5, 6, 7, 8, 9, 10, 11, 12, 13, 14, 15, 16, 17, 18, 19, 20, 21, 22, 23, 24, 25, 26, 27, 28, 29, 30, 31, 32, 33, 34, 35, 36, 37, 38, 39]) (fuel := 0) (by kernel_rfl) (fun c d v a w h => by cases d <;> exact h) (by kernel_rfl) (Since.drew _) (fun K hK => ?_)
          refine calm_move _ rfl (by rfl) rfl ?_
          go_simp
          refine calm_move _ rfl (by rfl) rfl ?_
          go_simp
          refine calm_do (.bool false) rfl (by rfl) (fun w' hw' => ?_) ?_
          · go_simp
          go_simp
          refine calm_move _ rfl (by rfl) rfl ?_
          go_simp
          refine calm_skip rfl (by rfl) ?_
          go_simp
          refine calm_skip rfl (by rfl) ?_
          go_simp
          refine calm_skip rfl (by rfl) ?_
          go_simp
          refine calm_skip rfl (by rfl) ?_
          go_simp
          refine calm_skip rfl (by rfl) ?_
          go_simp
          refine calm_skip rfl (by rfl) ?_
          go_simp
          refine calm_skip rfl (by rfl) ?_
          go_simp
          refine calm_skip rfl (by rfl) ?_
          go_simp
          refine calm_skip rfl (by rfl) ?_
          go_simp
          refine calm_skip rfl (by rfl) ?_
          go_simp
          refine calm_skip rfl (by rfl) ?_
          go_simp
          refine calm_skip rfl (by rfl) ?_
          go_simp
          refine calm_skip rfl (by rfl) ?_
          go_simp
          refine calm_skip rfl (by rfl) ?_
          go_simp
          refine calm_skip rfl (by rfl) ?_
          go_simp
          refine calm_skip rfl (by rfl) ?_
          go_simp
          refine calm_skip rfl (by rfl) ?_
          go_simp
          refine calm_skip rfl (by rfl) ?_
          go_simp
          refine calm_skip rfl (by rfl) ?_
          go_simp
          refine calm_skip rfl (by rfl) ?_
          go_simp
          refine calm_skip rfl (by rfl) ?_
          go_simp
          refine calm_skip rfl (by rfl) ?_
          go_simp
          refine calm_skip rfl (by rfl) ?_
          go_simp
          refine calm_skip rfl (by rfl) ?_
          go_simp
          refine calm_skip rfl (by rfl) ?_
          go_simp
          refine calm_skip rfl (by rfl) ?_
          go_simp
          refine calm_skip rfl (by rfl) ?_
          go_simp
          refine calm_skip rfl (by rfl) ?_
          go_simp
          refine calm_skip rfl (by rfl) ?_
          go_simp
          refine calm_skip rfl (by rfl) ?_
          go_simp
          refine calm_skip rfl (by rfl) ?_
          go_simp
          refine calm_skip rfl (by rfl) ?_
          go_simp
          refine calm_skip rfl (by rfl) ?_
          go_simp
          refine calm_skip rfl (by rfl) ?_
          go_simp
          refine calm_skip rfl (by rfl) ?_
          go_simp
          refine calm_do (.bool false) rfl (by rfl) (fun w' hw' => ?_) ?_
          · go_simp
          go_simp
          refine calm_nil (hK.out _ ?_)
          clear hK K
          refine wpAnyH_done (by kernel_rfl) ?_ _
          go_wp2_with fail
          go_roundw
          case rel => exact ⟨j + 1, by omega, by go_num, q7.drew⟩
          case measure => simp [intOf]; omega
        obtain ⟨he, hd, hnn⟩ := HSS.out j hlt hjs
        obtain ⟨hgl, a1, cp1, k0, k1, k2, r1⟩ := (HSA.out j hlt).below q7 (Nat.le_refl _)
        have hpt := HPT.out j hlt
        rw [he] at k2
        rw [hnn] at k1
        obtain ⟨D, hD_⟩ : ∃ D, j * n = D := ⟨_, rfl⟩
        rw [hD_] at hd hpt
        have HDD : Hid (j * n = D) := hD_
        clear hD_
        obtain ⟨D2, hD2⟩ : ∃ D2, D + n = D2 := ⟨_, rfl⟩
        have HD2 : Hid (D + n = D2) := hD2
        rw [hd] at r1 k0
        have hdl : (part x D n).length = n := length_part (by rw [HXL.out]; omega)
        rw [hdl] at r1 k0
        have gb1 := gb7.below q7 (Nat.le_refl _)
        have r2 := HPART.out wr D D2 hD2 (by omega) (rx7.below q7 (Nat.le_refl _))
        clear hdl hd he hnn
        generalize part x D n = dd at *
        have HDI : Hid ((j : Int) * (n : Int) = (D : Int)) := by show _ = _; rw [← Int.natCast_mul, HDD.out]
        have HDJ : Hid (((j : Int) + 1) * (n : Int) = (D2 : Int)) := by show _ = _; rw [Int.add_mul, HDI.out]; have := HD2.out; omega
        have hDD2 : D < D2 := by omega
        have hD2l : D2 ≤ len := by omega
        clear hD2
        have hjne : ((j : Int) != (sc : Int)) = true := by simp; omega
        go_wp2_with fail
        refine held_begin (by kernel_rfl) ?_
        refine held_reads (rs := [0, 1, 2, 3, 4, 5, 6, 7, 8, 9, 10, 11, 12, 13, 14, 15, 16, 17, 18, 19, 20, 21, 22, 23, 24, 25, 26, 27, 28, 29, 30, 31, 32, 33, 34, 35, 36, 37, 38, 39]) (fuel := 0) (by kernel_rfl) (fun c d v a w h => by cases d <;> exact h) (by kernel_rfl) (Since.drew _) (fun K hK => ?_)
        refine calm_move _ rfl (by rfl) rfl ?_
        go_simp
        refine calm_move _ rfl (by rfl) rfl ?_
        go_simp
        refine calm_do (.bool true) rfl (by rfl) (fun w' hw' => ?_) ?_
        · go_simp
        go_simp
        refine calm_move _ rfl (by rfl) rfl ?_
        go_simp
        refine calm_move _ rfl (by rfl) rfl ?_
        go_simp
        refine calm_move _ rfl (by rfl) rfl ?_
        go_simp
        refine calm_do (.pointer (some ⟨gs, j * 3, none⟩)) rfl (by rfl) (fun w' hw' => ?_) ?_
        · skip
          go_simp
        go_simp
        refine calm_do (.pointer (some ⟨gs, j * 3 + 2, none⟩)) rfl (by rfl) (fun w' hw' => ?_) ?_
        · skip
          go_simp
        go_simp
        refine calm_do (.int .i64 0) rfl (by rfl) (fun w' hw' => ?_) ?_
        · have kk := (Below.cell (w := wr) hw' (p := ⟨gs, j * 3 + 2, none⟩) hgl).trans k2
          go_simp
        go_simp
        refine calm_do (.bool false) rfl (by rfl) (fun w' hw' => ?_) ?_
        · go_simp
        go_simp
        refine calm_move _ rfl (by rfl) rfl ?_
        go_simp
        refine calm_move _ rfl (by rfl) rfl ?_
        go_simp
        refine calm_move _ rfl (by rfl) rfl ?_
        go_simp
        refine calm_do (.pointer (some ⟨gs, j * 3, none⟩)) rfl (by rfl) (fun w' hw' => ?_) ?_
        · skip
          go_simp
        go_simp
        refine calm_do (.pointer (some ⟨gs, j * 3 + 1, none⟩)) rfl (by rfl) (fun w' hw' => ?_) ?_
        · skip
          go_simp
        go_simp
        refine calm_do (.int .i64 0) rfl (by rfl) (fun w' hw' => ?_) ?_
        · have kk := (Below.cell (w := wr) hw' (p := ⟨gs, j * 3 + 1, none⟩) hgl).trans k1
          go_simp
        go_simp
        refine calm_do (.bool false) rfl (by rfl) (fun w' hw' => ?_) ?_
        · go_simp
        go_simp
        refine calm_do (.bool false) rfl (by rfl) (fun w' hw' => ?_) ?_
        · go_simp
        go_simp
        refine calm_move _ rfl (by rfl) rfl ?_
        go_simp
        refine calm_move _ rfl (by rfl) rfl ?_
        go_simp
        refine calm_move _ rfl (by rfl) rfl ?_
        go_simp
        refine calm_do (.pointer (some ⟨gs, j * 3, none⟩)) rfl (by rfl) (fun w' hw' => ?_) ?_
        · skip
          go_simp
        go_simp
        refine calm_do (.pointer (some ⟨gs, j * 3, none⟩)) rfl (by rfl) (fun w' hw' => ?_) ?_
        · skip
          go_simp
        go_simp
        refine calm_do (.slice a1 n cp1) rfl (by rfl) (fun w' hw' => ?_) ?_
        · have kk := (Below.cell (w := wr) hw' (p := ⟨gs, j * 3, none⟩) hgl).trans k0
          go_simp
        go_simp
        refine calm_do (.string (strOfNums dd)) rfl (by rfl) (fun w' hw' => ?_) ?_
        · have hcc := conv_row Try.underlying24 Try.underlying5 Try.underlying9 (r1.below hw' (Nat.le_refl _))
          go_simp
        go_simp
        refine calm_move _ rfl (by rfl) rfl ?_
        go_simp
        refine calm_move _ rfl (by rfl) rfl ?_
        go_simp
        refine calm_do (.pointer (some ⟨g, 3, none⟩)) rfl (by rfl) (fun w' hw' => ?_) ?_
        · skip
          go_simp
        go_simp
        refine calm_do (.int .i64 n) rfl (by rfl) (fun w' hw' => ?_) ?_
        · have gb' := gb1.below hw' (Nat.le_refl _)
          obtain ⟨_, c0, c1, c2, c3, c4⟩ := gb'
          go_simp
        go_simp
        refine calm_do (.int .i64 D) rfl (by rfl) (fun w' hw' => ?_) ?_
        · skip
          go_simp
          all_goals (rw [HDI.out, IntKind.wrap_i64]; omega)
        go_simp
        refine calm_move _ rfl (by rfl) rfl ?_
        go_simp
        refine calm_do (.int .i64 ((j : Int) + 1)) rfl (by rfl) (fun w' hw' => ?_) ?_
        · skip
          go_simp
          all_goals (rw [IntKind.wrap_i64]; omega)
        go_simp
        refine calm_do (.pointer (some ⟨g, 3, none⟩)) rfl (by rfl) (fun w' hw' => ?_) ?_
        · skip
          go_simp
        go_simp
        refine calm_do (.int .i64 n) rfl (by rfl) (fun w' hw' => ?_) ?_
        · have gb' := gb1.below hw' (Nat.le_refl _)
          obtain ⟨_, c0, c1, c2, c3, c4⟩ := gb'
          go_simp
        go_simp
        refine calm_do (.int .i64 D2) rfl (by rfl) (fun w' hw' => ?_) ?_
        · skip
          go_simp
          all_goals (rw [HDJ.out, IntKind.wrap_i64]; omega)
        go_simp
        refine calm_do (.slice (some ⟨rb, off + D, none⟩) (D2 - D) (cap - D)) rfl (by rfl) (fun w' hw' => ?_) ?_
        · have e1 : (D : Int) ≤ (D2 : Int) := by omega
          have e2 : (D2 : Int) ≤ (cap : Int) := by omega
          have e3 : ¬ cap = D := by omega
          go_simp
        go_simp
        refine calm_do (.string (strOfNums dd)) rfl (by rfl) (fun w' hw' => ?_) ?_
        · have hcc := conv_row Try.underlying24 Try.underlying5 Try.underlying9 (r2.below hw' (Nat.le_refl _))
          go_simp
        go_simp
        refine calm_do (.bool false) rfl (by rfl) (fun w' hw' => ?_) ?_
        · go_simp
        go_simp
        refine calm_do (.bool false) rfl (by rfl) (fun w' hw' => ?_) ?_
        · go_simp
        go_simp
        refine calm_do (.bool false) rfl (by rfl) (fun w' hw' => ?_) ?_
        · go_simp
        go_simp
        refine calm_nil (hK.out _ ?_)
        clear hK K
        refine wpAnyH_done (by kernel_rfl) ?_ _
        go_wp2_with fail
        go_roundw
        case rel => exact ⟨j + 1, by omega, by go_num, q7.drew⟩
        case measure => simp [intOf]; omega

end Go.Proofs.Ytaabgfameegomaa
