/-
  The code of layer 5 (bch), as it landed: Decode returns what the face asks.
-/
import Derived.Test.YtjiaomkjebbkpabBchCode8
namespace Go.Proofs.Ytjiaomkjebbkpab
open Go.RowKit
set_option linter.unusedVariables false

theorem results_tmp4 {fn : Func} {t u v x : Tmp} (h : fn.results = #[.tmp t, .tmp u, .tmp v, .tmp x]) (tmps : Array Value) (P : Program) (w : World) :
    (results fn tmps).run P w = .ok (.tuple #[tmps.getD t undef, tmps.getD u undef, tmps.getD v undef, tmps.getD x undef]) w := by
  simp [results, h]
theorem gives4_nil (w w' : World) (f : Int) (hb : Below w.heap.size w w') : Gives4 w [] [] 0 f (.returned (.tuple #[.slice none 0 0, .slice none 0 0, .int .i64 0, .int .i64 f])) w' :=
  ⟨none, 0, none, 0, rfl, nil_row w', nil_row w', hb⟩
theorem wf_of_in {n : Nat} {ps : List Int} (h : inAll n ps) (hn : n ≤ 1000000) : ∀ p ∈ ps, (Lit.int .i64 p).wf = true := fun p hp => by
  have := h p hp
  simp [Lit.wf, IntKind.min, IntKind.max, IntKind.signed, IntKind.bits]
  omega
theorem take_snoc_n (P : List Nat) (i : Nat) (h : i < P.length) : P.take (i + 1) = P.take i ++ [cf P i] := by
  rw [List.take_add_one, List.getElem?_eq_getElem h]
  unfold cf
  rw [List.getElem?_eq_getElem h]
  rfl

set_option maxHeartbeats 3200000 in
set_option maxRecDepth 100000 in
theorem decC : HDecC where
  no := by
    intro t a c len cap len' cap' x m w hr hx hr' hm hsm hsm' hn h1 h2
    by_cases hd : mayD t len = true
    · have hd' : 1 ≤ t ∧ t ≤ 8 ∧ 1 ≤ len ∧ len ≤ 512 := by unfold mayD at hd; simpa using hd
      obtain ⟨t, rfl⟩ := Int.eq_ofNat_of_zero_le (show 0 ≤ t by omega)
      have hne : ¬ len' = (13 * t + 7) / 8 := by unfold mayB at hn; rw [decide_eq_false_iff_not] at hn; omega
      have hq : (((len' : Nat) : Int) != (((13 * t + 7) / 8 : Nat) : Int)) = true := by simp; omega
      have hmb := moreBytes_any t
      generalize (13 * t + 7) / 8 = nn at *
      go_enter Try.func5, Try.ntmps5
      go_wp2_with fail
      refine (mayBe_any t a len cap _ (by omega)).mono ?_
      rintro e w' ⟨rfl, rfl⟩
      rw [hd]
      go_wp2_with fail
      refine (hmb _ (by omega)).mono ?_
      rintro e w' ⟨rfl, rfl⟩
      go_wp2_with fail
      refine bodyPost_ret (results_tmp4 rfl _ _ _) rfl ?_
      exact gives4_nil _ _ _ (Below.refl _ _)
    · rw [Bool.not_eq_true] at hd
      go_enter Try.func5, Try.ntmps5
      go_wp2_with fail
      refine (mayBe_any t a len cap _ (by omega)).mono ?_
      rintro e w' ⟨rfl, rfl⟩
      rw [hd]
      go_wp2_with fail
      refine bodyPost_ret (results_tmp4 rfl _ _ _) rfl ?_
      exact gives4_nil _ _ _ (Below.refl _ _)
  yes := by
    intro t a c len cap len' cap' x m w hr hx hr' hm hsm hsm' hy
    have hy' : 1 ≤ t ∧ t ≤ 8 ∧ 1 ≤ len ∧ len ≤ 512 ∧ len' = (13 * t + 7) / 8 := by unfold mayB at hy; rw [decide_eq_true_iff] at hy; omega
    obtain ⟨h1, h8, hl1, hl2, hl'⟩ := hy'
    have HB : Hid (mayD t len = true) := by show _ = _; unfold mayD; rw [decide_eq_true_iff]; omega
    have hro := rowOf_any t a c len cap len' cap' x m w hr hx hr' hm h1 h8 (by omega) hl'
    have hmb := moreBytes_any t
    rw [← hl'] at hmb
    have HLL : Hid (len' = (13 * t + 7) / 8) := hl'
    have HX : Hid (x.length = len) := hr.hlen
    have HM : Hid (m.length = len') := hr'.hlen
    have hlen8 : 13 * t + 8 * len ≤ 8191 := by omega
    have HSL : Hid ((sumsTo (wordL t x m) (2 * t)).length = 2 * t) := length_sumsTo _ _
    have hsP : IsP (sumsTo (wordL t x m) (2 * t)) := isP_sumsTo (is01_wordL t x m).isP _
    have hok := bm_ok hsP (2 * t)
    have HFound : Hid (∀ d k n, IsDec t x m d k n → (bmTo (sumsTo (wordL t x m) (2 * t)) (2 * t)).now.length - 1 ≤ t ∧
        cleanB (turnTo (sumsTo (wordL t x m) (2 * t)) (rts (bmTo (sumsTo (wordL t x m) (2 * t)) (2 * t)).now (13 * t + 8 * len))) = true) := fun d k n h => by
      have := dec_found (by rw [HX.out]; exact hlen8) h
      rwa [HX.out] at this
    have HWords : Hid (∀ z loc, IsLow t m z → inAll len' (ints ((rts loc (13 * t + 8 * len)).take (lowCount (rts loc (13 * t + 8 * len)) (13 * t)))) ∧ inAll len (ints (lessL (13 * t) ((rts loc (13 * t + 8 * len)).drop (lowCount (rts loc (13 * t + 8 * len)) (13 * t)))))) := fun z loc hz => by
      have := dec_words h1 h8 hx (by rw [HM.out, HLL.out]) hz (f := fun i => evl loc (ginv (gpow 2 i)) == 0) (P := rts loc (13 * t + 8 * len)) (by rw [HX.out]; rfl)
      rw [hz.len, HM.out, HX.out] at this
      exact ⟨this.1, this.2.1⟩
    have HYes : Hid (∀ z loc, IsLow t m z → IsP loc → norm loc = loc → loc ≠ [] → loc.length - 1 ≤ t → cleanB (turnTo (sumsTo (wordL t x m) (2 * t)) (rts loc (13 * t + 8 * len))) = true →
        IsDec t x m (turnI x (ints (lessL (13 * t) ((rts loc (13 * t + 8 * len)).drop (lowCount (rts loc (13 * t + 8 * len)) (13 * t)))))) (turnI z (ints ((rts loc (13 * t + 8 * len)).take (lowCount (rts loc (13 * t + 8 * len)) (13 * t))))) (rts loc (13 * t + 8 * len)).length) := fun z loc hz hp hn hne hl hc => by
      have := dec_yes h1 h8 hx (by rw [HM.out, HLL.out]) hz (by rw [HX.out]; exact hlen8) hp hn hne hl (by rw [HX.out]; exact hc)
      rwa [HX.out] at this
    have hP1 := hok.pn
    have hN1 := hok.nn
    have hl3 : (bmTo (sumsTo (wordL t x m) (2 * t)) (2 * t)).now.length ≤ 2 * t + 1 := by have := hok.ln; have := hok.len; omega
    have hNE : (bmTo (sumsTo (wordL t x m) (2 * t)) (2 * t)).now ≠ [] := fun e => by have := hok.one; rw [e] at this; exact absurd this (by decide)
    clear hl' hy hok
    have hlocC : ∀ B g h w1, RowAt 3 w1 B g h (2 * t) (sumsTo (wordL t x m) (2 * t)) → Calls Try.prog 12 #[.pointer (some ⟨g, 0, none⟩)] w1 (HandsL w1 (bmTo (sumsTo (wordL t x m) (2 * t)) (2 * t)).now) := fun B g h w1 r => locator_any B g h (2 * t) _ w1 r hsP (by omega)
    generalize (bmTo (sumsTo (wordL t x m) (2 * t)) (2 * t)).now = loc at *
    generalize sumsTo (wordL t x m) (2 * t) = s at *
    have HN1 : Hid (norm loc = loc) := hN1
    clear hN1
    generalize hll : loc.length = ll at *
    have HLLL : Hid (loc.length = ll) := hll
    clear hll
    have hll1 : 1 ≤ ll := by have := List.length_pos_iff.2 hNE; have := HLLL.out; omega
    go_enter Try.func5, Try.ntmps5
    go_wp2_with fail
    refine (mayBe_any t a len cap _ (by omega)).mono ?_
    rintro e w' ⟨rfl, rfl⟩
    rw [HB.out]
    go_wp2_with fail
    refine (hmb _ (by omega)).mono ?_
    rintro e w' ⟨rfl, rfl⟩
    clear hmb
    go_wp2_with fail
    refine hro.mono ?_
    rintro e w1 ⟨g, h, rfl, r, hb1⟩
    clear hro
    have hl := hlocC _ _ _ _ r
    clear hlocC
    go_wp2_with fail
    refine hl.mono ?_
    rintro e w2 ⟨a2, c2, rfl, hr2, hb2⟩
    clear hl
    replace r := r.below hb2
    have hB2 : Below w.heap.size w w2 := btrans hb1 hb2
    clear hb1 hb2
    rw [HLLL.out] at hr2 ⊢
    by_cases hbig : ll - 1 > t
    · have HNO : Hid (∀ d k n, ¬ IsDec t x m d k n) := fun d k n hd => by have := (HFound.out d k n hd).1; omega
      have u1 : (t : Int) < (ll : Int) - 1 := by omega
      clear HFound HWords HYes
      go_wp2_with fail
      refine bodyPost_ret (results_tmp4 rfl _ _ _) rfl ?_
      exact .inr ⟨HNO.out, gives4_nil _ _ _ hB2⟩
    · have u1 : ¬ (t : Int) < (ll : Int) - 1 := by omega
      have hroots := roots_any a2 ll c2 (13 * t + 8 * len) loc w2 hr2 hP1 HN1.out hNE hlen8 (by omega)
      have HSORT : Hid ((rts loc (13 * t + 8 * len)).Pairwise (· < ·)) := sorted_filter _ _
      have HLOW : Hid (∀ q ∈ rts loc (13 * t + 8 * len), q ≤ 1000) := fun q hq => by have := (mem_rts.1 hq).1; omega
      have hPl : (rts loc (13 * t + 8 * len)).length ≤ 1000 := by have := length_rts_le loc (13 * t + 8 * len); omega
      have HW2 : Hid (∀ z, IsLow t m z → _) := fun z => HWords.out z loc
      have HY2 : Hid (∀ z, IsLow t m z → _) := fun z hz => HYes.out z loc hz hP1 HN1.out hNE (by rw [HLLL.out]; omega)
      have HF2 : Hid (∀ d k n, IsDec t x m d k n → cleanB (turnTo s (rts loc (13 * t + 8 * len))) = true) := fun d k n hd => (HFound.out d k n hd).2
      clear HFound HWords HYes
      generalize rts loc (13 * t + 8 * len) = P at *
      generalize hpl : P.length = pl at *
      have HPL : Hid (P.length = pl) := hpl
      clear hpl
      have u2 : IntKind.i64.wrap (13 * (t : Int)) = 13 * (t : Int) := by rw [IntKind.wrap_i64]; omega
      have u4 : 13 * (t : Int) + 8 * (len : Int) = ((13 * t + 8 * len : Nat) : Int) := by omega
      generalize hN : 13 * t + 8 * len = N at *
      clear hN
      go_wp2_with fail
      refine hroots.mono ?_
      rintro e w3 ⟨v, rfl, hownP, hb3⟩
      clear hroots
      obtain ⟨ao, cp, rfl, _⟩ := row_of_owns hownP
      have hrh := r.own.lt h rfl
      replace r := r.below hb3
      have hB3 : Below w.heap.size w w3 := btrans hB2 hb3
      have hsz23 := hb3.size
      have hsz2 := hB2.size
      clear hB2 hb3 hr2
      have HT0 : Hid (turnTo s (P.take 0) = s) := turnTo_nil s
      have HTS : Hid (∀ i, i < pl → turnPart (turnTo s (P.take i)) (cf P i) (2 * t) = turnTo s (P.take (i + 1))) := fun i hi => by
        rw [take_snoc_n P i (by rw [HPL.out]; exact hi), ← turnPart_all, HSL.out]
      have HTP : Hid (∀ i, IsP (turnTo s (P.take i))) := fun i => isP_turnTo hsP _
      have HTE : Hid (turnTo s (P.take pl) = turnTo s P) := by show _ = _; rw [List.take_of_length_le (by rw [HPL.out]; exact Nat.le_refl _)]
      have HCF : Hid (∀ i, i < pl → cf P i ≤ 1000) := fun i hi => HLOW.out _ (by
        have hi' : i < P.length := by rw [HPL.out]; exact hi
        unfold cf
        rw [List.getElem?_eq_getElem hi']
        exact List.getElem_mem hi')
      go_wp2_with fail
      go_loopw [53] (fun y wr => ∃ i : Nat, i ≤ pl ∧ y = .int .i64 i ∧ RowAt 3 wr w.heap.size g h (2 * t) (turnTo s (P.take i)) ∧ wr.ownsRow w2.heap.size 3 1 (.slice ao pl cp) pl ((ints P).map (Value.int .i64)) ∧ Below w.heap.size w wr) (fun y _ => pl - (intOf y).toNat)
      case atStart => exact ⟨0, Nat.zero_le _, rfl, by rw [HT0.out]; exact r, hownP, hB3⟩
      case round =>
        clear r hownP hB3
        obtain ⟨i, hi, rfl, r, hownP, hB⟩ := hrel
        have hszr := hB.size
        by_cases hlt : i < pl
        · obtain ⟨gp, hgp, rfl⟩ := owns_head hownP (by omega)
          have hc1 := owned_cell hownP i hlt
          rw [ints_get] at hc1
          have hcf := HCF.out i hlt
          have HTSi : Hid _ := HTS.out i hlt
          have HTPi := HTP.out i
          have u5 : (i : Int) < (pl : Int) := by omega
          go_wp2_with fail
          refine (rowTurn_any w.heap.size g h (2 * t) (cf P i) _ _ r HTPi (by omega) (by omega)).mono ?_
          rintro e w4 ⟨⟨v, rfl⟩, r4, hg4⟩
          rw [HTSi.out] at r4
          have hown4 := owns_other hownP hg4 (fun b hb => by simp at hb; omega)
          have hB4 : Below w.heap.size w w4 := hB.grown hg4 hszr (fun b hb => by simp at hb; have := r4.hh; omega)
          clear r hownP hB HTPi HTSi hc1
          go_wp2_with fail
          go_roundw
          case rel => exact ⟨i + 1, by omega, by go_num, r4, hown4, hB4⟩
          case measure => simp [intOf]; omega
        · have e : i = pl := by omega
          subst e
          rw [HTE.out] at r
          clear HTS HTP HTE HT0 HCF
          go_wp2_with fail
          refine (rowClean_any w.heap.size g h (2 * t) _ _ r (by omega)).mono ?_
          rintro e w' ⟨rfl, rfl⟩
          cases hcl : cleanB (turnTo s P)
          · have HNO : Hid (∀ d k n, ¬ IsDec t x m d k n) := fun d k n hd => by have := HF2.out d k n hd; rw [hcl] at this; simp at this
            clear HF2 HY2 HW2 hownP r
            go_wp2_with fail
            refine bodyPost_ret (results_tmp4 rfl _ _ _) rfl ?_
            exact .inr ⟨HNO.out, gives4_nil _ _ _ hB⟩
          · have HY3 : Hid (∀ z, IsLow t m z → _) := fun z hz => HY2.out z hz hcl
            clear HF2 HY2 hcl r
            have hpart := parted_any w w.heap.size ao i cp (13 * t) P _ (owns_base hownP hsz2) HSORT.out (fun q hq => by have := HLOW.out q hq; omega) (by omega) (by omega) hB
            clear hownP
            have HSORT' := HSORT.out
            clear HSORT HSORT'
            generalize hP1 : P.take (lowCount P (13 * t)) = Pm at *
            generalize hP2 : lessL (13 * t) (P.drop (lowCount P (13 * t))) = Pd at *
            clear hP1 hP2
            rw [show ((13 * t : Nat) : Int) = 13 * (t : Int) from by omega] at hpart
            go_wp2_with fail
            refine hpart.mono ?_
            rintro e w5 ⟨a5, c5, b5, d5, rfl, hrm, hrd, hB5⟩
            clear hpart hB
            generalize hlpm : Pm.length = lpm at *
            generalize hlpd : Pd.length = lpd at *
            clear hlpm hlpd
            have hr'5 := hr'.below hB5 (Nat.le_refl _)
            have hbel := below_bch t c len' cap' m w5 hr'5 hm h1 h8 HLL.out
            go_wp2_with fail
            refine hbel.mono ?_
            rintro e w6 ⟨z, hz, a6, c6, rfl, hr6, hb6⟩
            clear hbel hr'5
            have hzl : z.length = len' := by rw [hz.len, HM.out]
            have hzB := hz.isB
            have hW := HW2.out z hz
            have HIN1 : Hid (inB len' (ints Pm) = true) := (inB_iff _ _).2 hW.1
            have HIN2 : Hid (inB len (ints Pd) = true) := (inB_iff _ _).2 hW.2
            have HWF1 : Hid (∀ n ∈ ints Pm, (Lit.int .i64 n).wf = true) := wf_of_in hW.1 (by omega)
            have HWF2 : Hid (∀ n ∈ ints Pd, (Lit.int .i64 n).wf = true) := wf_of_in hW.2 (by omega)
            have HDEC : Hid _ := HY3.out z hz
            rw [hzl] at hr6 ⊢
            have HLK : Hid ((turnI z (ints Pm)).length = len') := by show _ = _; rw [length_turnI, hzl]
            have HLD : Hid ((turnI x (ints Pd)).length = len) := by show _ = _; rw [length_turnI, HX.out]
            clear hz hzl hW HY3 HW2
            replace hrm := hrm.below hb6 (Nat.le_refl _)
            replace hrd := hrd.below hb6 (Nat.le_refl _)
            have hB6 : Below w.heap.size w w6 := hB5.trans (hb6.mono hB5.size)
            clear hB5 hb6
            have hturn := turn_any a6 a5 len' c6 lpm c5 z (ints Pm) w6 hr6 hzB hrm HWF1.out (by omega)
            go_wp2_with fail
            refine hturn.mono ?_
            rintro e w7 ⟨hb7, h7⟩
            rcases h7 with ⟨_, rfl, hown7⟩ | ⟨hf7, _⟩
            case inr => exact absurd hf7 (by rw [HIN1.out]; simp)
            clear hturn hr6
            have hr7 := isB_of_row hown7
            replace hrd := hrd.below hb7 (Nat.le_refl _)
            have hB7 : Below w.heap.size w w7 := hB6.trans (hb7.mono hB6.size)
            clear hB6 hb7 hown7 hrm
            have hr1 := hr.below hB7 (Nat.le_refl _)
            have hturn := turn_any a b5 len cap lpd d5 x (ints Pd) w7 hr1 hx hrd HWF2.out (by omega)
            generalize w6.heap.size = g6 at *
            go_wp2_with fail
            refine hturn.mono ?_
            rintro e w8 ⟨hb8, h8'⟩
            rcases h8' with ⟨_, rfl, hown8⟩ | ⟨hf8, _⟩
            case inr => exact absurd hf8 (by rw [HIN2.out]; simp)
            clear hturn hr1
            have hr8 := isB_of_row hown8
            replace hr7 := hr7.below hb8 (Nat.le_refl _)
            have hB8 : Below w.heap.size w w8 := hB7.trans (hb8.mono hB7.size)
            clear hB7 hb8 hown8 hrd
            generalize w7.heap.size = g7 at *
            generalize turnI x (ints Pd) = od at *
            generalize turnI z (ints Pm) = om at *
            go_wp2_with fail
            refine bodyPost_ret (results_tmp4 rfl _ _ _) rfl ?_
            refine .inl ⟨od, om, i, HDEC.out, some ⟨g7, 0, none⟩, len, some ⟨g6, 0, none⟩, len', by rw [HLD.out, HLK.out]; rfl, by rw [HLD.out]; exact hr8, by rw [HLK.out]; exact hr7, hB8⟩

end Go.Proofs.Ytjiaomkjebbkpab
