/-
  The code of layer 4 (bpoly), as it landed: Mul, Mod return what the face asks.
-/
import Derived.Test.YtjiaomkjebbkpabBpolyCode2
namespace Go.Proofs.Ytjiaomkjebbkpab
open Go.RowKit
set_option linter.unusedVariables false

theorem Row.nb {w : World} {a : Option Addr} {len cap : Nat} {z : List Int} (h : Row .u8 w a len cap z) (hb : IsB z) : Row .u8 w a (nb (bts z)).length cap (nb (bts z)) := by
  have := h.take (Go.Proofs.Ytjiaomkjebbkpab.nb (bts z)).length (by have := bnb_len_le z; have := h.hlen; omega)
  rwa [take_nb hb] at this

/-- What Mul holds when the powers below k are done. -/
structure MulAt (w : World) (T : TypeId) (n : Nat) (p q : List Nat) (k : Nat) (wr : World) : Prop where
  some : ∃ z, IsB z ∧ z.length = n ∧ Eqv (bts z) (mulL (p.take k) q) ∧ wr.ownsRow w.heap.size T 1 (.slice (some ⟨w.heap.size, 0, none⟩) n n) n (z.map (Value.int .u8))
  below : Below w.heap.size w wr
set_option maxHeartbeats 1600000 in
set_option maxRecDepth 100000 in
theorem bmulC : BMulC := by
  intro a c len cap len' cap' x y w hr hr' hx hy hsm hsm'
  obtain ⟨i0, hi0, hz0, hz1, hz2⟩ := info_parts Try.info5
  have hR1 := hr.nb hx
  have hR2 := hr'.nb hy
  have hB1 := isB_nb (is01_bts x)
  have hB2 := isB_nb (is01_bts y)
  have hl1 : (nb (bts x)).length ≤ 500 := by have := bnb_len_le x; have := hr.hlen; omega
  have hl2 : (nb (bts y)).length ≤ 500 := by have := bnb_len_le y; have := hr'.hlen; omega
  have HE : Hid (Eqv (mulL (bts (nb (bts x))) (bts (nb (bts y)))) (mulL (bts x) (bts y))) :=
    (mulL_right _ (bts_nb (is01_bts y))).trans (mulL_left _ (is01_bts _).isP (is01_bts _).isP (is01_bts y).isP (bts_nb (is01_bts x)))
  have hn1 := bnormal_any a len cap x w hr hx (by omega)
  have hn2 := bnormal_any c len' cap' y w hr' hy (by omega)
  have HL1 : Hid ((bts (nb (bts x))).length = 8 * (nb (bts x)).length) := length_bts _
  have HNQ : (norm (bts (nb (bts y)))).length ≤ 8 * (nb (bts y)).length := norm_bts_le _
  generalize nb (bts x) = p at *
  generalize nb (bts y) = q at *
  generalize hlp : p.length = lp at *
  generalize hlq : q.length = lq at *
  clear hr hr'
  have hmax : lp + lq ≤ maxLen := by unfold maxLen; omega
  have hmk : ∀ w1 : World, w1.ownsRow w.heap.size 5 1 (.slice (some ⟨w.heap.size, 0, none⟩) (lp + lq) (lp + lq)) (lp + lq) (madeCells (Value.int IntKind.u8 0).cells ((lp + lq) * 1)).toList → w.grownBy w1 none →
      MulAt w 5 (lp + lq) (bts p) (bts q) 0 w1 := fun w1 h1 h2 => by
    rw [made_ints] at h1
    exact ⟨⟨_, isB_zeros _, by simp, bts_zeros _, h1⟩, (Below.refl _ _).grown h2 (Nat.le_refl _) (by simp)⟩
  have HST : Hid (∀ k wr, k < 8 * lp → MulAt w 5 (lp + lq) (bts p) (bts q) k wr → ∀ z w', cf (bts p) k = 1 → IsB z → z.length = lp + lq → Eqv (bts z) (mulL ((bts p).take k) (bts q)) →
      w'.ownsRow w.heap.size 5 1 (.slice (some ⟨w.heap.size, 0, none⟩) (lp + lq) (lp + lq)) (lp + lq) ((raiseTo z q k lq).map (Value.int .u8)) → Below w.heap.size w w' → MulAt w 5 (lp + lq) (bts p) (bts q) (k + 1) w') := by
    intro k wr hk hA z w' hc hz hzl he ho hb
    refine ⟨⟨_, isB_raiseTo hz hB2 k lq, by rw [length_raiseTo, hzl], ?_, ho⟩, hb⟩
    have := raise_all hz hB2 k (by rw [hlq, hzl]; omega) (by rw [hzl]; omega)
    rw [hlq] at this
    exact this.trans ((eqv_addL he (Eqv.refl _)).trans (mul_take_step (is01_bts p) (is01_bts q) k (by rw [HL1.out]; exact hk) hc).symm)
  have HSK : Hid (∀ k wr, MulAt w 5 (lp + lq) (bts p) (bts q) k wr → cf (bts p) k = 0 → MulAt w 5 (lp + lq) (bts p) (bts q) (k + 1) wr) := by
    rintro k wr ⟨⟨z, hz, hzl, he, ho⟩, hb⟩ hc
    exact ⟨⟨z, hz, hzl, he.trans (mul_take_skip (is01_bts p) (is01_bts q) k hc).symm, ho⟩, hb⟩
  have HEN : Hid (∀ wr, MulAt w 5 (lp + lq) (bts p) (bts q) (8 * lp) wr → ∃ z, IsB z ∧ z.length = lp + lq ∧ nb (bts z) = nb (mulL (bts x) (bts y)) ∧ wr.ownsRow w.heap.size 5 1 (.slice (some ⟨w.heap.size, 0, none⟩) (lp + lq) (lp + lq)) (lp + lq) (z.map (Value.int .u8)) ∧ Below w.heap.size w wr) := by
    rintro wr ⟨⟨z, hz, hzl, he, ho⟩, hb⟩
    rw [List.take_of_length_le (by rw [HL1.out]; exact Nat.le_refl _)] at he
    exact ⟨z, hz, hzl, nb_ext (he.trans HE.out), ho, hb⟩
  have HLP : Hid (p.length = lp) := hlp
  have HLQ : Hid (q.length = lq) := hlq
  clear hlp hlq HE HL1
  go_enter Try.func34, Try.ntmps34
  go_wp2_with fail
  refine hn1.mono ?_
  rintro e w' ⟨rfl, rfl⟩
  go_wp2_with fail
  refine hn2.mono ?_
  rintro e w' ⟨rfl, rfl⟩
  clear hn1 hn2
  go_wp2_with (at_make; refine wpList_make_full _ rfl _ _ 22 rfl w.heap.size 5 i0 (.int .u8 0) 1 Try.underlying22 hi0 hz0 hz1 _ _ _ _ (lp + lq) rfl rfl (by omega) (by omega) (by rw [hz2]; omega) hmax (Nat.le_refl _) ?_; intro w1 hown1 hgrow1)
  have hA0 := hmk w1 hown1 hgrow1
  clear hmk hown1 hgrow1
  go_loopw [20] (fun yv wr => ∃ k : Nat, k ≤ 8 * lp ∧ yv = .int .i64 k ∧ MulAt w 5 (lp + lq) (bts p) (bts q) k wr) (fun yv _ => 8 * lp - (intOf yv).toNat)
  case atStart => exact ⟨0, Nat.zero_le _, rfl, hA0⟩
  case round =>
    clear hA0
    obtain ⟨k, hk, rfl, hA⟩ := hrel
    by_cases hlt : k < 8 * lp
    · have hkk : (k : Int) < (lp : Int) * 8 := by omega
      have hrr := hR1.below hA.below (Nat.le_refl _)
      have HV : Hid ((cf (bts p) k : Int) = bitI p k) := cf_bts_int p k
      have h01 := bitI_01 p k
      go_wp2_with fail
      refine (bcoef_any _ _ _ k p _ hrr hB1 (by omega) (by omega)).mono ?_
      rintro e w' ⟨rfl, rfl⟩
      rcases h01 with h0 | h0
      · have HC : Hid (cf (bts p) k = 0) := by show _ = _; have := HV.out; omega
        rw [h0]
        have HA : Hid _ := HSK.out k _ hA HC.out
        clear hA hrr
        go_wp2_with fail
        go_roundw
        case rel => exact ⟨k + 1, by omega, by go_num, HA.out⟩
        case measure => simp [intOf]; omega
      · have HC : Hid (cf (bts p) k = 1) := by show _ = _; have := HV.out; omega
        rw [h0]
        obtain ⟨z, hz, hzl, he, ho⟩ := hA.some
        have HZL : Hid (z.length = lp + lq) := hzl
        have HST' := HST.out k _ hlt hA z
        have HST2 : Hid _ := HST'
        have hb := hA.below
        clear hA hrr hzl HST'
        go_wp2_with fail
        refine (raised_any w w.heap.size w.heap.size (lp + lq) (lp + lq) c lq cap' z q k _ (Nat.le_refl _) (Nat.le_refl _) ho hb hz hR2 hB2 (by omega) (by omega) (by omega) (by omega)).mono ?_
        rintro e w2 ⟨⟨v, rfl⟩, ho2, hb2⟩
        have HA : Hid _ := HST2.out w2 HC.out hz HZL.out he ho2 hb2
        clear ho hb ho2 hb2
        go_wp2_with fail
        go_roundw
        case rel => exact ⟨k + 1, by omega, by go_num, HA.out⟩
        case measure => simp [intOf]; omega
    · have e : k = 8 * lp := by omega
      subst e
      obtain ⟨z, hz, hzl, he, ho, hb⟩ := HEN.out _ hA
      have HZ : Hid (nb (bts z) = nb (mulL (bts x) (bts y))) := he
      clear hA he hzl
      have hown5 := owns_nb ho hz
      rw [HZ.out] at hown5
      have hrow4 := isB_of_row ho
      have hkk : ¬ ((8 * lp : Nat) : Int) < (lp : Int) * 8 := by omega
      go_wp2_with fail
      refine (bnormal_any _ _ _ _ _ hrow4 hz (by omega)).mono ?_
      rintro e w4 ⟨rfl, rfl⟩
      rw [HZ.out]
      go_wp2_with fail
      go_ret
      exact Owns.gives (T := 5) ⟨_, _, Nat.le_refl _, rfl, hown5, hb⟩

/-- What Mod holds when the powers from k on are done. -/
structure ModAt (w : World) (T : TypeId) (g n cp : Nat) (p q : List Nat) (k : Nat) (wr : World) : Prop where
  some : ∃ z, IsB z ∧ z.length = n ∧ (∀ i, k ≤ i → cf (bts z) i = 0) ∧ (∃ c, Is01 c ∧ Eqv (addL (mulL q c) (bts z)) p) ∧ wr.ownsRow w.heap.size T 1 (.slice (some ⟨g, 0, none⟩) n cp) n (z.map (Value.int .u8))
  below : Below w.heap.size w wr
theorem ModAt.le {w : World} {T : TypeId} {g n cp : Nat} {p q : List Nat} {k : Nat} {wr : World} (h : ModAt w T g n cp p q k wr) (m : Nat) (hm : k ≤ m) : ModAt w T g n cp p q m wr := by
  obtain ⟨⟨z, h1, h2, h3, h4, h5⟩, hb⟩ := h
  exact ⟨⟨z, h1, h2, fun i hi => h3 i (by omega), h4, h5⟩, hb⟩
theorem givesE_nil (w : World) (n : Int) : GivesE w [] n (.returned (.tuple #[.slice none 0 0, .int .i64 n])) w := ⟨none, 0, rfl, nil_row w, Below.refl _ _⟩
set_option maxHeartbeats 1600000 in
set_option maxRecDepth 100000 in
theorem bmodC : BModC where
  zero := by
    intro a c len cap len' cap' x y w hr hr' hx hy hsm hsm' hz
    have hd := bdeg_any c len' cap' y w hr' hy (by omega)
    rw [hz] at hd
    go_enter Try.func33, Try.ntmps33
    go_wp2_with fail
    refine hd.mono ?_
    rintro e w' ⟨rfl, rfl⟩
    rw [show ((([] : List Nat).length : Nat) : Int) - 1 = -1 from rfl]
    go_wp2_with fail
    go_ret2
    exact givesE_nil _ _
  yes := by
    intro a c len cap len' cap' x y w hr hr' hx hy hsm hsm' hne
    have hd := bdeg_any c len' cap' y w hr' hy (by omega)
    have hn := bnormal_any c len' cap' y w hr' hy (by omega)
    have hR2 := hr'.nb hy
    have hB2 := isB_nb (is01_bts y)
    have HLY : Hid ((nb (bts y)).length = ((norm (bts y)).length + 7) / 8) := length_nb _
    have HNY : Hid (norm (bts (nb (bts y))) = norm (bts y)) := norm_bts_nb (is01_bts y)
    have HEY : Hid (Eqv (bts (nb (bts y))) (bts y)) := bts_nb (is01_bts y)
    have hl2 : (nb (bts y)).length ≤ 500 := by have := bnb_len_le y; have := hr'.hlen; omega
    obtain ⟨d, hdd⟩ : ∃ d, (norm (bts y)).length = d + 1 := ⟨(norm (bts y)).length - 1, by have := List.length_pos_iff.2 hne; omega⟩
    have HD : Hid ((norm (bts y)).length = d + 1) := hdd
    rw [hdd, show ((d + 1 : Nat) : Int) - 1 = (d : Int) from by omega] at hd
    have hd8 : d ≤ 4000 := by have := norm_bts_le y; have := hr'.hlen; omega
    clear hdd
    have hadd := badd_own a none len cap 0 0 x [] w hr (nil_row w) hx (isB_all _ (by decide)) hsm (by omega)
    have HEX : Hid (Eqv (bts (nb (addL (bts x) (bts [])))) (bts x)) := (bts_nb (is01_addL (is01_bts x) (is01_bts []))).trans (addL_nil _)
    have hB1 : IsB (nb (addL (bts x) (bts []))) := isB_nb (is01_addL (is01_bts x) (is01_bts []))
    have hl1 : (nb (addL (bts x) (bts []))).length ≤ 500 := by
      rw [nb_ext (show Eqv (addL (bts x) (bts [])) (bts x) from addL_nil _)]
      have := bnb_len_le x; have := hr.hlen; omega
    generalize hq : nb (bts y) = q at *
    clear hq
    generalize nb (addL (bts x) (bts [])) = r at *
    generalize hlq : q.length = lq at *
    have HLQ : Hid (q.length = lq) := hlq
    generalize hlr : r.length = lr at *
    have HLR : Hid (r.length = lr) := hlr
    have HNQ : Hid ((norm (bts q)).length = d + 1) := by show _ = _; rw [HNY.out]; exact HD.out
    have hlq8 : lq = (d + 1 + 7) / 8 := by rw [HLY.out, HD.out]
    have HFIN : Hid (∀ g cp k wr, k ≤ d → ModAt w 5 g lr cp (bts x) (bts q) k wr → ∃ z, IsB z ∧ z.length = lr ∧ IsMod (bts x) (bts y) (bts z) ∧ wr.ownsRow w.heap.size 5 1 (.slice (some ⟨g, 0, none⟩) lr cp) lr (z.map (Value.int .u8)) ∧ Below w.heap.size w wr) := by
      rintro g cp k wr hk ⟨⟨z, h1, h2, h3, h4, h5⟩, hb⟩
      obtain ⟨cc, hcc, he⟩ := h4
      refine ⟨z, h1, h2, ⟨is01_bts z, ⟨cc, hcc, ?_⟩, ?_⟩, h5, hb⟩
      · exact (eqv_addL (mulL_left cc (is01_bts y).isP (is01_bts q).isP hcc.isP HEY.out.symm) (Eqv.refl _)).trans he
      · have := norm_len_le (bts z) k h3
        rw [HD.out]; omega
    have HST : Hid (∀ g cp k z wr, d < k → k ≤ 8 * lr → IsB z → z.length = lr → (∀ i, k ≤ i → cf (bts z) i = 0) → (∃ c, Is01 c ∧ Eqv (addL (mulL (bts q) c) (bts z)) (bts x)) → cf (bts z) (k - 1) = 1 →
        wr.ownsRow w.heap.size 5 1 (.slice (some ⟨g, 0, none⟩) lr cp) lr ((raiseTo z q (k - 1 - d) lq).map (Value.int .u8)) → Below w.heap.size w wr → ModAt w 5 g lr cp (bts x) (bts q) (k - 1) wr) := by
      intro g cp k z wr hk hk8 hz hzl h3 h4 hc ho hb
      have e := raise_all hz hB2 (k - 1 - d) (by rw [HLQ.out, hzl]; omega) (by rw [hzl, HNQ.out]; omega)
      rw [HLQ.out] at e
      have := mod_step (is01_bts q) (is01_bts z) HNQ.out hk h3 hc h4 e
      exact ⟨⟨_, isB_raiseTo hz hB2 _ _, by rw [length_raiseTo, hzl], this.2, this.1, ho⟩, hb⟩
    have HSK : Hid (∀ g cp k z wr, 0 < k → IsB z → z.length = lr → (∀ i, k ≤ i → cf (bts z) i = 0) → (∃ c, Is01 c ∧ Eqv (addL (mulL (bts q) c) (bts z)) (bts x)) → cf (bts z) (k - 1) = 0 →
        wr.ownsRow w.heap.size 5 1 (.slice (some ⟨g, 0, none⟩) lr cp) lr (z.map (Value.int .u8)) → Below w.heap.size w wr → ModAt w 5 g lr cp (bts x) (bts q) (k - 1) wr) := by
      intro g cp k z wr hk hz hzl h3 h4 hc ho hb
      refine ⟨⟨z, hz, hzl, fun i hi => ?_, h4, ho⟩, hb⟩
      by_cases e : i = k - 1
      · subst e; exact hc
      · exact h3 i (by omega)
    have HST0 : Hid (∀ g cp wr, wr.ownsRow w.heap.size 5 1 (.slice (some ⟨g, 0, none⟩) lr cp) lr (r.map (Value.int .u8)) → Below w.heap.size w wr → ModAt w 5 g lr cp (bts x) (bts q) (norm (bts r)).length wr) := by
      intro g cp wr ho hb
      refine ⟨⟨r, hB1, HLR.out, fun i hi => norm_above _ _ hi, ⟨[], fun x hx => absurd hx (by simp), fun i => ?_⟩, ho⟩, hb⟩
      rw [cf_addL, mulL_nil _ i]
      show 0 ^^^ _ = _
      rw [Nat.zero_xor, HEX.out i]
    have hdr8 : (norm (bts r)).length ≤ 8 * lr := by have := norm_bts_le r; have := HLR.out; omega
    have hsq : ∀ k, d < k → k ≤ 8 * lr → (k - 1 - d) / 8 + lq ≤ lr := fun k h1 h2 => by omega
    clear hlq hlr hlq8 HLY HNY HEY HEX
    go_enter Try.func33, Try.ntmps33
    go_wp2_with fail
    refine hd.mono ?_
    rintro e w' ⟨rfl, rfl⟩
    go_wp2_with fail
    refine hn.mono ?_
    rintro e w' ⟨rfl, rfl⟩
    clear hd hn
    go_wp2_with fail
    refine hadd.mono ?_
    rintro e w1 ⟨g, cp, hg, rfl, hown1, hb1⟩
    clear hadd
    rw [HLR.out] at hown1 ⊢
    have hrow1 := isB_of_row hown1
    go_wp2_with fail
    refine (bdeg_any _ _ _ r _ hrow1 hB1 (by omega)).mono ?_
    rintro e w' ⟨rfl, rfl⟩
    have hA0 := HST0.out g cp _ hown1 hb1
    clear hrow1 hown1 hb1 HST0
    generalize (norm (bts r)).length = kr at *
    go_wp2_with fail
    go_loopw [8] (fun yv wr => ∃ k : Nat, k ≤ kr ∧ yv = .int .i64 ((k : Int) - 1) ∧ ModAt w 5 g lr cp (bts x) (bts q) k wr) (fun yv _ => (intOf yv + 1).toNat)
    case atStart => exact ⟨kr, Nat.le_refl _, rfl, hA0⟩
    case round =>
      clear hA0
      obtain ⟨k, hk, rfl, hA⟩ := hrel
      by_cases hge : d < k
      · obtain ⟨m, rfl⟩ : ∃ m, k = m + 1 := ⟨k - 1, by omega⟩
        rw [show ((m + 1 : Nat) : Int) - 1 = (m : Int) from by omega]
        have hdm : (d : Int) ≤ (m : Int) := by omega
        obtain ⟨⟨z, hz, hzl, h3, h4, ho⟩, hb⟩ := hA
        have HZL : Hid (z.length = lr) := hzl
        have H3 : Hid (∀ i, m + 1 ≤ i → cf (bts z) i = 0) := h3
        have H4 : Hid (∃ c, Is01 c ∧ Eqv (addL (mulL (bts q) c) (bts z)) (bts x)) := h4
        clear hzl h3 h4
        have hrow := isB_of_row ho
        have HV : Hid ((cf (bts z) m : Int) = bitI z m) := cf_bts_int z m
        have h01 := bitI_01 z m
        go_wp2_with fail
        refine (bcoef_any _ _ _ m z _ hrow hz (by omega) (by omega)).mono ?_
        rintro e w' ⟨rfl, rfl⟩
        rcases h01 with h0 | h0
        · have HC : Hid (cf (bts z) m = 0) := by show _ = _; have := HV.out; omega
          rw [h0]
          have HA : Hid (ModAt w 5 g lr cp (bts x) (bts q) m wr) := HSK.out g cp (m + 1) z _ (by omega) hz HZL.out H3.out H4.out HC.out ho hb
          clear ho hb hrow
          go_wp2_with fail
          go_roundw
          case rel => exact ⟨m, by omega, by go_num, HA.out⟩
          case measure => simp [intOf]
        · have HC : Hid (cf (bts z) m = 1) := by show _ = _; have := HV.out; omega
          rw [h0]
          clear hrow
          have e1 : IntKind.i64.wrap ((m : Int) - (d : Int)) = ((m - d : Nat) : Int) := by rw [IntKind.wrap_i64]; omega
          have e2 : (m : Int) - (d : Int) = ((m - d : Nat) : Int) := by omega
          go_wp2_with fail
          refine (raised_any w w.heap.size g lr cp c lq cap' z q (m - d) _ hg (Nat.le_refl _) ho hb hz hR2 hB2 (by omega) (by have := hsq (m + 1) (by omega) (by omega); simpa using this) (by have := HNQ.out; omega) (by omega)).mono ?_
          rintro e w2 ⟨⟨v, rfl⟩, ho2, hb2⟩
          have HA : Hid (ModAt w 5 g lr cp (bts x) (bts q) m w2) := HST.out g cp (m + 1) z _ hge (by omega) hz HZL.out H3.out H4.out HC.out ho2 hb2
          clear ho hb ho2 hb2
          go_wp2_with fail
          go_roundw
          case rel => exact ⟨m, by omega, by go_num, HA.out⟩
          case measure => simp [intOf]
      · have hdm : ¬ (d : Int) ≤ (k : Int) - 1 := by omega
        have hdm' : (k : Int) - 1 < (d : Int) := by omega
        obtain ⟨z, hz, hzl, hm, ho, hb⟩ := HFIN.out g cp k _ (by omega) hA
        clear hA hzl
        have HM : Hid (IsMod (bts x) (bts y) (bts z)) := hm
        have hown5 := owns_nb ho hz
        have hrow4 := isB_of_row ho
        go_wp2_with fail
        refine (bnormal_any _ _ _ _ _ hrow4 hz (by omega)).mono ?_
        rintro e w4 ⟨rfl, rfl⟩
        clear hm
        go_wp2_with fail
        go_ret2
        obtain ⟨a5, cp5, hv5, hrow5⟩ := row_of_owns hown5
        simp only [Value.slice.injEq, true_and] at hv5
        obtain ⟨rfl, rfl⟩ := hv5
        first
          | exact ⟨_, HM.out, _, _, rfl, hrow5, hb⟩
          | exact ⟨bts z, HM.out, ⟨_, _, rfl, hrow5, hb⟩⟩

end Go.Proofs.Ytjiaomkjebbkpab
