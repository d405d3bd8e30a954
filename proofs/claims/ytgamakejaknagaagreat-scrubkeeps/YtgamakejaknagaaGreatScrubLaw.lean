/-
  Layer 12's laws: tiny, small, may, open, has, spoil.
-/
import Derived.Test.YtgamakejaknagaaGreatScrubCode2
namespace Go.Proofs.YtgamakejaknagaaGreat
open Go.RowKit Go.Maps
set_option linter.unusedVariables false
set_option maxRecDepth 8192

theorem tiny12_any (w : World) : Calls Tryz.prog 32 #[] w fun e w' => e = .returned (.agg #[.int .i64 5, .int .i64 3, .int .i64 1, .int .i64 16, .int .i64 1]) ∧ Below w.heap.size w w' := by
  go_enter Tryz.func32, Tryz.ntmps32
  go_wp2
  refine bodyPost_ret (v := .agg #[.int .i64 5, .int .i64 3, .int .i64 1, .int .i64 16, .int .i64 1]) (by simp [results, Tryz.results32, go_sem]) rfl ?_
  exact ⟨rfl, below_one _ _⟩
set_option maxHeartbeats 800000 in
theorem small12_any (b p s n f : Int) (w : World) : Calls Tryz.prog 23 #[.agg #[.int .i64 b, .int .i64 p, .int .i64 s, .int .i64 n, .int .i64 f]] w fun e w' => e = .returned (.bool (small11 b p s n f)) ∧ Below w.heap.size w w' := by
  cases hm : mayG b p s n f
  · have HS : Hid (small11 b p s n f = false) := by show _ = _; unfold small11; rw [hm]; rfl
    go_enter Tryz.func23, Tryz.ntmps23
    go_wp2_with fail
    refine (refMay_any b p s n f _).mono ?_
    rintro e w1 ⟨rfl, q1⟩
    rw [hm]
    go_wp2_with fail
    go_ret
    exact ⟨ret_bool HS.out.symm, btrans (below_one _ _) q1⟩
  · have hm' := hm
    unfold mayG at hm'
    rw [decide_eq_true_iff] at hm'
    obtain ⟨_, _, _, _, h5, h6, h7, h8, _, _, _, _⟩ := hm'
    obtain ⟨s, rfl⟩ := Int.eq_ofNat_of_zero_le (show 0 ≤ s by omega)
    obtain ⟨n, rfl⟩ := Int.eq_ofNat_of_zero_le (show 0 ≤ n by omega)
    have HS : Hid (small11 b p s n f = decide (((s * n : Nat) : Int) ≤ 32 ∧ b ≤ 12 ∧ p ≤ 5)) := by show _ = _; unfold small11; rw [hm, ← Int.natCast_mul, Bool.true_and]
    have hroom := refRoom_any b p f s n (s * n) rfl (by omega) (by omega)
    generalize s * n = R at hroom HS
    go_enter Tryz.func23, Tryz.ntmps23
    go_wp2_with fail
    refine (refMay_any b p s n f _).mono ?_
    rintro e w1 ⟨rfl, q1⟩
    rw [hm]
    have gb := (gbox_new w 23 b p s n f).below q1 (Nat.le_refl _)
    obtain ⟨_, c0, c1, c2, c3, c4⟩ := gb
    have gb := (gbox_new w 23 b p s n f).below q1 (Nat.le_refl _)
    go_wp2_with fail
    refine (hroom _).mono ?_
    rintro e w2 ⟨rfl, q2⟩
    clear c0 c1 c2 c3 c4
    obtain ⟨_, c0, c1, c2, c3, c4⟩ := gb.below q2 (Nat.le_refl _)
    go_wp2_with fail
    all_goals (go_ret; refine ⟨ret_bool ?_, btrans (btrans (below_one _ _) q1) q2⟩; rw [HS.out]; first | (rw [decide_eq_decide]; omega) | (symm; rw [decide_eq_false_iff_not]; omega) | (symm; rw [decide_eq_true_iff]; omega))
/-- What may looks at. -/
structure May12 (G : Geo) (D : Nat → List Int) (len wl : Nat) : Prop where
  b12 : G.b ≤ 12
  l1 : 1 ≤ len
  lb : (len : Int) < G.b
  wl : wl ≤ 30
  fit : ∀ i, i < len → (D i).length ≤ G.C
/-- What may tells. -/
inductive MayIs (b p s n f : Int) (D : Nat → List Int) (len wl : Nat) : Ending → Prop
  | no : MayIs b p s n f D len wl (.returned (.bool false))
  | yes (G : Geo) (eb : b = G.b) (ep : p = G.p) (es : s = G.s) (en : n = G.n) (ef : f = G.f) (h : May12 G D len wl) : MayIs b p s n f D len wl (.returned (.bool true))
set_option maxHeartbeats 3200000 in
theorem may12_any (b p s n f : Int) (a : Option Addr) (len cap : Nat) (D : Nat → List Int) (a2 : Option Addr) (wl cap2 : Nat) (w : World) (hr : SRow w a len cap D) (hwl : wl ≤ maxLen) :
    Calls Tryz.prog 8 #[.agg #[.int .i64 b, .int .i64 p, .int .i64 s, .int .i64 n, .int .i64 f], .slice a len cap, .slice a2 wl cap2] w fun e w' => MayIs b p s n f D len wl e ∧ Below w.heap.size w w' := by
  have hcp := hr.hcap
  have hm := hr.hmax
  unfold maxLen at hm hwl
  cases hs : small11 b p s n f
  · go_enter Tryz.func8, Tryz.ntmps8
    go_wp2_with fail
    refine (small12_any b p s n f _).mono ?_
    rintro e w1 ⟨rfl, q1⟩
    rw [hs]
    go_wp2_with fail
    go_ret
    exact ⟨.no, btrans (below_one _ _) q1⟩
  · obtain ⟨G, rfl, rfl, rfl, rfl, rfl, hb12, hp5, hR⟩ := geo11_ex hs
    by_cases hok : 1 ≤ len ∧ (len : Int) < G.b ∧ wl ≤ 30
    · obtain ⟨hl1, hlb, hw30⟩ := hok
      obtain ⟨rb, off, rfl, hrb, hcell⟩ := hr.at_ (by omega)
      have HC : Hid (∀ i, i < len → w.cell? ⟨rb, off + i, none⟩ = some (.string (strOfNums (D i)))) := hcell
      have HZ := hr.sz
      clear hcell hr
      go_enter Tryz.func8, Tryz.ntmps8
      go_wp2_with fail
      refine (small12_any _ _ _ _ _ _).mono ?_
      rintro e w1 ⟨rfl, q1⟩
      rw [hs]
      have hgb := (gbox_new w 23 G.b G.p G.s G.n G.f).below q1 (Nat.le_refl _)
      obtain ⟨_, c0, c1, c2, c3, c4⟩ := hgb
      have hgb := (gbox_new w 23 G.b G.p G.s G.n G.f).below q1 (Nat.le_refl _)
      have Q1 : Hid (Below w.heap.size w w1) := btrans (below_one _ _) q1
      have HC1 : Hid (∀ i, i < len → w1.cell? ⟨rb, off + i, none⟩ = some (.string (strOfNums (D i)))) := fun i hi => by
        rw [← HC.out i hi]; exact Q1.out.cell (p := ⟨rb, off + i, none⟩) hrb
      have hrb1 : rb < w1.heap.size := Nat.lt_of_lt_of_le hrb Q1.out.size
      clear q1 HC
      have hx1 : ¬ (len : Int) < 1 := by omega
      have hx2 : ¬ G.b ≤ (len : Int) := by omega
      have hx3 : ¬ (30 : Int) < (wl : Int) := by omega
      go_wp2_with fail
      clear c0 c1 c2 c3 c4 hx1 hx2 hx3
      go_loopw [7] (fun i wr => ∃ k : Nat, k ≤ len ∧ i = .int .i64 (k : Int) ∧ Hid (∀ j, j < k → (D j).length ≤ G.C) ∧ Hid (Below w1.heap.size w1 wr)) (fun i _ => len - (RowKit.intOf i).toNat)
      case atStart => exact ⟨0, by omega, rfl, fun j hj => absurd hj (Nat.not_lt_zero j), Below.refl _ _⟩
      case round =>
        obtain ⟨k, hk, rfl, HK, QW⟩ := hrel
        by_cases hlt : k < len
        · have hlt' : (k : Int) < (len : Int) := by omega
          have ck : ∀ w', Below wr.heap.size wr w' → w'.cell? ⟨rb, off + k, none⟩ = some (.string (strOfNums (D k))) := fun w' q => by
            rw [(btrans QW.out q).cell (p := ⟨rb, off + k, none⟩) hrb1]; exact HC1.out k hlt
          have hsz := strOfNums_size (D k)
          have hzk := HZ k
          unfold maxLen at hzk
          have HKK : Hid ((D k).length ≤ G.C → ∀ j, j < k + 1 → (D j).length ≤ G.C) := fun h j hj => by
            rcases Nat.lt_or_ge j k with h1 | h1
            · exact HK.out j h1
            · obtain rfl : j = k := by omega
              exact h
          clear HK
          generalize hDk : D k = X at *
          clear hDk
          go_wp2_with fail
          refine held_begin (by kernel_rfl) ?_
          refine held_reads (rs := [0, 1, 2, 3, 4, 5]) (fuel := 2) (by kernel_rfl) (fun c d v a w h => by cases d <;> exact h) (by kernel_rfl) (Since.drew _) (fun K hK => ?_)
          refine calm_move _ rfl (by rfl) rfl ?_
          go_simp
          refine calm_move _ rfl (by rfl) rfl ?_
          go_simp
          refine calm_do (.pointer (some ⟨rb, off + k, none⟩)) rfl (by rfl) (fun w' hw' => ?_) ?_
          · go_simp
          go_simp
          refine calm_do (.string (strOfNums X)) rfl (by rfl) (fun w' hw' => ?_) ?_
          · have c := ck w' hw'
            go_simp
          go_simp
          refine calm_do (.int .i64 (X.length : Nat)) rfl (by rfl) (fun w' hw' => ?_) ?_
          · go_simp
          go_simp
          refine calm_do (.agg #[.int .i64 G.b, .int .i64 G.p, .int .i64 ((G.s : Nat)), .int .i64 ((G.n : Nat)), .int .i64 ((G.f : Nat))]) rfl (by rfl) (fun w' hw' => ?_) ?_
          · obtain ⟨_, c0, c1, c2, c3, c4⟩ := hgb.below (btrans QW.out hw') (Nat.le_refl _)
            go_simp
          go_simp
          refine calm_nil (hK.out _ ?_)
          clear hK K
          refine held_call (i := 6) (fuel := 1) (by kernel_rfl) rfl (by rfl) (fun K hK => ?_)
          go_simp
          refine (refCap9_any G.gmay wr.drew).mono ?_
          rintro e w4 ⟨rfl, qq0⟩
          have q4 : Since wr w4 := Since.trans (Since.drew _) qq0
          refine hK _ _ q4 ?_
          clear hK K qq0
          refine held_reads (rs := [7]) (fuel := 0) (by kernel_rfl) (fun c d v a w h => by cases d <;> exact h) (by kernel_rfl) (Since.refl _) (fun K hK => ?_)
          go_simp
          refine calm_do (.bool (decide ((G.C : Int) < (X.length : Int)))) rfl (by rfl) (fun w' hw' => ?_) ?_
          · go_simp
          go_simp
          refine calm_nil (hK.out _ ?_)
          clear hK K
          refine wpAnyH_done (by kernel_rfl) ?_ _
          have HQ4 : Hid (Below w1.heap.size w1 w4) := btrans QW.out q4
          have HQ5 : Hid (Below w.heap.size w w4) := btrans Q1.out HQ4.out
          clear ck
          by_cases hC : X.length ≤ G.C
          · have hC' : ¬ (G.C : Int) < (X.length : Int) := by omega
            have HK2 : Hid _ := HKK.out hC
            go_wp2_with fail
            go_roundw
            case rel => exact ⟨k + 1, by omega, by go_num, HK2, HQ4⟩
            case measure => simp [RowKit.intOf]; omega
          · have hC' : (G.C : Int) < (X.length : Int) := by omega
            go_wp2_with fail
            go_ret
            exact ⟨.no, HQ5.out⟩
        · obtain rfl : k = len := by omega
          have hge : ¬ (k : Int) < (k : Int) := by omega
          have HQ5 : Hid (Below w.heap.size w wr) := btrans Q1.out QW.out
          go_wp2_with fail
          go_ret
          exact ⟨.yes G rfl rfl rfl rfl rfl ⟨hb12, hl1, hlb, hw30, HK.out⟩, HQ5.out⟩
    · go_enter Tryz.func8, Tryz.ntmps8
      go_wp2_with fail
      refine (small12_any _ _ _ _ _ _).mono ?_
      rintro e w1 ⟨rfl, q1⟩
      rw [hs]
      obtain ⟨_, c0, c1, c2, c3, c4⟩ := (gbox_new w 23 G.b G.p G.s G.n G.f).below q1 (Nat.le_refl _)
      have Q1 : Hid (Below w.heap.size w w1) := btrans (below_one _ _) q1
      clear q1
      go_wp2_with fail
      all_goals first | (exfalso; omega) | (go_ret; exact ⟨.no, Q1.out⟩)
set_option maxHeartbeats 800000 in
theorem open12_any (G : Geo) (L : Nat) (h1 : 1 ≤ L) (hL : L ≤ 64) (w : World) :
    Calls Tryz.prog 25 #[.agg #[.int .i64 G.b, .int .i64 G.p, .int .i64 ((G.s : Nat)), .int .i64 ((G.n : Nat)), .int .i64 ((G.f : Nat))], .int .i64 (L : Int)] w fun e w' => ∃ B F d s g st nu, e = .returned (.tuple #[.pointer (some ⟨B.c, 0, none⟩), .pointer (some ⟨d, 0, none⟩), .pointer (some ⟨s, 0, none⟩)]) ∧ st.length = L ∧ LS w G B F 0 (CS.fresh G.L [] 0) (fun _ => .no) (fun _ => none) 0 d s g st nu w' := by
  have hgb := gbox_new w 23 G.b G.p G.s G.n G.f
  obtain ⟨_, c0, c1, c2, c3, c4⟩ := hgb
  have Q0 : Hid (Below w.heap.size w (w.alloc (.cells #[.int .i64 G.b, .int .i64 G.p, .int .i64 (G.s : Nat), .int .i64 (G.n : Nat), .int .i64 (G.f : Nat)] 23))) := below_one _ _
  go_enter Tryz.func25, Tryz.ntmps25
  go_wp2_with fail
  refine (chipNew_nil G _).mono ?_
  rintro e w2 ⟨cc, rfl, hn⟩
  obtain ⟨B, F, ⟨rfl, hlim⟩, hh⟩ := newChip_lim Q0.out hn
  have hcl := cl_new hh hlim
  clear hn hh c0 c1 c2 c3 c4 Q0
  go_wp2_with fail
  refine (drvNew_any B.c w2).mono ?_
  rintro e w3 ⟨d, hd, rfl, db, q3⟩
  have hfd : ¬ F d := fun hf => by have := hcl.chip.fresh d hf; omega
  have hop := (hcl.below q3).opened rfl db hfd L h1 hL (fun _ _ => rfl)
  clear hcl q3 db
  go_wp2_with fail
  refine hop.mono ?_
  rintro e w4 ⟨s, g, st, nu, ⟨hs, hg, hl⟩, rfl, h4, q4⟩
  have H4 : Hid _ := h4
  clear hop q4 hs hg h4
  go_wp2_with fail
  go_ret3
  exact ⟨B, F, d, s, g, st, nu, rfl, hl, H4.out⟩
section
variable {W w w' w1 : World} {G : Geo} {B : CB} {F F' : Nat → Prop} {N N' : Nat} {S S' S1 : CS} {K K' : Int → BK} {M M' : Int → Option (List Int)} {c : Int} {d s g : Nat} {st st' st1 : List Int} {nu nu' : Int}
set_option maxHeartbeats 3200000 in
theorem has12_any (h : LS W G B F N S K M c d s g st nu w) {a : Option Addr} {len cap : Nat} {D : Nat → List Int} (hr : SRow w a len cap D) (hl : st.length = len) (hd : HasD D len len M) :
    Calls Tryz.prog 17 #[.pointer (some ⟨s, 0, none⟩), .slice a len cap] w fun e w' => e = .returned (.bool true) ∧ Below w.heap.size w w' := by
  have hcp := hr.hcap
  have hm := hr.hmax
  unfold maxLen at hm
  have HS : Hid _ := h
  have hlen := h.len
  obtain ⟨rb, off, rfl, hrb, hcell⟩ := hr.at_ (by omega)
  have HC : Hid (∀ i, i < len → w.cell? ⟨rb, off + i, none⟩ = some (.string (strOfNums (D i)))) := hcell
  have HD : Hid (HasD D len len M) := hd
  have HSL : Hid (st.length = len) := hl
  clear hcell hr h hd
  go_enter Tryz.func17, Tryz.ntmps17
  go_wp2_with fail
  go_loopw [5] (fun i wr => ∃ m : Nat, m ≤ len ∧ i = .int .i64 (m : Int) ∧ Hid (Below w.heap.size w wr)) (fun i _ => len - (RowKit.intOf i).toNat)
  case atStart => exact ⟨0, by omega, rfl, Below.refl _ _⟩
  case round =>
    obtain ⟨m, hmm, rfl, Q⟩ := hrel
    by_cases hml : m < len
    · have hml' : (m : Int) < (len : Int) := by omega
      have hrd := (LS.below HS.out Q.out).read_cnt m (by have := HSL.out; omega) (HD.out.has m hml)
      have c5 := HC.out m hml
      generalize mostW G (S.wr (st[m]?.getD 0)) (pagesOf G.R (D m).length) = kk at *
      generalize D m = X at *
      go_wp2_with fail
      refine hrd.mono ?_
      rintro e w5 ⟨ra, rc, _, rfl, rw5, q5⟩
      rw [← (btrans Q.out q5).cell (p := ⟨rb, off + m, none⟩) hrb] at c5
      have hrb5 : rb < w5.heap.size := by have := (btrans Q.out q5).size; omega
      have HQ5 : Hid (Below w.heap.size w w5.drew) := (btrans Q.out q5).drew
      clear hrd Q q5
      go_wp2_with fail
      refine held_begin (by kernel_rfl) ?_
      refine held_reads (rs := [0, 1, 2, 3, 4, 5, 6, 7, 8, 9, 10]) (fuel := 0) (by kernel_rfl) (fun c d v a w h => by cases d <;> exact h) (by kernel_rfl) (Since.drew _) (fun K hK => ?_)
      refine calm_move _ rfl (by rfl) rfl ?_
      go_simp
      refine calm_do (.bool false) rfl (by rfl) (fun w' hw' => ?_) ?_
      · go_simp
      go_simp
      refine calm_move _ rfl (by rfl) rfl ?_
      go_simp
      refine calm_move _ rfl (by rfl) rfl ?_
      go_simp
      refine calm_do (Value.string (strOfNums X)) rfl (by rfl) (fun w' hw' => ?_) ?_
      · have kz := conv_row (P := Tryz.prog) Tryz.underlying33 Tryz.underlying5 Tryz.underlying9 (rw5.below hw' (Nat.le_refl _))
        go_simp
      go_simp
      refine calm_move _ rfl (by rfl) rfl ?_
      go_simp
      refine calm_move _ rfl (by rfl) rfl ?_
      go_simp
      refine calm_do (.pointer (some ⟨rb, off + m, none⟩)) rfl (by rfl) (fun w' hw' => ?_) ?_
      · go_simp
      go_simp
      refine calm_do (Value.string (strOfNums X)) rfl (by rfl) (fun w' hw' => ?_) ?_
      · have cz := (show w'.cell? ⟨rb, off + m, none⟩ = _ from (hw'.cell (p := ⟨rb, off + m, none⟩) hrb5).trans c5)
        go_simp
      go_simp
      refine calm_do (.bool false) rfl (by rfl) (fun w' hw' => ?_) ?_
      · go_simp
      go_simp
      refine calm_do (.bool false) rfl (by rfl) (fun w' hw' => ?_) ?_
      · go_simp
      go_simp
      refine calm_nil (hK.out _ ?_)
      clear hK K
      refine wpAnyH_done (by kernel_rfl) ?_ _
      clear c5 rw5
      generalize w5.drew = w6 at *
      go_wp2_with fail
      go_roundw
      case rel => exact ⟨m + 1, by omega, by go_num, HQ5⟩
      case measure => simp [RowKit.intOf]; omega
    · obtain rfl : m = len := by omega
      have hge : ¬ (m : Int) < (m : Int) := by omega
      go_wp2_with fail
      go_ret
      exact ⟨rfl, Q.out⟩
/-- What is picked is what stands. -/
theorem LS.picks (h : LS W G B F N S K M c d s g st nu w) : pickL st.length (fndL G S K) = st := by
  have hl := h.len
  have hp := pick_ok (L := st.length) h.cl.hold h.up hl.2
  have hpl := pickL_length st.length (fndL G S K)
  apply List.ext_getElem hpl
  intro j h1 h2
  have e1 : (pickL st.length (fndL G S K))[j]?.getD 0 = (pickL st.length (fndL G S K))[j] := by rw [List.getElem?_eq_getElem h1]; rfl
  have e2 : st[j]?.getD 0 = st[j] := by rw [List.getElem?_eq_getElem h2]; rfl
  rw [← e1, ← e2]
  rcases hp j h1 with ⟨m1, p1⟩ | ⟨D1, n1, m1, p1⟩
  · rcases h.stands h2 with ⟨m2, p2⟩ | ⟨D2, n2, m2, p2⟩
    · rw [p1, p2]
    · rw [m1] at m2; cases m2
  · rcases h.stands h2 with ⟨m2, p2⟩ | ⟨D2, n2, m2, p2⟩
    · rw [m1] at m2; cases m2
    · exact (p1.one p2).1
set_option maxHeartbeats 1600000 in
theorem spoil12_yes (h : LS W G B F N S K M c d s g st nu w) (j : Nat) (hj : j < st.length) {D : List Int} (hm : M j = some D) (y : Int) (hy : I64 y) (a : Option Addr) (len cap : Nat) (ps : List Int) (hr : OffS F s g .i64 w a len cap ps) (hps : ps.length ≤ G.f ∧ ∀ q ∈ ps, 0 ≤ q ∧ q < ((8 * G.n + 13 * G.f : Nat) : Int)) (hN : N < 100000000) :
    Calls Tryz.prog 27 #[.pointer (some ⟨B.c, 0, none⟩), .pointer (some ⟨d, 0, none⟩), .int .i64 (st.length : Int), .int .i64 (j : Int), .int .i64 y, .slice a len cap] w fun e w' => (∃ r, e = .returned r) ∧ ∃ F', LS W G B F' (N + 2) (S.doFlip G (st[j]?.getD 0) y ps) K M c d s g st nu w' ∧ SDoes F s g w F' w' := by
  have hl := h.len
  have hfl := fndL_len G S K
  have hnum := fndL_num h.cl.inv h.up
  have hgd : 0 ≤ st[j]?.getD 0 ∧ st[j]?.getD 0 < G.b := by
    rcases h.stands hj with ⟨e, _⟩ | ⟨D', n, _, hb⟩
    · rw [hm] at e; cases e
    · exact hb.good.1
  have hgb := G.ok.hb
  obtain ⟨x, hx⟩ : ∃ x, st[j]?.getD 0 = x := ⟨_, rfl⟩
  rw [hx] at hgd ⊢
  have HX : Hid (st[j]?.getD 0 = x) := hx
  clear hx
  have hxi : I64 x := by unfold I64; omega
  have hscan := scan_yes w h.at_.db h.at_.chip h.up (fun x => foundOf x (K x)) (fun x hx o' ho => by
    obtain ⟨i, rfl, hi, _, hb⟩ := goodTo_mem hx
    exact look_is ⟨by omega, by omega⟩ h.up hb (h.cl.inv i (by omega) (by omega)) ho)
  change Calls Tryz.prog 35 #[.pointer (some ⟨d, 0, none⟩)] w fun e w' => ∃ v, e = .returned (.tuple #[v, .int .i64 0]) ∧ w'.ownsRow w.heap.size 103 5 v (fndL G S K).length (fcells (fndL G S K)) ∧ Below w.heap.size w w' at hscan
  have HP : Hid (pickL st.length (fndL G S K) = st) := h.picks
  have HS : Hid _ := h
  clear h hm
  generalize fndL G S K = fs at *
  go_enter Tryz.func27, Tryz.ntmps27
  go_wp2_with fail
  refine hscan.mono ?_
  rintro e w2 ⟨v, rfl, own, q2⟩
  obtain ⟨a2, cap2, rfl, fr⟩ := frow_of_owns own
  clear own hscan
  have hn := attPick_yes st.length hl.1 hl.2 a2 fs.length cap2 fs w2 fr (by omega) hnum
  have Q2 : Hid _ := q2
  clear fr q2 hnum
  rw [HP.out] at hn
  generalize fs.length = n at *
  go_wp2_with fail
  refine hn.mono ?_
  rintro e w3 ⟨g3, rfl, r3, q3⟩
  clear hn
  have h3 := (LS.below HS.out Q2.out).below q3
  have hr3 := (hr.step (SDoes.of_below Q2.out)).step (SDoes.of_below q3)
  have hfl := h3.flip x y hxi hy a len cap ps hr3.row (fun h0 x hx hf => hr3.off h0 x hx (.inl hf)) hps hN
  have SD3 : Hid (SDoes F s g w F w3) := SDoes.of_below (btrans Q2.out q3)
  obtain ⟨b3, off3, ea3, _, hc3⟩ := r3.hcell (by omega)
  cases ea3
  have ca := hc3 j hj
  rw [Nat.zero_add, HX.out] at ca
  have hj' : (j : Int) < (st.length : Int) := by omega
  have hx0 : 0 ≤ x := hgd.1
  clear h3 hr3 hr hc3 r3 q3 Q2 HS HP hxi hgd
  generalize st.length = L at *
  go_wp2_with fail
  refine hfl.mono ?_
  rintro e w4 ⟨⟨r, rfl⟩, F4, h4, q4⟩
  clear hfl
  have H4 : Hid _ := h4
  have SD4 : Hid _ := SDoes.trans SD3.out q4
  clear h4 q4 SD3
  go_wp2_with fail
  go_end0
  exact ⟨⟨_, rfl⟩, F4, H4.out, SD4.out⟩
set_option maxHeartbeats 1600000 in
theorem spoil12_no (h : LS W G B F N S K M c d s g st nu w) (j : Int) (hj : ¬ (0 ≤ j ∧ j < (st.length : Int))) (y : Int) (a : Option Addr) (len cap : Nat) :
    Calls Tryz.prog 27 #[.pointer (some ⟨B.c, 0, none⟩), .pointer (some ⟨d, 0, none⟩), .int .i64 (st.length : Int), .int .i64 j, .int .i64 y, .slice a len cap] w fun e w' => (∃ r, e = .returned r) ∧ Below w.heap.size w w' := by
  have hl := h.len
  have hfl := fndL_len G S K
  have hnum := fndL_num h.cl.inv h.up
  have hscan := scan_yes w h.at_.db h.at_.chip h.up (fun x => foundOf x (K x)) (fun x hx o' ho => by
    obtain ⟨i, rfl, hi, _, hb⟩ := goodTo_mem hx
    exact look_is ⟨by omega, by omega⟩ h.up hb (h.cl.inv i (by omega) (by omega)) ho)
  change Calls Tryz.prog 35 #[.pointer (some ⟨d, 0, none⟩)] w fun e w' => ∃ v, e = .returned (.tuple #[v, .int .i64 0]) ∧ w'.ownsRow w.heap.size 103 5 v (fndL G S K).length (fcells (fndL G S K)) ∧ Below w.heap.size w w' at hscan
  clear h
  generalize fndL G S K = fs at *
  go_enter Tryz.func27, Tryz.ntmps27
  go_wp2_with fail
  refine hscan.mono ?_
  rintro e w2 ⟨v, rfl, own, q2⟩
  obtain ⟨a2, cap2, rfl, fr⟩ := frow_of_owns own
  clear own hscan
  have hn := attPick_yes st.length hl.1 hl.2 a2 fs.length cap2 fs w2 fr (by omega) hnum
  clear fr hnum
  generalize fs.length = n at *
  generalize st.length = L at *
  go_wp2_with fail
  refine hn.mono ?_
  rintro e w3 ⟨g3, rfl, _, q3⟩
  clear hn
  have Q3 : Hid (Below w.heap.size w w3) := btrans q2 q3
  clear q2 q3
  by_cases h0 : 0 ≤ j
  · have hge : ¬ j < (L : Int) := fun h => hj ⟨h0, h⟩
    clear hj
    go_wp2_with fail
    go_end0
    exact ⟨⟨_, rfl⟩, Q3.out⟩
  · clear hj
    go_wp2_with fail
    go_end0
    exact ⟨⟨_, rfl⟩, Q3.out⟩
end
end Go.Proofs.YtgamakejaknagaaGreat
