/-
  Layer 12's laws: the document's Worn; the walk of ScrubWorn.
-/
import Derived.Test.YtgamakejaknagaaGreatScrubFill
import Derived.Test.YtgamakejaknagaaGreatScrubAwake
namespace Go.Proofs.YtgamakejaknagaaGreat
open Go.RowKit Go.Maps
set_option linter.unusedVariables false
set_option maxRecDepth 8192

theorem chipOff_any {G : Geo} {B : CB} {F : Nat → Prop} {N : Nat} {S : CS} (w : World) (h : ChipAt G B F N S w) :
    Calls Tryz.prog 15 #[.pointer (some ⟨B.c, 0, none⟩)] w fun e w' => (∃ r, e = .returned r) ∧ ChipAt G B F N { S with up := false } w' ∧ Turned F w w' := by
  have c11 := h.cell.cells.c11
  have f11 := h.cell.cells.fr 11
  have HS : Hid (ChipAt G B F N { S with up := false } (w.setCell ⟨B.c, 11, none⟩ (.bool false))) := h.set_up false
  have HT : Hid (Turned F w (w.setCell ⟨B.c, 11, none⟩ (.bool false))) := (Turned.refl F w).setCell (p := ⟨B.c, 11, none⟩) (.inl (h.inF _ (by simp [CB.all]))) _
  clear h
  go_enter Tryz.func15, Tryz.ntmps15
  go_wp2
  go_end0
  exact ⟨⟨_, rfl⟩, HS.out, HT.out⟩
set_option maxHeartbeats 1600000 in
theorem refWorn12_any (a : Option Addr) (len cap : Nat) (xs : List Int) (t : Int) (w : World) (hr : Row .i64 w a len cap xs) (hl : len ≤ 1000) :
    Calls Tryz.prog 14 #[.slice a len cap, .int .i64 t] w fun e w' => ∃ v, e = .returned v ∧ w'.ownsRow w.heap.size 3 1 v (wornTo (fun i => decide (t ≤ xs[i]?.getD 0)) len).length ((wornTo (fun i => decide (t ≤ xs[i]?.getD 0)) len).map (Value.int .i64)) ∧ Below w.heap.size w w' := by
  obtain ⟨iq, hiq, hiq0, hiq1, hiq2⟩ := info_parts Tryz.info3
  obtain ⟨C, hC⟩ : ∃ C : Nat → Bool, C = fun i => decide (t ≤ xs[i]?.getD 0) := ⟨_, rfl⟩
  have HC : Hid (C = fun i => decide (t ≤ xs[i]?.getD 0)) := hC
  rw [← hC]
  clear hC
  have HR : Hid (Row .i64 w a len cap xs) := hr
  clear hr
  go_enter Tryz.func14, Tryz.ntmps14
  go_wp2_with fail
  go_loopw [5, 6] (fun u i wr => ∃ k : Nat, k ≤ len ∧ i = .int .i64 (k : Int) ∧ Hid (wr.ownsRow w.heap.size 3 1 u (wornTo C k).length ((wornTo C k).map (Value.int .i64))) ∧ Hid (Below w.heap.size w wr)) (fun _ i _ => len - (RowKit.intOf i).toNat)
  case atStart => exact ⟨0, by omega, rfl, World.ownsRow_nil _ _ _ _, Below.refl _ _⟩
  case round =>
    obtain ⟨k, hk, rfl, OW, Q⟩ := hrel
    have hsz := Q.out.size
    by_cases hlt : k < len
    · have hlt' : (k : Int) < (len : Int) := by omega
      obtain ⟨bb, off, rfl, hbb, hcc⟩ := HR.out.hcell (by omega)
      have ck := hcc k hlt
      rw [← Q.out.cell (p := ⟨bb, off + k, none⟩) hbb] at ck
      have HB : Hid (C k = decide (t ≤ xs[k]?.getD 0)) := by show _ = _; rw [HC.out]
      clear hcc
      generalize xs[k]?.getD 0 = y at *
      by_cases hge : t ≤ y
      · have HM : Hid (wornTo C (k + 1) = wornTo C k ++ [(k : Int)]) := wornTo_hit (by rw [HB.out]; exact decide_eq_true hge)
        have hwl := wornTo_len C k
        have OWB : Hid _ := OW.out.alloc (.cells #[.int .i64 (k : Int)] 3)
        generalize hgl : (wornTo C k).length = lw at *
        have HGL : Hid ((wornTo C k).length = lw) := hgl
        clear hgl
        go_wp2_with (at_builtin; refine wpList_append_own _ rfl _ _ 32 rfl w.heap.size 3 iq (.int .i64 0) 1 8 Tryz.underlying32 hiq hiq0 hiq1 hiq2 rfl (by decide) _ lw _ rfl OWB.out ⟨wr.heap.size, 0, none⟩ 1 1 [.int .i64 (k : Int)] rfl rfl ?c1 ?c2 ?c3 ?c4 ?c5 ?_)
        case c1 => exact cell_one_new wr (.int .i64 (k : Int)) 3
        case c2 => intro u hu; simp at hu; subst hu; rfl
        case c3 => unfold maxLen; omega
        case c4 => omega
        case c5 => simp; omega
        intro u' w3 own3 grow3 _
        have Q3 : Hid (Below w.heap.size w w3) := (Q.out.alloc hsz (.cells #[.int .i64 (k : Int)] 3)).grown grow3 (by simp; omega) (fun i hi => (owns_lt OW.out hi).1)
        have HO : Hid (w3.ownsRow w.heap.size 3 1 u' (wornTo C (k + 1)).length ((wornTo C (k + 1)).map (Value.int .i64))) := by
          show World.ownsRow _ _ _ _ _ _ _
          rw [HM.out, List.length_append, List.map_append, HGL.out]
          exact own3
        clear own3 grow3 OWB OW Q HGL ck
        go_wp2_with fail
        go_roundw
        case rel => exact ⟨k + 1, by omega, by go_num, HO, Q3⟩
        case measure => simp [RowKit.intOf]; omega
      · have HM : Hid (wornTo C (k + 1) = wornTo C k) := wornTo_miss (by rw [HB.out]; exact decide_eq_false hge)
        have HO : Hid (wr.ownsRow w.heap.size 3 1 u5 (wornTo C (k + 1)).length ((wornTo C (k + 1)).map (Value.int .i64))) := by
          show World.ownsRow _ _ _ _ _ _ _
          rw [HM.out]
          exact OW.out
        clear OW
        go_wp2_with fail
        go_roundw
        case rel => exact ⟨k + 1, by omega, by go_num, HO, Q⟩
        case measure => simp [RowKit.intOf]; omega
    · obtain rfl : k = len := by omega
      have hge : ¬ (k : Int) < (k : Int) := by omega
      go_wp2_with fail
      go_ret
      exact ⟨_, rfl, OW.out, Q.out⟩
/-- What Read puts right, of the first n. -/
def cntZ (C : Nat → Nat) (n : Nat) : List Int := (List.range n).map fun i : Nat => ((C i : Nat) : Int)
theorem cntZ_succ (C : Nat → Nat) (n : Nat) : cntZ C (n + 1) = cntZ C n ++ [((C n : Nat) : Int)] := by unfold cntZ; rw [List.range_succ, List.map_append]; rfl
theorem cntZ_len (C : Nat → Nat) (n : Nat) : (cntZ C n).length = n := by unfold cntZ; simp
theorem cntZ_at (C : Nat → Nat) {i n : Nat} (h : i < n) : (cntZ C n)[i]?.getD 0 = ((C i : Nat) : Int) := by unfold cntZ; simp [h]
theorem cnt_worn {G : Geo} {S : CS} {st : List Int} {M : Int → Option (List Int)} {t : Int} {D : Nat → List Int} {len : Nat} (hd : HasD D len len M) :
    wornTo (fun i => decide (t ≤ (cntZ (cntJ G S st M) len)[i]?.getD 0)) len = wornTo (wornB G S st M t) len :=
  wornTo_eq fun j hj => by
    rw [cntZ_at _ hj]
    unfold wornB
    rw [hd.has j hj]
    rfl
set_option maxHeartbeats 3200000 in
set_option maxRecDepth 100000 in
theorem walk_scrubWorn (b p s n f : Int) (a : Option Addr) (len cap : Nat) (D : Nat → List Int) (a2 : Option Addr) (wl cap2 : Nat) (V : Nat → WrV) (t : Int) (w : World) (hr : SRow w a len cap D) (hv : WRow w a2 wl cap2 V) :
    Calls Tryz.prog 3 #[.agg #[.int .i64 b, .int .i64 p, .int .i64 s, .int .i64 n, .int .i64 f], .slice a len cap, .slice a2 wl cap2, .int .i64 t] w fun e w' => e = .returned (.bool true) ∧ Below w.heap.size w w' := by
  obtain ⟨iq, hiq, hiq0, hiq1, hiq2⟩ := info_parts Tryz.info3
  have hcp := hr.hcap
  have hmx := hr.hmax
  have hcp2 := hv.hcap
  have hmx2 := hv.hmax
  have hwm : wl ≤ maxLen := Nat.le_trans hcp2 hmx2
  unfold maxLen at hmx hmx2
  have Q0 : Hid (Below w.heap.size w (w.alloc (.cells #[.int .i64 b, .int .i64 p, .int .i64 s, .int .i64 n, .int .i64 f] 23))) := below_one _ _
  have hgb := gbox_new w 23 b p s n f
  obtain ⟨_, c0, c1, c2, c3, c4⟩ := hgb
  have hgb := gbox_new w 23 b p s n f
  have hr0 := hr.below Q0.out (Nat.le_refl _)
  have hv0 := hv.below Q0.out (Nat.le_refl _)
  clear hr hv
  go_enter Tryz.func3, Tryz.ntmps3
  go_wp2_with fail
  refine (may12_any b p s n f a len cap D a2 wl cap2 _ hr0 hwm).mono ?_
  rintro e w1 ⟨hm, q1⟩
  clear c0 c1 c2 c3 c4
  have Q1 : Hid (Below w.heap.size w w1) := btrans Q0.out q1
  cases hm with
  | no =>
    clear hr0 hv0 hgb
    go_wp2_with fail
    go_ret
    exact ⟨rfl, Q1.out⟩
  | yes G eb ep es en ef hm =>
    subst eb ep es en ef
    have hr1 := hr0.below q1 (Nat.le_refl _)
    have hv1 := hv0.below q1 (Nat.le_refl _)
    obtain ⟨_, c0, c1, c2, c3, c4⟩ := hgb.below q1 (Nat.le_refl _)
    clear hgb hr0 hv0 q1 Q0
    have hfl := fill12_any G a len cap D a2 wl cap2 V w1 hr1 hv1 hm
    clear hv1 hr1
    go_wp2_with fail
    refine hfl.mono ?_
    rintro e w2 ⟨cp, d, sp, rfl, B, rfl, h2⟩
    clear hfl c0 c1 c2 c3 c4
    obtain ⟨F, S, K, M, g, st, nu, h2, hl, _, hd⟩ := h2
    have hb12 := hm.b12
    have hlb := hm.lb
    have hl1 := hm.l1
    have HD : Hid (HasD D len len M) := hd
    have H2 : Hid _ := h2
    have HSL : Hid (st.length = len) := hl
    clear hd hm h2 hl
    obtain ⟨C, hC⟩ : ∃ C, C = cntJ G S st M := ⟨_, rfl⟩
    have HC : Hid (C = cntJ G S st M) := hC
    clear hC
    go_wp2_with fail
    go_loopw [12, 13] (fun u i wr => ∃ k : Nat, k ≤ len ∧ i = .int .i64 (k : Int) ∧ Hid (wr.ownsRow w2.heap.size 3 1 u k ((cntZ C k).map (Value.int .i64))) ∧ Hid (Below w2.heap.size w2 wr)) (fun _ i _ => len - (RowKit.intOf i).toNat)
    case atStart => exact ⟨0, by omega, rfl, World.ownsRow_nil _ _ _ _, Below.refl _ _⟩
    case round =>
      obtain ⟨k, hk, rfl, OW, Q⟩ := hrel
      have hsz := Q.out.size
      by_cases hlt : k < len
      · have hlt' : (k : Int) < (len : Int) := by omega
        have hrd := (LS.below H2.out Q.out).read_cnt k (by have := HSL.out; omega) (HD.out.has k hlt)
        have HCK : Hid (mostW G (S.wr (st[k]?.getD 0)) (pagesOf G.R (D k).length) = C k) := by
          show _ = _
          rw [HC.out]
          unfold cntJ
          rw [HD.out.has k hlt]
          rfl
        rw [HCK.out] at hrd
        have HSU : Hid (cntZ C (k + 1) = cntZ C k ++ [((C k : Nat) : Int)]) := cntZ_succ C k
        clear HCK
        generalize C k = ck at *
        generalize D k = X at *
        go_wp2_with fail
        refine hrd.mono ?_
        rintro e w3 ⟨ra, rc, _, rfl, _, q3⟩
        clear hrd
        have OW2 : Hid (w3.ownsRow w2.heap.size 3 1 u12 k ((cntZ C k).map (Value.int .i64))) := owns_same (w' := w3) OW.out (fun b hb => q3.block b (owns_lt OW.out hb).2)
        have Q2 : Hid (Below w2.heap.size w2 w3) := btrans Q.out q3
        have hsz2 := Q2.out.size
        clear OW Q q3 hsz
        have OWB : Hid _ := OW2.out.alloc (.cells #[.int .i64 (ck : Int)] 3)
        go_wp2_with (at_builtin; refine wpList_append_own _ rfl _ _ 32 rfl w2.heap.size 3 iq (.int .i64 0) 1 8 Tryz.underlying32 hiq hiq0 hiq1 hiq2 rfl (by decide) _ k _ rfl OWB.out ⟨w3.heap.size, 0, none⟩ 1 1 [.int .i64 (ck : Int)] rfl rfl ?c1 ?c2 ?c3 ?c4 ?c5 ?_)
        case c1 => exact cell_one_new w3 (.int .i64 (ck : Int)) 3
        case c2 => intro u hu; simp at hu; subst hu; rfl
        case c3 => unfold maxLen; omega
        case c4 => omega
        case c5 => simp; omega
        intro u' w4 own4 grow4 _
        have Q4 : Hid (Below w2.heap.size w2 w4) := (Q2.out.alloc hsz2 (.cells #[.int .i64 (ck : Int)] 3)).grown grow4 (by simp; omega) (fun i hi => (owns_lt OW2.out hi).1)
        have HO : Hid (w4.ownsRow w2.heap.size 3 1 u' (k + 1) ((cntZ C (k + 1)).map (Value.int .i64))) := by
          show World.ownsRow _ _ _ _ _ _ _
          rw [HSU.out, List.map_append]
          exact own4
        clear own4 grow4 OWB OW2 Q2
        go_wp2_with fail
        go_roundw
        case rel => exact ⟨k + 1, by omega, by go_num, HO, Q4⟩
        case measure => simp [RowKit.intOf]; omega
      · obtain rfl : k = len := by omega
        have hge : ¬ (k : Int) < (k : Int) := by omega
        have H3 : Hid _ := LS.below H2.out Q.out
        obtain ⟨a5, c5, hu5, r5⟩ := row_of_owns OW.out
        subst hu5
        clear OW H2 Q hsz hlt
        by_cases ht : t < 1
        · have hwn := worn_arg sp t ht wr
          have HQ : Hid (Below w.heap.size w wr) := btrans Q1.out (LS.bel H3.out)
          go_wp2_with fail
          refine hwn.mono ?_
          rintro e w6 ⟨rfl, rfl⟩
          clear hwn
          go_wp2_with fail
          refine (awake12_any _).mono ?_
          rintro e w7 ⟨rfl, q7⟩
          have HQ7 : Hid (Below w.heap.size w w7) := btrans HQ.out q7
          clear q7
          go_wp2_with fail
          go_ret
          exact ⟨rfl, HQ7.out⟩
        · have ht1 : 1 ≤ t := by omega
          have hwn := worn_any H3.out t ht1
          rw [HSL.out] at hwn
          have HEQ : Hid (wornTo (fun i => decide (t ≤ (cntZ C k)[i]?.getD 0)) k = wornTo (wornB G S st M t) k) := by
            show _ = _
            rw [HC.out]
            exact cnt_worn HD.out
          generalize wornTo (wornB G S st M t) k = L at *
          generalize hnl : L.length = nl at *
          clear hnl
          go_wp2_with fail
          refine hwn.mono ?_
          rintro e w6 ⟨v6, rfl, own6, q6⟩
          clear hwn
          obtain ⟨a6, c6, rfl, r6⟩ := row_of_owns own6
          clear own6
          have hrw := refWorn12_any a5 k c5 _ t w6 (r5.below q6 (Nat.le_refl _)) (by omega)
          rw [HEQ.out] at hrw
          have H6 : Hid _ := LS.below H3.out q6
          clear r5 q6 H3
          go_wp2_with fail
          refine hrw.mono ?_
          rintro e w7 ⟨v7, rfl, own7, q7⟩
          clear hrw
          obtain ⟨a7, c7, rfl, r7⟩ := row_of_owns own7
          clear own7
          have hi := ints_any _ _ _ _ _ _ _ _ _ (r6.below q7 (Nat.le_refl _)) r7
          rw [decide_eq_true (rfl : L = L)] at hi
          have H7 : Hid _ := LS.below H6.out q7
          clear r6 r7 q7 H6
          go_wp2_with fail
          refine hi.mono ?_
          rintro e w8 ⟨rfl, q8⟩
          clear hi
          have h8 := LS.below H7.out q8
          have hof := chipOff_any w8 h8.at_.chip
          have hin := h8.inb (i := 0) (by have := HSL.out; omega) (HD.out.has 0 (by omega))
          have H8 : Hid _ := h8
          clear h8 q8 H7
          go_wp2_with fail
          refine hof.mono ?_
          rintro e w9 ⟨⟨r9, rfl⟩, hc9, t9⟩
          clear hof
          obtain ⟨h9, q9⟩ := StAt.chipTo (LS.at_ H8.out) hc9 t9
          have hwo := worn_off h9 rfl t ht1 ⟨hin.1, by have := hin.2; omega⟩
          have Q9 : Hid _ := q9
          clear h9 q9 hc9 t9 hin
          go_wp2_with fail
          refine hwo.mono ?_
          rintro e w10 ⟨rfl, q10⟩
          clear hwo
          have HQ10 : Hid (Below w.heap.size w w10) := btrans Q1.out (LS.after H8.out (SDoes.trans Q9.out q10)).1
          clear q10 Q9 H8
          go_wp2_with fail
          refine (awake12_any _).mono ?_
          rintro e w11 ⟨rfl, q11⟩
          have HQ11 : Hid (Below w.heap.size w w11) := btrans HQ10.out q11
          clear q11
          go_wp2_with fail
          go_ret
          exact ⟨rfl, HQ11.out⟩
end Go.Proofs.YtgamakejaknagaaGreat
