/-
  The document's answer of layer 7 (casemateref07): Erase. (Written by tools/gen/chip_ref4.py.)
-/
import Derived.Test.YtggpgdaacbmmdaaGreatChipRef3
namespace Go.Proofs.YtggpgdaacbmmdaaGreat
open Go Go.RowKit Go.Maps
set_option linter.unusedVariables false
set_option maxRecDepth 8192

theorem Geo.pn7 (G : Geo) : G.p = ((G.p.toNat : Nat) : Int) := by have := G.ok.hp; omega
theorem row_none (k : IntKind) (w : World) : Row k w none 0 0 [] := ⟨rfl, Nat.le_refl _, by unfold maxLen; omega, fun _ => rfl, fun h => by omega⟩
theorem Geo.pp7 (G : Geo) : 1 ≤ G.p.toNat ∧ G.p.toNat ≤ 64 := by have := G.ok.hp; omega
theorem isB_ff (L : Nat) : IsB (List.replicate L 255) := fun v hv => by rw [List.mem_replicate] at hv; rw [hv.2]; decide

section
variable {G : Geo} {R : RB} {F : Nat → Prop} {S : CS}
theorem wipe_page (S : CS) (L : Nat) (x : Int) (k : Nat) : (S.wipe L x k).setPage x (k : Int) (List.replicate L 255) (fun _ => false) = S.wipe L x (k + 1) := CS.wipe_step S L x k

set_option maxHeartbeats 3200000 in
theorem ref7Erase_any (x : Int) (w : World) (h : RefAt G R F S w) :
    Calls Tryz.prog 69 #[.pointer (some ⟨R.c, 0, none⟩), .int .i64 x] w fun e w' => e = .returned (.int .i64 (S.doErase G x).1) ∧ RDoes G R F w (S.doErase G x).2 w' := by
  cases hu : S.up
  · have HR : Hid (S.doErase G x = (70, S)) := by show _ = _; unfold CS.doErase; rw [if_pos hu]
    rw [HR.out]
    clear HR
    have c7 := h.cell.cells.c7
    rw [hu] at c7
    go_enter Tryz.func69, Tryz.ntmps69
    go_wp2_with fail
    go_ret
    exact ⟨rfl, RDoes.of w h (Turned.refl _ _)⟩
  cases hb : inB0 x G.b
  · have HR : Hid (S.doErase G x = (1, S)) := by show _ = _; unfold CS.doErase; rw [if_neg (by rw [hu]; simp), if_pos hb]
    rw [HR.out]
    clear HR
    have c7 := h.cell.cells.c7
    rw [hu] at c7
    go_enter Tryz.func69, Tryz.ntmps69
    go_wp2_with fail
    refine (ref7Has_any x _ h.cell).mono ?_
    rw [hb]
    rintro e w1 ⟨rfl, rfl⟩
    clear c7
    go_wp2_with fail
    go_ret
    exact ⟨rfl, RDoes.of w h (Turned.refl _ _)⟩
  have hci := S.counted_is h.ah.1
  have hsm := hci.same
  have hke := hsm.2.2.2.2.2.2
  have hwk := hsm.2.2.2.1
  clear hsm
  obtain ⟨i, rfl, hi⟩ := inB0_nat hb
  have hiI : (i : Int) < ((G.b.toNat : Nat) : Int) := by omega
  have hL := G.ok.L2
  have hPP := G.pp7
  have hpn := G.pn7
  have HPN : Hid (G.p = ((G.p.toNat : Nat) : Int)) := hpn
  by_cases hc : S.ah = 1
  · rw [decide_eq_true hc] at hci
    have HR : Hid (S.doErase G (i : Int) = (70, S.counted.wipe G.L (i : Int) (keptN S.ke G.p.toNat))) := by show _ = _; unfold CS.doErase; rw [if_neg (by rw [hu]; simp), if_neg (by rw [hb]; simp), if_pos hc]
    rw [HR.out]
    clear HR
    generalize S.counted = S1 at *
    have hkl : keptN S.ke G.p.toNat ≤ G.p.toNat := by unfold keptN; omega
    obtain ⟨kk, hkd⟩ : ∃ kk, keptN S.ke G.p.toNat = kk := ⟨_, rfl⟩
    rw [hkd] at hkl ⊢
    have HKD : Hid (keptN S.ke G.p.toNat = kk) := hkd
    clear hkd
    have c7 := h.cell.cells.c7
    rw [hu] at c7
    go_enter Tryz.func69, Tryz.ntmps69
    go_wp2_with fail
    refine (ref7Has_any (i : Int) _ h.cell).mono ?_
    rw [hb]
    rintro e w1 ⟨rfl, rfl⟩
    clear c7
    have c5 := h.cell.cells.c5
    have H2 : Hid (RefAt G R F S w) := h
    clear h
    generalize hBN : G.b.toNat = Bn at c5 hiI
    have HBN : Hid (G.b.toNat = Bn) := hBN
    clear hBN hpn
    go_wp2_with fail
    clear c5
    refine (ref7Deed_any _ H2.out hci).mono ?_
    rintro e w3 ⟨rfl, h3, t3⟩
    clear H2
    have c9 := h3.cell.cells.c9
    have c1 := h3.cell.cells.c1
    rw [hke] at c9
    have hcm := ref7Clamp_any S.ke G.p.toNat w3 (by omega)
    rw [HKD.out, ← HPN.out] at hcm
    generalize S.ke = ke at *
    go_wp2_with fail
    clear c9 c1
    refine hcm.mono ?_
    rintro e w4 ⟨rfl, rfl⟩
    clear hcm
    go_wp2_with fail
    have HSTART : Hid (RDoes G R F w (S1.wipe G.L (i : Int) 0) w3) := by rw [CS.wipe_zero]; exact RDoes.of w h3 t3
    clear h3 t3
    generalize hPn : G.p.toNat = Pn at *
    go_loopw [8] (fun ii wr => ∃ n : Nat, n ≤ kk ∧ ii = .int .i64 (n : Int) ∧ Hid (RDoes G R F w (S1.wipe G.L (i : Int) n) wr)) (fun ii _ => kk - (RowKit.intOf ii).toNat)
    case atStart => exact ⟨0, Nat.zero_le _, rfl, HSTART⟩
    case round =>
      obtain ⟨n, hn, rfl, hD⟩ := hrel
      by_cases hlt : n < kk
      · have hlt' : (n : Int) < (kk : Int) := by omega
        have hltP : (n : Int) < (Pn : Int) := by omega
        have hn2 : n < G.p.toNat := by omega
        obtain ⟨F1, h1, t1, hf1⟩ := hD.out
        have hcapi := (h1.blocks i hi).cap
        rw [hPn] at hcapi
        have HC : Hid (∀ w', Turned (fun k => k = R.pb i) wr w' → w'.cell? ⟨R.bb, i * 4, none⟩ = some (.slice (some ⟨R.pb i, 0, none⟩) Pn (R.pcap i)) ∧ w'.cell? ⟨R.c, 0, none⟩ = some (.int .i64 G.b) ∧ w'.cell? ⟨R.c, 1, none⟩ = some (.int .i64 G.p) ∧ w'.cell? ⟨R.c, 2, none⟩ = some (.int .i64 G.s) ∧ w'.cell? ⟨R.c, 3, none⟩ = some (.int .i64 G.n) ∧ w'.cell? ⟨R.c, 4, none⟩ = some (.int .i64 G.f)) := fun w' hw' => by
          have cc := h1.cell.cells
          have hb1 := hw'.block R.bb (h1.fresh _ (h1.inF _ (.inr (.inl rfl)))) (Ne.symm (h1.ne2 i hi).2)
          have hb2 := hw'.block R.c h1.lt (Ne.symm (h1.ne2 i hi).1)
          have d0 := (h1.blocks i hi).c0
          rw [hPn] at d0
          exact ⟨(cell_same hb1 _).trans d0, (cell_same hb2 _).trans cc.c0, (cell_same hb2 _).trans cc.c1, (cell_same hb2 _).trans cc.c2, (cell_same hb2 _).trans cc.c3, (cell_same hb2 _).trans cc.c4⟩
        have HPn : Hid (G.p.toNat = Pn) := hPn
        clear hPn hD
        go_wp2_with fail
        refine held_open (Turned (fun k => k = R.pb i) wr) (by kernel_rfl) ?_
        refine held_reads (rs := [0, 1, 2, 3, 4, 5, 6, 7, 8]) (fuel := 4) (by kernel_rfl) (fun c d v a w h => by cases d <;> exact h) (by kernel_rfl) ((Turned.refl _ _).drew) (fun K hK => ?_)
        refine calm_move _ rfl (by rfl) rfl ?_
        go_simp
        refine calm_do (.pointer (some ⟨R.bb, i * 4, none⟩)) rfl (by rfl) (fun w' hw' => ?_) ?_
        · go_simp
        go_simp
        refine calm_do (.pointer (some ⟨R.bb, i * 4, none⟩)) rfl (by rfl) (fun w' hw' => ?_) ?_
        · go_simp
        go_simp
        refine calm_do (.slice (some ⟨R.pb i, 0, none⟩) Pn (R.pcap i)) rfl (by rfl) (fun w' hw' => ?_) ?_
        · have d0 := (HC.out w' hw').1
          go_simp
        go_simp
        refine calm_move _ rfl (by rfl) rfl ?_
        go_simp
        refine calm_move _ rfl (by rfl) rfl ?_
        go_simp
        refine calm_do (.pointer (some ⟨R.c, 0, none⟩)) rfl (by rfl) (fun w' hw' => ?_) ?_
        · go_simp
        go_simp
        refine calm_do (.pointer (some ⟨R.c, 0, none⟩)) rfl (by rfl) (fun w' hw' => ?_) ?_
        · go_simp
        go_simp
        refine calm_do (.agg #[.int .i64 G.b, .int .i64 G.p, .int .i64 ((G.s : Nat)), .int .i64 ((G.n : Nat)), .int .i64 ((G.f : Nat))]) rfl (by rfl) (fun w' hw' => ?_) ?_
        · obtain ⟨_, c0, c1, c2, c3, c4⟩ := HC.out w' hw'
          go_simp
        go_simp
        refine calm_nil (hK.out _ ?_)
        clear hK K
        refine held_op (i := 9) (fuel := 3) (by kernel_rfl) rfl (by rfl) (fun K hK => ?_)
        go_simp
        refine (refRaw_any G.ok _).mono ?_
        rintro e v2 ⟨rfl, q2⟩
        have s2 : Turned (fun k => k = R.pb i) wr v2 := (Turned.refl _ _).drew.trans (Turned.of_below _ q2)
        refine hK _ _ s2 ?_
        clear hK K
        refine held_op (i := 10) (fuel := 2) (by kernel_rfl) rfl (by rfl) (fun K hK => ?_)
        go_simp
        refine (ref7Blank_any G.L (by omega) _).mono ?_
        rintro e v3 ⟨q, hq, rfl, hbq, q3⟩
        have s3 : Turned (fun k => k = R.pb i) wr v3 := s2.trans (Turned.of_below _ q3)
        refine hK _ _ s3 ?_
        clear hK K
        refine held_reads (rs := [11]) (fuel := 1) (by kernel_rfl) (fun c d v a w h => by cases d <;> exact h) (by kernel_rfl) (s3) (fun K hK => ?_)
        go_simp
        refine calm_do (.pointer (some ⟨R.pb i, n * 2, none⟩)) rfl (by rfl) (fun w' hw' => ?_) ?_
        · have h1 := hltP
          have h2 := hcapi
          go_simp
        go_simp
        refine calm_nil (hK.out _ ?_)
        clear hK K
        refine held_op (i := 12) (fuel := 0) (by kernel_rfl) rfl (by rfl) (fun K hK => ?_)
        have qq : Below wr.heap.size wr v3 := btrans (btrans ((Below.refl _ _).drew) q2) q3
        have h4 := h1.below qq
        obtain ⟨_, _, _, _, _, _, y0, y1, _⟩ := h4.pages i hi n hn2
        have g0f := h4.pfr i hi (n * 2)
        have g1f := h4.pfr i hi (n * 2 + 1)
        have hq1 : ¬ F1 q := fun hf => by have := h1.fresh q hf; have := q2.size; have hd : wr.drew.heap.size = wr.heap.size := rfl; omega
        have hrow := hbq.row (L := G.L) (by simp) (by unfold maxLen; omega)
        have h5 := h4.putPage hi hn2 q G.L _ hq1 hbq.lt hrow (isB_ff G.L) none 0 0 [] (row_none _ _) (fun hh => by omega) List.nodup_nil (fun _ hv => by cases hv) (fun _ => false) (by simp)
        rw [wipe_page] at h5
        have hpF := h4.inF _ (.inr (.inr ⟨i, hi, rfl⟩))
        have t5 := (((Turned.of_below F1 qq).setCell (p := ⟨R.pb i, n * 2, none⟩) (.inl hpF) (.slice (some ⟨q, 0, none⟩) G.L G.L)).setCell (p := ⟨R.pb i, n * 2 + 1, none⟩) (.inl hpF) (.slice none 0 0))
        have HD : Hid (RDoes G R F w (S1.wipe G.L (i : Int) (n + 1)) ((v3.setCell ⟨R.pb i, n * 2, none⟩ (.slice (some ⟨q, 0, none⟩) G.L G.L)).setCell ⟨R.pb i, n * 2 + 1, none⟩ (.slice none 0 0))) := RDoes.after t1 hf1 ⟨_, h5, t5, fun k hk => hk.imp id (fun e => by rw [e]; have := qq.size; have := q2.size; have hd : wr.drew.heap.size = wr.heap.size := rfl; omega)⟩
        have s5 : Turned (fun k => k = R.pb i) wr ((v3.setCell ⟨R.pb i, n * 2, none⟩ (.slice (some ⟨q, 0, none⟩) G.L G.L)).setCell ⟨R.pb i, n * 2 + 1, none⟩ (.slice none 0 0)) := (s3.setCell (p := ⟨R.pb i, n * 2, none⟩) (.inl rfl) _).setCell (p := ⟨R.pb i, n * 2 + 1, none⟩) (.inl rfl) _
        clear h5 t5 h4 h1 t1 hrow hbq s3 s2
        go_simp
        refine hK _ _ s5 ?_
        clear hK K s5
        refine wpAnyH_done (by kernel_rfl) ?_ _
        go_wp2_with fail
        go_roundw
        case rel => exact ⟨n + 1, by omega, by go_num, HD⟩
        case measure => simp [RowKit.intOf]; omega
      · have e : n = kk := by omega
        rw [e] at hD
        have hge : ¬ (n : Int) < (kk : Int) := by omega
        go_wp2_with fail
        go_ret
        exact ⟨rfl, hD.out⟩
  
  · rw [decide_eq_false hc] at hci
    cases hw : S.wk (i : Int)
    case true =>
      have HR : Hid (S.doErase G (i : Int) = (72, S.counted)) := by show _ = _; unfold CS.doErase; rw [if_neg (by rw [hu]; simp), if_neg (by rw [hb]; simp), if_neg hc, if_pos hw]
      rw [HR.out]
      clear HR
      generalize S.counted = S1 at *
      have c7 := h.cell.cells.c7
      rw [hu] at c7
      go_enter Tryz.func69, Tryz.ntmps69
      go_wp2_with fail
      refine (ref7Has_any (i : Int) _ h.cell).mono ?_
      rw [hb]
      rintro e w1 ⟨rfl, rfl⟩
      clear c7
      have c5 := h.cell.cells.c5
      have H2 : Hid (RefAt G R F S w) := h
      clear h
      generalize hBN : G.b.toNat = Bn at c5 hiI
      have HBN : Hid (G.b.toNat = Bn) := hBN
      clear hBN hpn
      go_wp2_with fail
      clear c5
      refine (ref7Deed_any _ H2.out hci).mono ?_
      rintro e w3 ⟨rfl, h3, t3⟩
      clear H2
      have d3 := (h3.blocks i hi).c3
      rw [hwk] at d3
      rw [hw] at d3
      have HD : Hid (RDoes G R F w S1 w3) := RDoes.of w h3 t3
      clear h3 t3
      go_wp2_with fail
      go_ret
      exact ⟨rfl, HD.out⟩
    have HR : Hid (S.doErase G (i : Int) = (0, (S.counted.wipe G.L (i : Int) G.p.toNat).next0 (i : Int))) := by show _ = _; unfold CS.doErase; rw [if_neg (by rw [hu]; simp), if_neg (by rw [hb]; simp), if_neg hc, if_neg (by rw [hw]; simp)]
    rw [HR.out]
    clear HR
    generalize S.counted = S1 at *
    have c7 := h.cell.cells.c7
    rw [hu] at c7
    go_enter Tryz.func69, Tryz.ntmps69
    go_wp2_with fail
    refine (ref7Has_any (i : Int) _ h.cell).mono ?_
    rw [hb]
    rintro e w1 ⟨rfl, rfl⟩
    clear c7
    have c5 := h.cell.cells.c5
    have H2 : Hid (RefAt G R F S w) := h
    clear h
    generalize hBN : G.b.toNat = Bn at c5 hiI
    have HBN : Hid (G.b.toNat = Bn) := hBN
    clear hBN hpn
    go_wp2_with fail
    clear c5
    refine (ref7Deed_any _ H2.out hci).mono ?_
    rintro e w3 ⟨rfl, h3, t3⟩
    clear H2
    have d3 := (h3.blocks i hi).c3
    rw [hwk] at d3
    rw [hw] at d3
    have c1 := h3.cell.cells.c1
    go_wp2_with fail
    have HSTART : Hid (RDoes G R F w (S1.wipe G.L (i : Int) 0) w3) := by rw [CS.wipe_zero]; exact RDoes.of w h3 t3
    clear h3 t3
    generalize hPn : G.p.toNat = Pn at *
    go_loopw [8] (fun ii wr => ∃ n : Nat, n ≤ Pn ∧ ii = .int .i64 (n : Int) ∧ Hid (RDoes G R F w (S1.wipe G.L (i : Int) n) wr)) (fun ii _ => Pn - (RowKit.intOf ii).toNat)
    case atStart => exact ⟨0, Nat.zero_le _, rfl, HSTART⟩
    case round =>
      obtain ⟨n, hn, rfl, hD⟩ := hrel
      by_cases hlt : n < Pn
      · have hlt' : (n : Int) < G.p := by have := HPN.out; omega
        have hltP : (n : Int) < (Pn : Int) := by omega
        have hn2 : n < G.p.toNat := by omega
        obtain ⟨F1, h1, t1, hf1⟩ := hD.out
        have hcapi := (h1.blocks i hi).cap
        rw [hPn] at hcapi
        have HC : Hid (∀ w', Turned (fun k => k = R.pb i) wr w' → w'.cell? ⟨R.bb, i * 4, none⟩ = some (.slice (some ⟨R.pb i, 0, none⟩) Pn (R.pcap i)) ∧ w'.cell? ⟨R.c, 0, none⟩ = some (.int .i64 G.b) ∧ w'.cell? ⟨R.c, 1, none⟩ = some (.int .i64 G.p) ∧ w'.cell? ⟨R.c, 2, none⟩ = some (.int .i64 G.s) ∧ w'.cell? ⟨R.c, 3, none⟩ = some (.int .i64 G.n) ∧ w'.cell? ⟨R.c, 4, none⟩ = some (.int .i64 G.f)) := fun w' hw' => by
          have cc := h1.cell.cells
          have hb1 := hw'.block R.bb (h1.fresh _ (h1.inF _ (.inr (.inl rfl)))) (Ne.symm (h1.ne2 i hi).2)
          have hb2 := hw'.block R.c h1.lt (Ne.symm (h1.ne2 i hi).1)
          have d0 := (h1.blocks i hi).c0
          rw [hPn] at d0
          exact ⟨(cell_same hb1 _).trans d0, (cell_same hb2 _).trans cc.c0, (cell_same hb2 _).trans cc.c1, (cell_same hb2 _).trans cc.c2, (cell_same hb2 _).trans cc.c3, (cell_same hb2 _).trans cc.c4⟩
        have HPn : Hid (G.p.toNat = Pn) := hPn
        clear hPn hD
        go_wp2_with fail
        refine held_open (Turned (fun k => k = R.pb i) wr) (by kernel_rfl) ?_
        refine held_reads (rs := [0, 1, 2, 3, 4, 5, 6, 7, 8]) (fuel := 4) (by kernel_rfl) (fun c d v a w h => by cases d <;> exact h) (by kernel_rfl) ((Turned.refl _ _).drew) (fun K hK => ?_)
        refine calm_move _ rfl (by rfl) rfl ?_
        go_simp
        refine calm_do (.pointer (some ⟨R.bb, i * 4, none⟩)) rfl (by rfl) (fun w' hw' => ?_) ?_
        · go_simp
        go_simp
        refine calm_do (.pointer (some ⟨R.bb, i * 4, none⟩)) rfl (by rfl) (fun w' hw' => ?_) ?_
        · go_simp
        go_simp
        refine calm_do (.slice (some ⟨R.pb i, 0, none⟩) Pn (R.pcap i)) rfl (by rfl) (fun w' hw' => ?_) ?_
        · have d0 := (HC.out w' hw').1
          go_simp
        go_simp
        refine calm_move _ rfl (by rfl) rfl ?_
        go_simp
        refine calm_move _ rfl (by rfl) rfl ?_
        go_simp
        refine calm_do (.pointer (some ⟨R.c, 0, none⟩)) rfl (by rfl) (fun w' hw' => ?_) ?_
        · go_simp
        go_simp
        refine calm_do (.pointer (some ⟨R.c, 0, none⟩)) rfl (by rfl) (fun w' hw' => ?_) ?_
        · go_simp
        go_simp
        refine calm_do (.agg #[.int .i64 G.b, .int .i64 G.p, .int .i64 ((G.s : Nat)), .int .i64 ((G.n : Nat)), .int .i64 ((G.f : Nat))]) rfl (by rfl) (fun w' hw' => ?_) ?_
        · obtain ⟨_, c0, c1, c2, c3, c4⟩ := HC.out w' hw'
          go_simp
        go_simp
        refine calm_nil (hK.out _ ?_)
        clear hK K
        refine held_op (i := 9) (fuel := 3) (by kernel_rfl) rfl (by rfl) (fun K hK => ?_)
        go_simp
        refine (refRaw_any G.ok _).mono ?_
        rintro e v2 ⟨rfl, q2⟩
        have s2 : Turned (fun k => k = R.pb i) wr v2 := (Turned.refl _ _).drew.trans (Turned.of_below _ q2)
        refine hK _ _ s2 ?_
        clear hK K
        refine held_op (i := 10) (fuel := 2) (by kernel_rfl) rfl (by rfl) (fun K hK => ?_)
        go_simp
        refine (ref7Blank_any G.L (by omega) _).mono ?_
        rintro e v3 ⟨q, hq, rfl, hbq, q3⟩
        have s3 : Turned (fun k => k = R.pb i) wr v3 := s2.trans (Turned.of_below _ q3)
        refine hK _ _ s3 ?_
        clear hK K
        refine held_reads (rs := [11]) (fuel := 1) (by kernel_rfl) (fun c d v a w h => by cases d <;> exact h) (by kernel_rfl) (s3) (fun K hK => ?_)
        go_simp
        refine calm_do (.pointer (some ⟨R.pb i, n * 2, none⟩)) rfl (by rfl) (fun w' hw' => ?_) ?_
        · have h1 := hltP
          have h2 := hcapi
          go_simp
        go_simp
        refine calm_nil (hK.out _ ?_)
        clear hK K
        refine held_op (i := 12) (fuel := 0) (by kernel_rfl) rfl (by rfl) (fun K hK => ?_)
        have qq : Below wr.heap.size wr v3 := btrans (btrans ((Below.refl _ _).drew) q2) q3
        have h4 := h1.below qq
        obtain ⟨_, _, _, _, _, _, y0, y1, _⟩ := h4.pages i hi n hn2
        have g0f := h4.pfr i hi (n * 2)
        have g1f := h4.pfr i hi (n * 2 + 1)
        have hq1 : ¬ F1 q := fun hf => by have := h1.fresh q hf; have := q2.size; have hd : wr.drew.heap.size = wr.heap.size := rfl; omega
        have hrow := hbq.row (L := G.L) (by simp) (by unfold maxLen; omega)
        have h5 := h4.putPage hi hn2 q G.L _ hq1 hbq.lt hrow (isB_ff G.L) none 0 0 [] (row_none _ _) (fun hh => by omega) List.nodup_nil (fun _ hv => by cases hv) (fun _ => false) (by simp)
        rw [wipe_page] at h5
        have hpF := h4.inF _ (.inr (.inr ⟨i, hi, rfl⟩))
        have t5 := (((Turned.of_below F1 qq).setCell (p := ⟨R.pb i, n * 2, none⟩) (.inl hpF) (.slice (some ⟨q, 0, none⟩) G.L G.L)).setCell (p := ⟨R.pb i, n * 2 + 1, none⟩) (.inl hpF) (.slice none 0 0))
        have HD : Hid (RDoes G R F w (S1.wipe G.L (i : Int) (n + 1)) ((v3.setCell ⟨R.pb i, n * 2, none⟩ (.slice (some ⟨q, 0, none⟩) G.L G.L)).setCell ⟨R.pb i, n * 2 + 1, none⟩ (.slice none 0 0))) := RDoes.after t1 hf1 ⟨_, h5, t5, fun k hk => hk.imp id (fun e => by rw [e]; have := qq.size; have := q2.size; have hd : wr.drew.heap.size = wr.heap.size := rfl; omega)⟩
        have s5 : Turned (fun k => k = R.pb i) wr ((v3.setCell ⟨R.pb i, n * 2, none⟩ (.slice (some ⟨q, 0, none⟩) G.L G.L)).setCell ⟨R.pb i, n * 2 + 1, none⟩ (.slice none 0 0)) := (s3.setCell (p := ⟨R.pb i, n * 2, none⟩) (.inl rfl) _).setCell (p := ⟨R.pb i, n * 2 + 1, none⟩) (.inl rfl) _
        clear h5 t5 h4 h1 t1 hrow hbq s3 s2
        go_simp
        refine hK _ _ s5 ?_
        clear hK K s5
        refine wpAnyH_done (by kernel_rfl) ?_ _
        go_wp2_with fail
        go_roundw
        case rel => exact ⟨n + 1, by omega, by go_num, HD⟩
        case measure => simp [RowKit.intOf]; omega
      · have e : n = Pn := by omega
        rw [e] at hD
        have hge : ¬ (n : Int) < G.p := by have := HPN.out; omega
        obtain ⟨F1, h1, t1, hf1⟩ := hD.out
        have k1 := (h1.blocks i hi).c1
        have kf := h1.bfr (i * 4 + 1)
        have h2 := h1.set_nx (x := (i : Int)) rfl hi 0 (by omega)
        have t2 := (Turned.refl F1 wr).setCell (p := ⟨R.bb, i * 4 + 1, none⟩) (.inl (h1.inF _ (.inr (.inl rfl)))) (.int .i64 0)
        have HD : Hid (RDoes G R F w ((S1.wipe G.L (i : Int) Pn).next0 (i : Int)) (wr.setCell ⟨R.bb, i * 4 + 1, none⟩ (.int .i64 0))) := RDoes.after t1 hf1 ⟨F1, h2, t2, fun _ hx => .inl hx⟩
        clear h1 t1 h2 t2 hD
        generalize (S1.wipe G.L (i : Int) Pn).nx (i : Int) = old at *
        go_wp2_with fail
        go_ret
        exact ⟨rfl, HD.out⟩
  
end
end Go.Proofs.YtggpgdaacbmmdaaGreat
