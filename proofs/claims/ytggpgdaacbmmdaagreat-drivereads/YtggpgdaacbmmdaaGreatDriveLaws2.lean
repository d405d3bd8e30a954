/-
  Layer 8's law DriveReads. (Written by tools/gen/drive_reads.py.)
-/
import Derived.Test.YtggpgdaacbmmdaaGreatDriveAwake
import Derived.Maps.AppendAt
namespace Go.Proofs.YtggpgdaacbmmdaaGreat
open Go.RowKit Go.Maps
set_option linter.unusedVariables false
set_option maxRecDepth 8192

/-- Places that stand there once are no more than places that may stand there often. -/
theorem cnt_sub {K T : Nat} {qs ps : List Int} (hK : 0 < K) (hn : qs.Nodup) (hs : ∀ x ∈ qs, x ∈ ps) (j : Nat) : cntTo K T qs j ≤ cntTo K K ps j := by
  unfold cntTo
  refine nodup_len (hn.filter _) fun x hx => ?_
  rw [List.mem_filter] at hx ⊢
  refine ⟨hs x hx.1, ?_⟩
  have h2 := of_decide_eq_true hx.2
  exact decide_eq_true ⟨h2.1, Nat.mod_lt _ hK⟩
theorem mem_flip {L : Nat} {ps : List Int} {x : Int} (h : x ∈ wrList L (flipW L ps ps.length)) : x ∈ ps := by
  have h2 := ((mem_wrList L _ x).1 h).2
  unfold flipW at h2
  have h3 := (of_decide_eq_true h2).1
  rwa [List.take_length] at h3
/-- 'make([]int, n)'. -/
theorem makeI8 (n : Nat) (hn : n ≤ 10000) (w : World) : ∃ w', Sem.run Tryz.prog (Instr.makeSlice 42 (.int .i64 (n : Int)) (.int .i64 (n : Int))) w = .ok (.slice (some ⟨w.heap.size, 0, none⟩) n n) w' ∧
    w'.ownsRow w.heap.size 3 1 (.slice (some ⟨w.heap.size, 0, none⟩) n n) n ((List.replicate n (0 : Int)).map (Value.int .i64)) ∧ Below w.heap.size w w' := by
  obtain ⟨i0, hi0, hz0, hz1, hz2⟩ := info_parts Tryz.info3
  obtain ⟨w', hrun, r1, r2⟩ := run_make_full (P := Tryz.prog) w w.heap.size 42 3 i0 (.int .i64 0) 1 Tryz.underlying42 hi0 hz0 hz1 .i64 .i64 n (by rw [hz2]; omega) (by unfold maxLen; omega) (Nat.le_refl _)
  rw [made_ints] at r1
  exact ⟨w', hrun, r1, (Below.refl _ _).grown r2 (Nat.le_refl _) (by simp)⟩

set_option maxHeartbeats 3200000 in
set_option maxRecDepth 100000 in
theorem walk_driveReads (b p s n f : Int) (x : Int) (a : Option Addr) (len cap : Nat) (z : List Int) (c : Option Addr) (pl cap' : Nat) (ps : List Int) (w : World) (hx : I64 x) (hr : Row .u8 w a len cap z) (hz : IsB z) (hp : Row .i64 w c pl cap' ps) (hwp : ∀ q ∈ ps, (Lit.int .i64 q).wf = true) :
    Calls Tryz.prog 4 #[.agg #[.int .i64 b, .int .i64 p, .int .i64 s, .int .i64 n, .int .i64 f], .int .i64 x, .slice a len cap, .slice c pl cap'] w fun e w' => e = .returned (.bool true) ∧ Below w.heap.size w w' := by
  cases hsm : small8 b p s n f
  · go_enter Tryz.func4, Tryz.ntmps4
    go_wp2_with fail
    refine (small8_any _ _ _ _ _ _).mono ?_
    rintro e w1 ⟨rfl, q1⟩
    rw [hsm]
    go_wp2_with fail
    go_ret
    exact ⟨rfl, btrans (below_one _ _) q1⟩
  obtain ⟨G, rfl, rfl, rfl, rfl, rfl, hb16, hp8, hR32⟩ := geo8_ex hsm
  have HSM : Hid (small8 G.b G.p G.s G.n G.f = true) := hsm
  clear hsm
  have hlm : len ≤ maxLen := Nat.le_trans hr.hcap hr.hmax
  have hroom := refRoom_any G.b G.p G.f G.s G.n G.R G.ok.hR G.ok.hs.2 (by have := G.ok.hn; omega)
  by_cases hcd : 0 ≤ x ∧ x < G.b
  case neg =>
    go_enter Tryz.func4, Tryz.ntmps4
    go_wp2_with fail
    refine (small8_any _ _ _ _ _ _).mono ?_
    rintro e w1 ⟨rfl, q1⟩
    rw [HSM.out]
    obtain ⟨_, c0, c1, c2, c3, c4⟩ := (gbox_new w 23 G.b G.p G.s G.n G.f).below q1 (Nat.le_refl _)
    go_wp2_with fail
    all_goals first | (exfalso; omega) | (go_ret; exact ⟨rfl, btrans (below_one _ _) q1⟩)
  have hx0 : ¬ x < 0 := by omega
  have hx1 : ¬ G.b ≤ x := by omega
  by_cases hl : len = G.R
  case neg =>
    have hq : (((len : Nat) : Int) != (G.R : Int)) = true := by simp; omega
    go_enter Tryz.func4, Tryz.ntmps4
    go_wp2_with fail
    refine (small8_any _ _ _ _ _ _).mono ?_
    rintro e w1 ⟨rfl, q1⟩
    rw [HSM.out]
    obtain ⟨_, c0, c1, c2, c3, c4⟩ := (gbox_new w 23 G.b G.p G.s G.n G.f).below q1 (Nat.le_refl _)
    go_wp2_with fail
    clear c0 c1 c2 c3 c4
    refine (hroom _).mono ?_
    rintro e w2 ⟨rfl, q2⟩
    go_wp2_with fail
    go_ret
    exact ⟨rfl, btrans (btrans (below_one _ _) q1) q2⟩
  subst hl
  have hL := G.ok.L2
  have hLm : G.L ≤ maxLen := by unfold maxLen; omega
  have hpm : pl ≤ maxLen := Nat.le_trans hp.hcap hp.hmax
  by_cases hpl : 60 < pl
  case pos =>
    have hpl1 : (60 : Int) < (pl : Int) := by omega
    go_enter Tryz.func4, Tryz.ntmps4
    go_wp2_with fail
    refine (small8_any _ _ _ _ _ _).mono ?_
    rintro e w1 ⟨rfl, q1⟩
    rw [HSM.out]
    obtain ⟨_, c0, c1, c2, c3, c4⟩ := (gbox_new w 23 G.b G.p G.s G.n G.f).below q1 (Nat.le_refl _)
    go_wp2_with fail
    clear c0 c1 c2 c3 c4
    refine (hroom _).mono ?_
    rintro e w2 ⟨rfl, q2⟩
    go_wp2_with fail
    go_ret
    exact ⟨rfl, btrans (btrans (below_one _ _) q1) q2⟩
  have hpl1 : ¬ (60 : Int) < (pl : Int) := by omega
  go_enter Tryz.func4, Tryz.ntmps4
  go_wp2_with fail
  have q0 := below_one w (.cells #[.int .i64 G.b, .int .i64 G.p, .int .i64 G.s, .int .i64 G.n, .int .i64 G.f] 23)
  have gb := gbox_new w 23 G.b G.p G.s G.n G.f
  replace hr := hr.below q0 (Nat.le_refl _)
  replace hp := hp.below q0 (Nat.le_refl _)
  have HQ0 : Hid (Below w.heap.size w (w.alloc (.cells #[.int .i64 G.b, .int .i64 G.p, .int .i64 G.s, .int .i64 G.n, .int .i64 G.f] 23))) := q0
  clear q0
  generalize hg0 : w.heap.size = g at gb ⊢
  have HG0 : Hid (w.heap.size = g) := hg0
  clear hg0
  generalize w.alloc (.cells #[.int .i64 G.b, .int .i64 G.p, .int .i64 G.s, .int .i64 G.n, .int .i64 G.f] 23) = W at *
  refine (small8_any _ _ _ _ _ _).mono ?_
  rintro e w1 ⟨rfl, q1⟩
  rw [HSM.out]
  have gb1 := gb.below q1 (Nat.le_refl _)
  obtain ⟨_, c0, c1, c2, c3, c4⟩ := gb1
  go_wp2_with fail
  clear c0 c1 c2 c3 c4
  refine (hroom _).mono ?_
  rintro e w2 ⟨rfl, q2⟩
  replace q1 := btrans q1 q2
  clear q2
  have gb1 := gb.below q1 (Nat.le_refl _)
  obtain ⟨_, c0, c1, c2, c3, c4⟩ := gb1
  go_wp2_with fail
  clear c0 c1 c2 c3 c4
  refine (chipNew_nil G _).mono ?_
  rintro e w3 ⟨cc, rfl, hnew⟩
  obtain ⟨B, F, rfl, h3⟩ := newChip_here q1 hnew
  clear q1 hnew hroom
  go_wp2_with fail
  refine (drvNew_any B.c _).mono ?_
  rintro e w4 ⟨d, hd, rfl, db, q4⟩
  have h4 : DHere W G B F 0 (CS.fresh G.L [] 0) d w4 := dhere_new h3 q4 db hd
  clear h3 q4 db hd
  go_wp2_with fail
  have hp2 := G.ok.hp
  have hs2 := G.ok.hs
  have hf2 := G.ok.hf
  have hW2 := G.ok.W2
  have r4 := h4.old hr
  have HPL : Hid (ps.length = pl) := hp.hlen
  refine (drvWrite_yes x 0 hx (i64_small (by decide)) a cap z w4 h4.box h4.off h4.chip r4.row hz (by decide) (inB0_of (by omega)) (use_of rfl (inB0_of hcd) rfl rfl)).mono ?_
  rintro e w5 ⟨y, hy, hd⟩
  have HY : Hid (IsPack G.s G.n G.f G.m G.W z y) := hy
  obtain ⟨rfl, d5⟩ := Does.eq (write_ok (S := CS.fresh G.L [] 0) (x := x) (y := 0) (z := y) rfl hcd (by omega) rfl rfl rfl (by rw [hy.len, G.ok.hL])) hd
  obtain ⟨F5, h5, o5⟩ := h4.does d5
  clear o5 d5 h4 r4 hd hy
  obtain ⟨S1, hS1⟩ : ∃ S1, S1 = (CS.fresh G.L [] 0).lay x 0 y := ⟨_, rfl⟩
  replace h5 := h5.same hS1.symm
  have HU1 : Hid (S1.up = true) := by show _ = _; rw [hS1]; rfl
  have HB1 : Hid (∀ b, S1.bd b = false) := fun b => by rw [hS1]; rfl
  have HP1 : Hid (S1.pg x 0 = y) := by show _ = _; rw [hS1]; exact lay_pg _ _ _ _
  clear hS1
  obtain ⟨_, c0, c1, c2, c3, c4⟩ := gb.below h5.bel (Nat.le_refl _)
  go_wp2_with fail
  clear c0 c1 c2 c3 c4
  refine (refWhole_any G.ok _).mono ?_
  rintro e w6 ⟨rfl, q6⟩
  have h6 := h5.below q6
  clear q6 h5
  obtain ⟨w7, hrun7, ownC, q7⟩ := makeI8 G.s (by omega) w6
  obtain ⟨_, c0, c1, c2, c3, c4⟩ := gb.below h6.bel (Nat.le_refl _)
  have HH : Hid (∀ wr, Below w6.heap.size w6 wr → DHere W G B F5 (0 + 4) S1 d wr) := fun wr q => h6.below q
  clear h6
  have HIN0 : Hid (8 * (G.W : Int) * (G.s : Int) = 8 * ((G.s * G.W : Nat) : Int)) := by show _ = _; rw [Int.natCast_mul, Int.mul_assoc, Int.mul_comm (G.W : Int)]
  obtain ⟨M, hM⟩ : ∃ M, G.s * G.W = M := ⟨_, rfl⟩
  have hMb : M ≤ 8 * 77 := by rw [← hM]; exact Nat.mul_le_mul hs2.2 hW2.2
  rw [hM] at HIN0
  have HM : Hid (G.s * G.W = M) := hM
  clear hM
  have HREST : Hid (∀ (qs : List Int), qs = wrList G.L (flipW G.L ps ps.length) → (∀ q ∈ ps, 0 ≤ q ∧ q < 8 * (M : Int)) → (∀ j, j < G.s → cntTo (8 * G.W) (8 * G.W) ps j ≤ G.f) →
      (∀ X k er, IsRead G (turnI y qs) X k er → X = z ∧ k ≤ G.f ∧ er = 0) ∧ (turnI y qs)[G.L - 1]?.getD 0 = 0) := fun qs hqs hin hc => by
    have hnd : qs.Nodup := by rw [hqs]; exact nodup_wrList _ _
    have hsub : ∀ q ∈ qs, q ∈ ps := fun q hq => mem_flip (by rw [← hqs]; exact hq)
    have hin' : ∀ q ∈ qs, 0 ≤ q ∧ q < 8 * ((G.s * G.W : Nat) : Int) := fun q hq => by rw [HM.out]; exact hin q (hsub q hq)
    have hc' : ∀ j, j < G.s → cntTo (8 * G.W) (8 * G.n + 13 * G.f) qs j ≤ G.f := fun j hj => Nat.le_trans (cnt_sub (by have := hW2.1; omega) hnd hsub j) (hc j hj)
    refine ⟨fun X k er h => ?_, ?_⟩
    · obtain ⟨h1, h2, h3⟩ := isRead_flips HY.out hz hr.hlen hnd hin' hc' h
      exact ⟨h1, by rw [h2]; exact maxC_le hc', h3⟩
    · rw [flip_mark (s := G.s) (W := G.W) G.ok.hL hin', show G.L - 1 = G.s * G.W by have := G.ok.hL; omega]
      exact HY.out.mark
  generalize hgcE : w6.heap.size = gc at *
  have HGC : Hid (w6.heap.size = gc) := hgcE
  clear hgcE
  go_wp2_with fail
  clear c0 c1 c2 c3 c4 hrun7
  have HC0 : Hid (cntL (8 * G.W) (8 * G.W) G.s (ps.take 0) = List.replicate G.s 0) := cntL_nil _ _ _
  go_loopw [15] (fun v wr => ∃ i : Nat, i ≤ pl ∧ v = .int .i64 i ∧ (∀ q ∈ ps.take i, 0 ≤ q ∧ q < 8 * (M : Int)) ∧ wr.ownsRow gc 3 1 (.slice (some ⟨gc, 0, none⟩) G.s G.s) G.s ((cntL (8 * G.W) (8 * G.W) G.s (ps.take i)).map (Value.int .i64)) ∧ Below gc w6 wr) (fun v _ => pl - (RowKit.intOf v).toNat)
  case atStart => exact ⟨0, Nat.zero_le _, rfl, fun q hq => by simp at hq, by rw [HC0.out]; exact ownC, q7⟩
  case round =>
    clear ownC q7 HC0
    obtain ⟨i, hi, rfl, hin, own, qb⟩ := hrel
    have hh := HH.out wr qb
    have HINi : Hid (∀ q ∈ ps.take i, 0 ≤ q ∧ q < 8 * (M : Int)) := hin
    clear hin
    by_cases hlt : i < pl
    case neg =>
      obtain rfl : i = pl := by omega
      have htk : ps.take i = ps := List.take_of_length_le (by rw [HPL.out]; exact Nat.le_refl _)
      rw [htk] at own HINi
      clear htk hlt hi
      have HCL : Hid (∀ j, j < G.s → wr.cell? ⟨gc, j, none⟩ = some (.int .i64 ((cntTo (8 * G.W) (8 * G.W) ps j : Nat) : Int))) := fun j hj => by
        rw [owned_cell own j hj, cntL_at _ _ _ _ _ hj]
      have hgcl : gc < wr.heap.size := (own.lt gc rfl).2
      have HCE : Hid (∀ j, cntTo (8 * G.W) (8 * G.W) ps j ≤ 60) := fun j => by have := cnt_le (8 * G.W) (8 * G.W) ps j; have := HPL.out; omega
      have HR2 : Hid ((∀ j, j < G.s → cntTo (8 * G.W) (8 * G.W) ps j ≤ G.f) → (∀ X k er, IsRead G (turnI y (wrList G.L (flipW G.L ps ps.length))) X k er → X = z ∧ k ≤ G.f ∧ er = 0) ∧ (turnI y (wrList G.L (flipW G.L ps ps.length)))[G.L - 1]?.getD 0 = 0) := fun hc => HREST.out _ rfl HINi.out hc
      clear HREST HINi own qb HH
      generalize cntTo (8 * G.W) (8 * G.W) ps = C at *
      go_wp2_with fail
      generalize wr = wo at *
      go_loopw [16] (fun v wr2 => ∃ j : Nat, j ≤ G.s ∧ v = .int .i64 j ∧ (∀ k, k < j → C k ≤ G.f) ∧ Below wo.heap.size wo wr2) (fun v _ => G.s - (RowKit.intOf v).toNat)
      case atStart => exact ⟨0, Nat.zero_le _, rfl, fun k hk => absurd hk (by omega), Below.refl _ _⟩
      case round =>
        obtain ⟨j, hj, rfl, hcj, q2⟩ := hrel
        have HCJ : Hid (∀ k, k < j → C k ≤ G.f) := hcj
        clear hcj
        have h9 := hh.below q2
        by_cases hlt : j < G.s
        case neg =>
          obtain rfl : j = G.s := by omega
          obtain ⟨hrd, hmk⟩ := HR2.out HCJ.out
          clear HR2 HCL HCE HCJ hh q2
          have hfl : S1.doFlip G x 0 ps = S1.flipped x 0 (flipW G.L ps ps.length) := by unfold CS.doFlip; rw [if_pos (hasP_of hcd (by omega))]
          have hpo := h9.old hp
          have hcf := chipFlip_any x 0 hx (i64_small (by decide)) c _ cap' ps wr h9.chip hpo.row hpo.off hwp (by omega) (by omega)
          rw [hfl] at hcf
          have e1 : (S1.flipped x 0 (flipW G.L ps ps.length)).pg x 0 = y := HP1.out
          have e2 : (S1.flipped x 0 (flipW G.L ps ps.length)).wr x 0 = flipW G.L ps ps.length := by
            show (if x = x ∧ (0 : Int) = 0 then flipW G.L ps ps.length else _) = _
            rw [if_pos ⟨rfl, rfl⟩]
          have e3 : (S1.flipped x 0 (flipW G.L ps ps.length)).wholeD G x 1 = (true, 0) := by
            unfold CS.wholeD
            rw [rdy_of (S := S1.flipped x 0 (flipW G.L ps ps.length)) HU1.out (inB0_of hcd) (by unfold within0; exact decide_eq_true (by omega)), if_neg (by simp), show (S1.flipped x 0 (flipW G.L ps ps.length)).bd x = false from HB1.out x]
            rw [show (1 : Int).toNat = 0 + 1 from rfl]
            show (!false && (true && decide _), (0 : Int)) = _
            rw [decide_eq_true (show ((S1.flipped x 0 (flipW G.L ps ps.length)).raw G x ((0 : Nat) : Int))[G.L - 1]?.getD 0 = 0 from by unfold CS.raw; rw [show ((0 : Nat) : Int) = 0 from rfl, e1, e2]; exact hmk)]
            rfl
          have HU2 : Hid ((S1.flipped x 0 (flipW G.L ps ps.length)).up = true) := HU1.out
          have HB2 : Hid (∀ b, (S1.flipped x 0 (flipW G.L ps ps.length)).bd b = false) := HB1.out
          have HRD : Hid (∀ X k er, IsRead G (readZ G.L y (flipW G.L ps ps.length)) X k er → X = z ∧ k ≤ G.f ∧ er = 0) := hrd
          clear hrd hmk hfl hpo
          generalize S1.flipped x 0 (flipW G.L ps ps.length) = S2 at *
          go_wp2_with fail
          refine hcf.mono ?_
          rintro e w9 ⟨⟨r, rfl⟩, d9⟩
          obtain ⟨F9, h9', o9⟩ := h9.does d9
          clear hcf d9 o9 h9
          have hrd := drvRead_yes x 0 hx (i64_small (by decide)) w9 h9'.box h9'.chip (inB0_of (by omega)) (use_of HU2.out (inB0_of hcd) rfl (HB2.out x))
          rw [e1, e2] at hrd
          go_wp2_with fail
          refine hrd.mono ?_
          rintro e w10 ⟨X, k, er, ao, co, ⟨hX, _, _⟩, rfl, rX, q10⟩
          obtain ⟨rfl, hk, rfl⟩ := HRD.out X k er hX
          have h10 := h9'.below q10
          clear hrd HRD hX q10 h9'
          have hwh := drvWhole_any x 1 hx w10 h10.box h10.chip
          rw [e3] at hwh
          go_wp2_with fail
          refine hwh.mono ?_
          rintro e w11 ⟨rfl, q11⟩
          have h11 := h10.below q11
          replace rX := rX.below q11 (Nat.le_refl _)
          clear q11 h10 hwh
          go_wp2_with fail
          refine (awake8_any _).mono ?_
          rintro e w12 ⟨rfl, q12⟩
          have h12 := h11.below q12
          replace rX := rX.below q12 (Nat.le_refl _)
          clear q12 h11
          have k1 := conv_row (P := Tryz.prog) Tryz.underlying38 Tryz.underlying5 Tryz.underlying9 rX
          have k2 := conv_row (P := Tryz.prog) Tryz.underlying38 Tryz.underlying5 Tryz.underlying9 (h12.old hr).row
          rw [hr.hlen] at k1 ⊢
          have hkf : (k : Int) ≤ (G.f : Int) := by omega
          obtain ⟨_, c0, c1, c2, c3, c4⟩ := gb.below h12.bel (Nat.le_refl _)
          go_wp2_with fail
          go_ret
          exact ⟨rfl, btrans HQ0.out h12.bel⟩
        have hcc := HCL.out j hlt
        have hce := HCE.out j
        have u5 : (j : Int) < (G.s : Int) := by omega
        have gb1 := gb.below h9.bel (Nat.le_refl _)
        have HC2 : Hid (C j ≤ G.f → ∀ k, k < j + 1 → C k ≤ G.f) := fun hc k hk => by
          by_cases e : k = j
          · subst e; exact hc
          · exact HCJ.out k (by omega)
        generalize C j = cj at *
        have hcc2 := (Below.cell q2 (p := ⟨gc, j, none⟩) hgcl).trans hcc
        have hgl2 : gc < wr.heap.size := by have := q2.size; omega
        clear hcc
        have hQ : Below w.heap.size w wr := btrans HQ0.out h9.bel
        by_cases hbig : G.f < cj
        case pos =>
          have hbi : (G.f : Int) < (cj : Int) := by omega
          go_wp2_with fail
          refine held_begin (by kernel_rfl) ?_
          refine held_reads (rs := [0, 1, 2, 3, 4, 5, 6]) (fuel := 0) (by kernel_rfl) (fun c d v a w h => by cases d <;> exact h) (by kernel_rfl) (Since.drew _) (fun K hK => ?_)
          refine calm_move _ rfl (by rfl) rfl ?_
          go_simp
          refine calm_move _ rfl (by rfl) rfl ?_
          go_simp
          refine calm_do (.pointer (some ⟨gc, j, none⟩)) rfl (by rfl) (fun w' hw' => ?_) ?_
          · skip
            go_simp
          go_simp
          refine calm_do (.int .i64 (cj : Int)) rfl (by rfl) (fun w' hw' => ?_) ?_
          · have kk := (Below.cell (w := wr) hw' (p := ⟨gc, j, none⟩) hgl2).trans hcc2
            go_simp
          go_simp
          refine calm_do (.pointer (some ⟨g, 4, none⟩)) rfl (by rfl) (fun w' hw' => ?_) ?_
          · skip
            go_simp
          go_simp
          refine calm_do (.int .i64 G.f) rfl (by rfl) (fun w' hw' => ?_) ?_
          · have gb' := gb1.below hw' (Nat.le_refl _)
            obtain ⟨_, c0, c1, c2, c3, c4⟩ := gb'
            go_simp
          go_simp
          refine calm_do (.bool true) rfl (by rfl) (fun w' hw' => ?_) ?_
          · go_simp
          go_simp
          refine calm_nil (hK.out _ ?_)
          clear hK K
          refine wpAnyH_done (by kernel_rfl) ?_ _
          go_wp2_with fail
          go_ret
          exact ⟨rfl, hQ.drew⟩
        have hbi : ¬ (G.f : Int) < (cj : Int) := by omega
        go_wp2_with fail
        refine held_begin (by kernel_rfl) ?_
        refine held_reads (rs := [0, 1, 2, 3, 4, 5, 6]) (fuel := 0) (by kernel_rfl) (fun c d v a w h => by cases d <;> exact h) (by kernel_rfl) (Since.drew _) (fun K hK => ?_)
        refine calm_move _ rfl (by rfl) rfl ?_
        go_simp
        refine calm_move _ rfl (by rfl) rfl ?_
        go_simp
        refine calm_do (.pointer (some ⟨gc, j, none⟩)) rfl (by rfl) (fun w' hw' => ?_) ?_
        · skip
          go_simp
        go_simp
        refine calm_do (.int .i64 (cj : Int)) rfl (by rfl) (fun w' hw' => ?_) ?_
        · have kk := (Below.cell (w := wr) hw' (p := ⟨gc, j, none⟩) hgl2).trans hcc2
          go_simp
        go_simp
        refine calm_do (.pointer (some ⟨g, 4, none⟩)) rfl (by rfl) (fun w' hw' => ?_) ?_
        · skip
          go_simp
        go_simp
        refine calm_do (.int .i64 G.f) rfl (by rfl) (fun w' hw' => ?_) ?_
        · have gb' := gb1.below hw' (Nat.le_refl _)
          obtain ⟨_, c0, c1, c2, c3, c4⟩ := gb'
          go_simp
        go_simp
        refine calm_do (.bool false) rfl (by rfl) (fun w' hw' => ?_) ?_
        · go_simp
        go_simp
        refine calm_nil (hK.out _ ?_)
        clear hK K
        refine wpAnyH_done (by kernel_rfl) ?_ _
        replace q2 := q2.drew
        generalize wr.drew = we at *
        go_wp2_with fail
        go_roundw
        case rel => exact ⟨j + 1, by omega, by go_num, HC2.out (by omega), q2⟩
        case measure => simp [RowKit.intOf]; omega
    have rp1 := (hh.old hp).row
    obtain ⟨pb, po, rfl, hpb, hpc⟩ := rp1.hcell (by omega)
    have hcp := hpc i hlt
    clear hpc rp1
    have hwb := bounds_i64 (hwp _ (mem_getD ps i (by rw [HPL.out]; exact hlt)))
    have HSN : Hid (ps.take (i + 1) = ps.take i ++ [ps[i]?.getD 0]) := take_snocB ps i (by rw [HPL.out]; exact hlt)
    generalize ps[i]?.getD 0 = P at *
    have u5 : (i : Int) < (pl : Int) := by omega
    have gb1 := gb.below hh.bel (Nat.le_refl _)
    have hQ : Below w.heap.size w wr := btrans HQ0.out hh.bel
    by_cases h1 : P < 0
    case pos =>
      go_wp2_with fail
      refine held_begin (by kernel_rfl) ?_
      refine held_reads (rs := [0, 1, 2, 3, 4, 5, 6, 7, 8, 9, 10, 11, 12, 13, 14, 15, 16]) (fuel := 0) (by kernel_rfl) (fun c d v a w h => by cases d <;> exact h) (by kernel_rfl) (Since.drew _) (fun K hK => ?_)
      refine calm_move _ rfl (by rfl) rfl ?_
      go_simp
      refine calm_move _ rfl (by rfl) rfl ?_
      go_simp
      refine calm_do (.pointer (some ⟨pb, po + i, none⟩)) rfl (by rfl) (fun w' hw' => ?_) ?_
      · skip
        go_simp
      go_simp
      refine calm_do (.int .i64 P) rfl (by rfl) (fun w' hw' => ?_) ?_
      · have kk := (Below.cell (w := wr) hw' (p := ⟨pb, po + i, none⟩) hpb).trans hcp
        go_simp
      go_simp
      refine calm_do (.bool true) rfl (by rfl) (fun w' hw' => ?_) ?_
      · go_simp
      go_simp
      refine calm_move _ rfl (by rfl) rfl ?_
      go_simp
      refine calm_skip rfl (by rfl) ?_
      go_simp
      refine calm_skip rfl (by rfl) ?_
      go_simp
      refine calm_skip rfl (by rfl) ?_
      go_simp
      refine calm_skip rfl (by rfl) ?_
      go_simp
      refine calm_skip rfl (by rfl) ?_
      go_simp
      refine calm_skip rfl (by rfl) ?_
      go_simp
      refine calm_skip rfl (by rfl) ?_
      go_simp
      refine calm_skip rfl (by rfl) ?_
      go_simp
      refine calm_skip rfl (by rfl) ?_
      go_simp
      refine calm_skip rfl (by rfl) ?_
      go_simp
      refine calm_do (.bool true) rfl (by rfl) (fun w' hw' => ?_) ?_
      · go_simp
      go_simp
      refine calm_nil (hK.out _ ?_)
      clear hK K
      refine wpAnyH_done (by kernel_rfl) ?_ _
      go_wp2_with fail
      go_ret
      exact ⟨rfl, hQ.drew⟩
    by_cases h2 : 8 * (M : Int) ≤ P
    case pos =>
      go_wp2_with fail
      refine held_begin (by kernel_rfl) ?_
      refine held_reads (rs := [0, 1, 2, 3, 4, 5, 6, 7, 8, 9, 10, 11, 12, 13, 14, 15, 16]) (fuel := 0) (by kernel_rfl) (fun c d v a w h => by cases d <;> exact h) (by kernel_rfl) (Since.drew _) (fun K hK => ?_)
      refine calm_move _ rfl (by rfl) rfl ?_
      go_simp
      refine calm_move _ rfl (by rfl) rfl ?_
      go_simp
      refine calm_do (.pointer (some ⟨pb, po + i, none⟩)) rfl (by rfl) (fun w' hw' => ?_) ?_
      · skip
        go_simp
      go_simp
      refine calm_do (.int .i64 P) rfl (by rfl) (fun w' hw' => ?_) ?_
      · have kk := (Below.cell (w := wr) hw' (p := ⟨pb, po + i, none⟩) hpb).trans hcp
        go_simp
      go_simp
      refine calm_do (.bool false) rfl (by rfl) (fun w' hw' => ?_) ?_
      · go_simp
      go_simp
      refine calm_move _ rfl (by rfl) rfl ?_
      go_simp
      refine calm_move _ rfl (by rfl) rfl ?_
      go_simp
      refine calm_move _ rfl (by rfl) rfl ?_
      go_simp
      refine calm_do (.pointer (some ⟨pb, po + i, none⟩)) rfl (by rfl) (fun w' hw' => ?_) ?_
      · skip
        go_simp
      go_simp
      refine calm_do (.int .i64 P) rfl (by rfl) (fun w' hw' => ?_) ?_
      · have kk := (Below.cell (w := wr) hw' (p := ⟨pb, po + i, none⟩) hpb).trans hcp
        go_simp
      go_simp
      refine calm_move _ rfl (by rfl) rfl ?_
      go_simp
      refine calm_do (.int .i64 (8 * (G.W : Int))) rfl (by rfl) (fun w' hw' => ?_) ?_
      · skip
        go_simp
        all_goals (rw [IntKind.wrap_i64]; omega)
      go_simp
      refine calm_do (.pointer (some ⟨g, 2, none⟩)) rfl (by rfl) (fun w' hw' => ?_) ?_
      · skip
        go_simp
      go_simp
      refine calm_do (.int .i64 G.s) rfl (by rfl) (fun w' hw' => ?_) ?_
      · have gb' := gb1.below hw' (Nat.le_refl _)
        obtain ⟨_, c0, c1, c2, c3, c4⟩ := gb'
        go_simp
      go_simp
      refine calm_do (.int .i64 (8 * (M : Int))) rfl (by rfl) (fun w' hw' => ?_) ?_
      · skip
        go_simp
        all_goals (rw [HIN0.out, IntKind.wrap_i64]; omega)
      go_simp
      refine calm_do (.bool true) rfl (by rfl) (fun w' hw' => ?_) ?_
      · go_simp
      go_simp
      refine calm_do (.bool true) rfl (by rfl) (fun w' hw' => ?_) ?_
      · go_simp
      go_simp
      refine calm_nil (hK.out _ ?_)
      clear hK K
      refine wpAnyH_done (by kernel_rfl) ?_ _
      go_wp2_with fail
      go_ret
      exact ⟨rfl, hQ.drew⟩
    go_wp2_with fail
    refine held_begin (by kernel_rfl) ?_
    refine held_reads (rs := [0, 1, 2, 3, 4, 5, 6, 7, 8, 9, 10, 11, 12, 13, 14, 15, 16]) (fuel := 0) (by kernel_rfl) (fun c d v a w h => by cases d <;> exact h) (by kernel_rfl) (Since.drew _) (fun K hK => ?_)
    refine calm_move _ rfl (by rfl) rfl ?_
    go_simp
    refine calm_move _ rfl (by rfl) rfl ?_
    go_simp
    refine calm_do (.pointer (some ⟨pb, po + i, none⟩)) rfl (by rfl) (fun w' hw' => ?_) ?_
    · skip
      go_simp
    go_simp
    refine calm_do (.int .i64 P) rfl (by rfl) (fun w' hw' => ?_) ?_
    · have kk := (Below.cell (w := wr) hw' (p := ⟨pb, po + i, none⟩) hpb).trans hcp
      go_simp
    go_simp
    refine calm_do (.bool false) rfl (by rfl) (fun w' hw' => ?_) ?_
    · go_simp
    go_simp
    refine calm_move _ rfl (by rfl) rfl ?_
    go_simp
    refine calm_move _ rfl (by rfl) rfl ?_
    go_simp
    refine calm_move _ rfl (by rfl) rfl ?_
    go_simp
    refine calm_do (.pointer (some ⟨pb, po + i, none⟩)) rfl (by rfl) (fun w' hw' => ?_) ?_
    · skip
      go_simp
    go_simp
    refine calm_do (.int .i64 P) rfl (by rfl) (fun w' hw' => ?_) ?_
    · have kk := (Below.cell (w := wr) hw' (p := ⟨pb, po + i, none⟩) hpb).trans hcp
      go_simp
    go_simp
    refine calm_move _ rfl (by rfl) rfl ?_
    go_simp
    refine calm_do (.int .i64 (8 * (G.W : Int))) rfl (by rfl) (fun w' hw' => ?_) ?_
    · skip
      go_simp
      all_goals (rw [IntKind.wrap_i64]; omega)
    go_simp
    refine calm_do (.pointer (some ⟨g, 2, none⟩)) rfl (by rfl) (fun w' hw' => ?_) ?_
    · skip
      go_simp
    go_simp
    refine calm_do (.int .i64 G.s) rfl (by rfl) (fun w' hw' => ?_) ?_
    · have gb' := gb1.below hw' (Nat.le_refl _)
      obtain ⟨_, c0, c1, c2, c3, c4⟩ := gb'
      go_simp
    go_simp
    refine calm_do (.int .i64 (8 * (M : Int))) rfl (by rfl) (fun w' hw' => ?_) ?_
    · skip
      go_simp
      all_goals (rw [HIN0.out, IntKind.wrap_i64]; omega)
    go_simp
    refine calm_do (.bool false) rfl (by rfl) (fun w' hw' => ?_) ?_
    · go_simp
    go_simp
    refine calm_do (.bool false) rfl (by rfl) (fun w' hw' => ?_) ?_
    · go_simp
    go_simp
    refine calm_nil (hK.out _ ?_)
    clear hK K
    refine wpAnyH_done (by kernel_rfl) ?_ _
    replace own := own.drew
    replace qb := qb.drew
    have hcp2 : wr.drew.cell? ⟨pb, po + i, none⟩ = some (.int .i64 P) := hcp
    clear hcp hQ gb1 hh
    generalize wr.drew = wd at *
    obtain ⟨q, rfl⟩ := Int.eq_ofNat_of_zero_le (show 0 ≤ P by omega)
    have HINn : Hid (∀ p ∈ ps.take (i + 1), 0 ≤ p ∧ p < 8 * (M : Int)) := fun p hp => by
      rw [HSN.out] at hp
      rcases List.mem_append.1 hp with hp | hp
      · exact HINi.out p hp
      · simp at hp; subst hp; omega
    obtain ⟨q8, hq8⟩ : ∃ q8, q / 8 = q8 := ⟨_, rfl⟩
    obtain ⟨c9, hc9⟩ : ∃ c9, q8 / G.W = c9 := ⟨_, rfl⟩
    have hqc : q / (8 * G.W) = c9 := by rw [← Nat.div_div_eq_div_mul, hq8, hc9]
    have hc9s : c9 < G.s := by rw [← hqc]; exact Nat.div_lt_of_lt_mul (by rw [Nat.mul_assoc, Nat.mul_comm G.W G.s, HM.out]; omega)
    have hit : (q : Int).toNat % (8 * G.W) < 8 * G.W := Nat.mod_lt _ (by omega)
    have HCN : Hid (cntL (8 * G.W) (8 * G.W) G.s (ps.take (i + 1)) = (cntL (8 * G.W) (8 * G.W) G.s (ps.take i)).set c9 (((cntTo (8 * G.W) (8 * G.W) (ps.take i) c9 : Nat) : Int) + 1)) := by
      show _ = _
      rw [HSN.out, cntL_hit _ _ _ _ _ hit (by rw [Int.toNat_natCast, hqc]; exact hc9s), Int.toNat_natCast, hqc]
    have hcv := owned_cell own c9 hc9s
    rw [cntL_at _ _ _ _ _ hc9s] at hcv
    have hfz := own.frozenAt c9
    have hcb : cntTo (8 * G.W) (8 * G.W) (ps.take i) c9 ≤ 60 := by have := cnt_le (8 * G.W) (8 * G.W) (ps.take i) c9; rw [List.length_take] at this; omega
    have R := owned_set (q := c9) (x := ((cntTo (8 * G.W) (8 * G.W) (ps.take i) c9 : Nat) : Int) + 1) (Nat.le_refl gc) own qb
    rw [← HCN.out] at R
    have HR : Hid _ := R
    clear R HCN own qb hit hqc HINi HSN
    generalize cntTo (8 * G.W) (8 * G.W) (ps.take i) c9 = cv at *
    have d1 : (q : Int).tdiv 8 = (q8 : Int) := by rw [Int.tdiv_eq_ediv_of_nonneg (by omega)]; omega
    have d2 : (q : Int) / 8 = (q8 : Int) := by omega
    have d3 : (q8 : Int).tdiv (G.W : Int) = (c9 : Int) := by rw [Int.tdiv_eq_ediv_of_nonneg (by omega), ← Int.natCast_ediv, hc9]
    have d4 : (q8 : Int) / (G.W : Int) = (c9 : Int) := by rw [← Int.natCast_ediv, hc9]
    have d5 : ¬ (G.W : Int) = 0 := by omega
    have hq8b : q8 ≤ q := by omega
    have d6 : IntKind.i64.wrap (q8 : Int) = (q8 : Int) := by rw [IntKind.wrap_i64]; omega
    have d7 : IntKind.i64.wrap (c9 : Int) = (c9 : Int) := by rw [IntKind.wrap_i64]; omega
    have d8 : (0 : Int) ≤ (c9 : Int) ∧ (c9 : Int) < (G.s : Int) := by omega
    clear hq8 hc9
    go_wp2_with fail
    obtain ⟨own, qb⟩ := HR.out
    go_roundw
    case rel => exact ⟨i + 1, by omega, by go_num, HINn.out, own, qb⟩
    case measure => simp [RowKit.intOf]; omega
end Go.Proofs.YtggpgdaacbmmdaaGreat
