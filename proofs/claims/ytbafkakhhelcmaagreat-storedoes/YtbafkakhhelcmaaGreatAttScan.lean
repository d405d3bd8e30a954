/-
  The code of layer 10 (attach), as it landed: look, Scan.
-/
import Derived.Test.YtbafkakhhelcmaaGreatPackV
import Derived.Test.YtbafkakhhelcmaaGreatPackS
import Derived.Test.YtbafkakhhelcmaaGreatPackT
namespace Go.Proofs.YtbafkakhhelcmaaGreat
open Go.RowKit Go.Maps
set_option linter.unusedVariables false
set_option maxRecDepth 8192

/-- How many bytes a logical block may have. -/
def Geo.C (G : Geo) : Nat := (G.p - 1).toNat * G.R
theorem Geo.gmay (G : Geo) : GMay G.b G.p G.s G.n (G.f : Nat) G.R G.C := by
  have g := G.ok
  have h1 := g.hp
  have h2 := g.hR1
  have h3 : (G.p - 1).toNat * G.R ≤ 63 * 64 := Nat.mul_le_mul (by omega) h2.2
  have h4 : 1 * G.R ≤ (G.p - 1).toNat * G.R := Nat.mul_le_mul_right _ (by omega)
  refine ⟨g.may, g.hs.2, by have := g.hn; omega, g.hR, by omega, h1, ?_, by unfold Geo.C; omega⟩
  unfold Geo.C
  rw [Int.natCast_mul, Int.toNat_of_nonneg (by omega)]
theorem isRead_len {G : Geo} {z X : List Int} {k : Nat} (hl : z.length = G.L) (h : IsRead G z X k 0) : X.length = G.R := by
  have g := G.ok
  rcases h with ⟨_, _, _, h⟩ | ⟨_, S, hS, ⟨_, _, _, h⟩ | ⟨ho, rfl, _, _⟩⟩
  · split at h <;> cases h
  · cases h
  · rw [length_dataTo (n := G.n), g.hR]
    intro j hj
    rcases hS j hj with ⟨_, q, hd⟩ | ⟨he, _⟩
    · have h1 := g.at_ hj
      rw [hd.1, length_part (by have := g.hW; omega)]
    · rw [ho j hj] at he; cases he
/-- What is found in the block x. -/
def LookIs (G : Geo) (S : CS) (x : Int) (o : Option Fnd) : Prop :=
  ∃ X k er, IsRead G (S.raw G x 0) X k er ∧
    ((o = none ∧ (er ≠ 0 ∨ readH G.C G.R X = false)) ∨
      (er = 0 ∧ readH G.C G.R X = true ∧ o = some ⟨x, numAt X 4, numAt X 8, numAt X 12, (S.wholeD G x (1 + (pagesOf G.R (numAt X 8).toNat : Nat))).1⟩))
section
variable {G : Geo} {B : CB} {F : Nat → Prop} {N : Nat} {S : CS} {d : Nat}
set_option maxHeartbeats 3200000 in
theorem look_any (x : Int) (hx : I64 x) (w : World) (db : DBox w d B.c) (h : ChipAt G B F N S w) (hu : S.use G x true = 0) :
    Calls Tryz.prog 84 #[.pointer (some ⟨d, 0, none⟩), .int .i64 x] w fun e w' => ∃ o, LookIs G S x o ∧ e = .returned (.tuple #[.agg #[.int .i64 (o.getD ⟨0, 0, 0, 0, false⟩).block, .int .i64 (o.getD ⟨0, 0, 0, 0, false⟩).leb, .int .i64 (o.getD ⟨0, 0, 0, 0, false⟩).bytes, .int .i64 (o.getD ⟨0, 0, 0, 0, false⟩).number, .bool (o.getD ⟨0, 0, 0, 0, false⟩).whole], .bool o.isSome]) ∧ Below w.heap.size w w' := by
  have hp0 : inB0 0 G.p = true := inB0_of (by have := G.ok.hp; omega)
  have B4 := boxIs_new w 124 ⟨0, 0, 0, 0, false⟩
  have q0 := below_one w (.cells #[.int .i64 0, .int .i64 0, .int .i64 0, .int .i64 0, .bool false] 124)
  simp only at B4
  go_enter Tryz.func84, Tryz.ntmps84
  go_wp2_with fail
  generalize w.alloc (.cells #[.int .i64 0, .int .i64 0, .int .i64 0, .int .i64 0, .bool false] 124) = w0 at *
  replace db := db.below q0 (Nat.le_refl _)
  replace h := h.below q0
  have hB4 : Hid (w.heap.size ≤ w.heap.size) := Nat.le_refl _
  generalize hgg : w.heap.size = g4 at *
  refine (drvRead_yes x 0 hx (by unfold I64; omega) w0 db h hp0 hu).mono ?_
  rintro e w1 ⟨X, k, er, ao, co, ⟨hR, hXB, _⟩, rfl, rX, q1⟩
  have hzl : (S.raw G x 0).length = G.L := by unfold CS.raw; rw [length_readZ, h.pg_ok.2]
  replace hR : IsRead G (S.raw G x 0) X k er := hR
  replace B4 := B4.below q1 (Nat.le_refl _)
  replace db := db.below q1 (Nat.le_refl _)
  replace h := h.below q1
  have q2 : Below g4 w w1 := q0.trans (q1.mono (by have := q0.size; omega))
  clear q0 q1
  by_cases her : er = 0
  · subst her
    have hXl := isRead_len hzl hR
    have HR : Hid (IsRead G (S.raw G x 0) X k 0) := hR
    rw [hXl] at rX
    rw [hXl]
    clear hR hzl
    go_wp2_with fail
    refine (drvGeometry_any w1 db h.cell h.lt).mono ?_
    rintro e w2 ⟨rfl, q3⟩
    replace B4 := B4.below q3 (Nat.le_refl _)
    replace db := db.below q3 (Nat.le_refl _)
    replace h := h.below q3
    replace rX := rX.below q3 (Nat.le_refl _)
    replace q2 := q2.trans (q3.mono (by have := q2.size; omega))
    clear q3
    go_wp2_with fail
    refine (hParse_any G.gmay ao co X w2 rX hXB).mono ?_
    rintro e w3 ⟨hp, q3⟩
    replace B4 := B4.below q3 (Nat.le_refl _)
    replace db := db.below q3 (Nat.le_refl _)
    replace h := h.below q3
    replace q2 := q2.trans (q3.mono (by have := q2.size; omega))
    clear q3 rX
    rcases hp with ⟨rfl, hrd⟩ | ⟨rfl, hrd⟩
    · have HN : Hid (LookIs G S x none) := ⟨X, k, 0, HR.out, .inl ⟨rfl, .inr hrd⟩⟩
      clear hrd HR
      have q3 := below_one w3 (.cells #[.int .i64 0, .int .i64 0, .int .i64 0] 106)
      replace B4 := B4.below q3 (Nat.le_refl _)
      replace q2 := q2.trans (q3.mono (by have := q2.size; omega))
      have HB : Hid (BoxIs _ g4 124 ⟨0, 0, 0, 0, false⟩) := B4.store ⟨0, 0, 0, 0, false⟩
      have HQ : Hid (Below g4 w ((((((w3.alloc (.cells #[.int .i64 0, .int .i64 0, .int .i64 0] 106)).setCell ⟨g4, 0, none⟩ (.int .i64 0)).setCell ⟨g4, 1, none⟩ (.int .i64 0)).setCell ⟨g4, 2, none⟩ (.int .i64 0)).setCell ⟨g4, 3, none⟩ (.int .i64 0)).setCell ⟨g4, 4, none⟩ (.bool false))) := below_store q2 (Nat.le_refl g4) _ _ _ _ _
      obtain ⟨d0, d1, d2, d3, d4⟩ := B4.fat
      obtain ⟨f0, f1, f2, f3, f4⟩ := B4.soft
      simp only at HB d0 d1 d2 d3 d4
      go_wp2_with fail
      generalize ((((((w3.alloc (.cells #[.int .i64 0, .int .i64 0, .int .i64 0] 106)).setCell ⟨g4, 0, none⟩ (.int .i64 0)).setCell ⟨g4, 1, none⟩ (.int .i64 0)).setCell ⟨g4, 2, none⟩ (.int .i64 0)).setCell ⟨g4, 3, none⟩ (.int .i64 0)).setCell ⟨g4, 4, none⟩ (.bool false)) = wf at *
      clear d0 d1 d2 d3 d4 f0 f1 f2 f3 f4
      obtain ⟨c0, c1, c2, c3, c4⟩ := HB.out.fat
      simp only at c0 c1 c2 c3 c4
      refine bodyPost_ret (v := .tuple #[.agg #[.int .i64 0, .int .i64 0, .int .i64 0, .int .i64 0, .bool false], .bool false]) ?_ rfl ?_
      · simp [results, Tryz.results84, go_sem, c0, c1, c2, c3, c4]
      · exact ⟨none, HN.out, rfl, by first | exact HQ.out | (rw [hgg]; exact HQ.out)⟩
    · have hmay : mayH G.C (numAt X 4) (numAt X 8) (numAt X 12) = true := by unfold readH at hrd; rw [Bool.and_eq_true] at hrd; exact hrd.1
      have hm := mayH_yes hmay
      obtain ⟨y, hy⟩ := Int.eq_ofNat_of_zero_le (show 0 ≤ numAt X 8 by omega)
      have hyC : y ≤ G.C := by omega
      have HY : Hid ((numAt X 8).toNat = y) := by show _ = _; omega
      have HYE : Hid (numAt X 8 = (y : Int)) := hy
      have hpg : pagesOf G.R y ≤ 63 := by
        have h1 := pagesOf_mono (R := G.R) hyC
        have h2 : pagesOf G.R G.C = (G.p - 1).toNat := pagesOf_mul (by have := G.ok.hR1; omega)
        have := G.ok.hp
        omega
      have HN : Hid (∀ wh, wh = (S.wholeD G x (1 + (pagesOf G.R y : Nat))).1 → LookIs G S x (some ⟨x, numAt X 4, numAt X 8, numAt X 12, wh⟩)) := fun wh hwh => ⟨X, k, 0, HR.out, .inr ⟨rfl, hrd, by rw [hwh, HY.out]⟩⟩
      clear hrd HR hmay hm HY hy
      have q3 := below_one w3 (.cells #[.int .i64 (numAt X 4), .int .i64 (numAt X 8), .int .i64 (numAt X 12)] 106)
      have hbx := hbox_new w3 106 (numAt X 4) (numAt X 8) (numAt X 12)
      replace B4 := B4.below q3 (Nat.le_refl _)
      replace db := db.below q3 (Nat.le_refl _)
      replace h := h.below q3
      replace q2 := q2.trans (q3.mono (by have := q2.size; omega))
      go_wp2_with fail
      generalize w3.alloc (.cells #[.int .i64 (numAt X 4), .int .i64 (numAt X 8), .int .i64 (numAt X 12)] 106) = w4 at *
      generalize w3.heap.size = bh at *
      clear q3
      refine held_begin (by kernel_rfl) ?_
      refine held_reads (rs := [0, 2, 3]) (fuel := 7) (by kernel_rfl) (fun c d v a w h => by cases d <;> exact h) (by kernel_rfl) (Since.drew _) (fun K hK => ?_)
      refine calm_move _ rfl (by rfl) rfl ?_
      go_simp
      refine calm_do (.pointer (some ⟨bh, 1, none⟩)) rfl (by rfl) (fun w' hw' => ?_) ?_
      · go_simp
      go_simp
      refine calm_do (.int .i64 (numAt X 8)) rfl (by rfl) (fun w' hw' => ?_) ?_
      · have c1 := (hbx.below hw' (Nat.le_refl _)).c1
        go_simp
      go_simp
      refine calm_nil (hK.out _ ?_)
      clear hK K
      refine held_call (i := 1) (fuel := 6) (by kernel_rfl) rfl (by rfl) (fun K hK => ?_)
      go_simp
      refine (drvGeometry_any w4.drew (db.below (Since.drew w4) (Nat.le_refl _)) (h.below (Since.drew w4)).cell (h.below (Since.drew w4)).lt).mono ?_
      rintro e w5 ⟨rfl, qq0⟩
      have q3 : Since w4 w5 := Since.trans (Since.drew _) qq0
      refine hK _ _ q3 ?_
      clear hK K qq0
      replace B4 := B4.below q3 (Nat.le_refl _)
      replace db := db.below q3 (Nat.le_refl _)
      replace h := h.below q3
      replace hbx := hbx.below q3 (Nat.le_refl _)
      replace q2 := q2.trans (q3.mono (by have := q2.size; omega))
      clear q3
      refine held_call (i := 4) (fuel := 5) (by kernel_rfl) rfl (by rfl) (fun K hK => ?_)
      go_simp
      have hpp := hPages_yes G.gmay y w5 hyC
      rw [← HYE.out] at hpp
      refine hpp.mono ?_
      clear hpp
      rintro e w6 ⟨rfl, qq0⟩
      have q3 : Since w5 w6 := qq0
      refine hK _ _ q3 ?_
      clear hK K qq0
      replace B4 := B4.below q3 (Nat.le_refl _)
      replace db := db.below q3 (Nat.le_refl _)
      replace h := h.below q3
      replace hbx := hbx.below q3 (Nat.le_refl _)
      replace q2 := q2.trans (q3.mono (by have := q2.size; omega))
      clear q3
      generalize pagesOf G.R y = pg at *
      refine held_reads (rs := [5, 6, 7, 8, 9]) (fuel := 0) (by kernel_rfl) (fun c d v a w h => by cases d <;> exact h) (by kernel_rfl) (Since.refl _) (fun K hK => ?_)
      go_simp
      refine calm_move _ rfl (by rfl) rfl ?_
      go_simp
      refine calm_do (.int .i64 (pg : Nat)) rfl (by rfl) (fun w' hw' => ?_) ?_
      · go_simp
      go_simp
      refine calm_do (.int .i64 0) rfl (by rfl) (fun w' hw' => ?_) ?_
      · go_simp
      go_simp
      refine calm_assign _ rfl (by rfl) rfl ?_
      go_simp
      refine calm_assign _ rfl (by rfl) rfl ?_
      go_simp
      refine calm_nil (hK.out _ ?_)
      clear hK K
      refine wpAnyH_done (by kernel_rfl) ?_ _
      go_wp2_with fail
      refine (drvWhole_any x (1 + (pg : Nat)) hx w6 db h).mono ?_
      rintro e w7 ⟨rfl, q3⟩
      replace B4 := B4.below q3 (Nat.le_refl _)
      replace hbx := hbx.below q3 (Nat.le_refl _)
      replace q2 := q2.trans (q3.mono (by have := q2.size; omega))
      clear q3 db h
      obtain ⟨wh, hwh⟩ : ∃ wh, wh = (S.wholeD G x (1 + (pg : Nat))).1 := ⟨_, rfl⟩
      replace HN : Hid (LookIs G S x (some ⟨x, numAt X 4, numAt X 8, numAt X 12, wh⟩)) := HN.out wh hwh
      rw [← hwh]
      clear hwh
      generalize (S.wholeD G x (1 + (pg : Nat))).2 = we at *
      obtain ⟨_, h0, h1, h2⟩ := hbx
      have HB : Hid (BoxIs _ g4 124 ⟨x, numAt X 4, numAt X 8, numAt X 12, wh⟩) := B4.store ⟨x, numAt X 4, numAt X 8, numAt X 12, wh⟩
      have HQ : Hid (Below g4 w (((((w7.setCell ⟨g4, 0, none⟩ (.int .i64 x)).setCell ⟨g4, 1, none⟩ (.int .i64 (numAt X 4))).setCell ⟨g4, 2, none⟩ (.int .i64 (numAt X 8))).setCell ⟨g4, 3, none⟩ (.int .i64 (numAt X 12))).setCell ⟨g4, 4, none⟩ (.bool wh))) := below_store q2 (Nat.le_refl g4) _ _ _ _ _
      obtain ⟨d0, d1, d2, d3, d4⟩ := B4.fat
      obtain ⟨f0, f1, f2, f3, f4⟩ := B4.soft
      simp only at HB d0 d1 d2 d3 d4
      go_wp2_with fail
      generalize (((((w7.setCell ⟨g4, 0, none⟩ (.int .i64 x)).setCell ⟨g4, 1, none⟩ (.int .i64 (numAt X 4))).setCell ⟨g4, 2, none⟩ (.int .i64 (numAt X 8))).setCell ⟨g4, 3, none⟩ (.int .i64 (numAt X 12))).setCell ⟨g4, 4, none⟩ (.bool wh)) = wf at *
      clear d0 d1 d2 d3 d4 f0 f1 f2 f3 f4 h0 h1 h2
      obtain ⟨c0, c1, c2, c3, c4⟩ := HB.out.fat
      simp only at c0 c1 c2 c3 c4
      refine bodyPost_ret (v := .tuple #[.agg #[.int .i64 x, .int .i64 (numAt X 4), .int .i64 (numAt X 8), .int .i64 (numAt X 12), .bool wh], .bool true]) ?_ rfl ?_
      · simp [results, Tryz.results84, go_sem, c0, c1, c2, c3, c4]
      · exact ⟨_, HN.out, rfl, by first | exact HQ.out | (rw [hgg]; exact HQ.out)⟩
  · have HN : Hid (LookIs G S x none) := ⟨X, k, er, hR, .inl ⟨rfl, .inl her⟩⟩
    have her2 : (er != 0) = true := by simp [her]
    clear hR db h rX hzl
    have HB : Hid (BoxIs _ g4 124 ⟨0, 0, 0, 0, false⟩) := B4.store ⟨0, 0, 0, 0, false⟩
    have HQ : Hid (Below g4 w (((((w1.setCell ⟨g4, 0, none⟩ (.int .i64 0)).setCell ⟨g4, 1, none⟩ (.int .i64 0)).setCell ⟨g4, 2, none⟩ (.int .i64 0)).setCell ⟨g4, 3, none⟩ (.int .i64 0)).setCell ⟨g4, 4, none⟩ (.bool false))) := below_store q2 (Nat.le_refl g4) _ _ _ _ _
    obtain ⟨d0, d1, d2, d3, d4⟩ := B4.fat
    obtain ⟨f0, f1, f2, f3, f4⟩ := B4.soft
    simp only at HB d0 d1 d2 d3 d4
    go_wp2_with fail
    generalize (((((w1.setCell ⟨g4, 0, none⟩ (.int .i64 0)).setCell ⟨g4, 1, none⟩ (.int .i64 0)).setCell ⟨g4, 2, none⟩ (.int .i64 0)).setCell ⟨g4, 3, none⟩ (.int .i64 0)).setCell ⟨g4, 4, none⟩ (.bool false)) = wf at *
    clear d0 d1 d2 d3 d4 f0 f1 f2 f3 f4
    obtain ⟨c0, c1, c2, c3, c4⟩ := HB.out.fat
    simp only at c0 c1 c2 c3 c4
    refine bodyPost_ret (v := .tuple #[.agg #[.int .i64 0, .int .i64 0, .int .i64 0, .int .i64 0, .bool false], .bool false]) ?_ rfl ?_
    · simp [results, Tryz.results84, go_sem, c0, c1, c2, c3, c4]
    · exact ⟨none, HN.out, rfl, by first | exact HQ.out | (rw [hgg]; exact HQ.out)⟩
theorem goodTo_mem {k : Nat} {x : Int} (h : x ∈ S.goodTo k) : ∃ i : Nat, x = (i : Int) ∧ i < k ∧ S.up = true ∧ S.bd x = false := by
  simp only [CS.goodTo, List.mem_map, List.mem_filter, List.mem_range, Bool.and_eq_true, Bool.not_eq_true'] at h
  obtain ⟨i, ⟨h1, h2, h3⟩, rfl⟩ := h
  exact ⟨i, rfl, h1, h2, h3⟩
theorem goodTo_use {x : Int} (h : x ∈ S.goodTo G.b.toNat) : S.use G x true = 0 ∧ I64 x := by
  obtain ⟨i, rfl, h1, h2, h3⟩ := goodTo_mem h
  have hb := G.ok.hb
  exact ⟨use_of h2 (inB0_of (by omega)) rfl h3, by unfold I64; omega⟩
theorem wholeD_zero (hup : S.up = true) : (S.wholeD G 0 0).2 = 0 := by
  have hb := G.ok.hb
  have hp := G.ok.hp
  have hr : S.rdy G 0 (within0 0 G.p) = 0 := rdy_of hup (inB0_of (by omega)) (by unfold within0; rw [decide_eq_true_iff]; omega)
  unfold CS.wholeD
  rw [if_neg (by rw [hr]; simp)]
theorem wholeD_down (x y : Int) (hup : S.up = false) : S.wholeD G x y = (false, 70) := by
  have hr : S.rdy G x (within0 y G.p) = 70 := by unfold CS.rdy; rw [if_pos hup]
  unfold CS.wholeD
  rw [if_pos (by rw [hr]; simp), hr]
theorem scan_down (w : World) (db : DBox w d B.c) (h : ChipAt G B F N S w) (hup : S.up = false) : Calls Tryz.prog 59 #[.pointer (some ⟨d, 0, none⟩)] w fun e w' => e = .returned (.tuple #[.slice none 0 0, .int .i64 70]) ∧ Below w.heap.size w w' := by
  have hw := drvWhole_any 0 0 (by unfold I64; omega) w db h
  rw [wholeD_down 0 0 hup] at hw
  clear db h
  go_enter Tryz.func59, Tryz.ntmps59
  go_wp2_with fail
  refine hw.mono ?_
  rintro e w1 ⟨rfl, q1⟩
  go_wp2_with fail
  go_ret2
  exact ⟨rfl, q1⟩
set_option maxHeartbeats 3200000 in
/-- What is found: of each good block what looking at it tells, if that is but one answer. -/
theorem scan_yes (w : World) (db : DBox w d B.c) (h : ChipAt G B F N S w) (hup : S.up = true) (o : Int → Option Fnd) (ho : ∀ x, x ∈ S.goodTo G.b.toNat → ∀ o', LookIs G S x o' → o' = o x) :
    Calls Tryz.prog 59 #[.pointer (some ⟨d, 0, none⟩)] w fun e w' => ∃ v, e = .returned (.tuple #[v, .int .i64 0]) ∧ w'.ownsRow w.heap.size 124 5 v ((S.goodTo G.b.toNat).filterMap o).length (fcells ((S.goodTo G.b.toNat).filterMap o)) ∧ Below w.heap.size w w' := by
  obtain ⟨ip, hip, hip'⟩ : ∃ i, Tryz.prog.info? 124 = some i ∧ (i.zero, i.size, i.bytes) = (some (.agg #[.int .i64 0, .int .i64 0, .int .i64 0, .int .i64 0, .bool false]), 5, 40) := by
    have := infoFound
    rw [Option.map_eq_some_iff] at this
    exact this
  simp only [Prod.mk.injEq] at hip'
  obtain ⟨hip0, hip1, hip2⟩ := hip'
  have hw0 := drvWhole_any 0 0 (by unfold I64; omega) w db h
  rw [wholeD_zero hup] at hw0
  have hgl : (S.goodTo G.b.toNat).length ≤ 256 := by have h1 := goodTo_len (S := S) G.b.toNat; have := G.ok.hb; omega
  have HUSE : Hid (∀ x, x ∈ S.goodTo G.b.toNat → S.use G x true = 0 ∧ I64 x) := fun x hx => goodTo_use hx
  have HDB : Hid (DBox w d B.c) := db
  have HCH : Hid (ChipAt G B F N S w) := h
  have HO : Hid (∀ x, x ∈ S.goodTo G.b.toNat → ∀ o', LookIs G S x o' → o' = o x) := ho
  go_enter Tryz.func59, Tryz.ntmps59
  go_wp2_with fail
  refine hw0.mono ?_
  rintro e w1 ⟨rfl, q1⟩
  generalize (S.wholeD G 0 0).1 = b0 at *
  replace db := db.below q1 (Nat.le_refl _)
  replace h := h.below q1
  go_wp2_with fail
  refine (drvGood_any w1 db h).mono ?_
  rintro e w2 ⟨gv, rfl, gown, q2⟩
  obtain ⟨ga, gc, rfl, grow⟩ := row_of_owns gown
  have HG : Hid (Row .i64 w2 ga (S.goodTo G.b.toNat).length gc (S.goodTo G.b.toNat)) := grow
  have Q2 : Hid (Below w.heap.size w w2) := btrans q1 q2
  have HTK : Hid ((S.goodTo G.b.toNat).take (S.goodTo G.b.toNat).length = S.goodTo G.b.toNat) := List.take_length
  have hgm := grow.hmax
  have hgc := grow.hcap
  unfold maxLen at hgm
  clear gown grow q1 q2 db h ho hw0
  obtain ⟨L, HLE⟩ : ∃ L, L = S.goodTo G.b.toNat := ⟨_, rfl⟩
  rw [← HLE] at hgl HUSE HO HG hgc HTK
  have HLL : Hid (L = S.goodTo G.b.toNat) := HLE
  rw [← HLE]
  clear HLE
  obtain ⟨n, hn⟩ : ∃ n, n = L.length := ⟨_, rfl⟩
  rw [← hn] at hgl HG hgc HTK
  have HN : Hid (n = L.length) := hn
  rw [← hn]
  clear hn
  go_wp2_with fail
  go_loopw [6, 22] (fun v i wr => ∃ k : Nat, k ≤ n ∧ i = .int .i64 (k : Int) ∧ Hid (wr.ownsRow w2.heap.size 124 5 v ((L.take k).filterMap o).length (fcells ((L.take k).filterMap o))) ∧ Hid (Below w2.heap.size w2 wr)) (fun _ i _ => n - (RowKit.intOf i).toNat)
  case atStart => exact ⟨0, by omega, rfl, World.ownsRow_nil _ _ _ _, Below.refl _ _⟩
  case round =>
    obtain ⟨k, hk, rfl, OW, QW⟩ := hrel
    have Q : Hid (Below w.heap.size w wr) := Q2.out.trans (QW.out.mono Q2.out.size)
    have hsz := QW.out.size
    by_cases hlt : k < n
    · have hlt' : (k : Int) < (n : Int) := by omega
      have hmem : L[k]?.getD 0 ∈ L := mem_getD L k (by have := HN.out; omega)
      obtain ⟨hu, hxi⟩ := HUSE.out _ hmem
      have hlook := fun o' => HO.out _ hmem o'
      have HT : Hid (L.take (k + 1) = L.take k ++ [L[k]?.getD 0]) := take_snocB L k (by have := HN.out; omega)
      obtain ⟨gb, go, rfl, _, gcell⟩ := (HG.out.below QW.out (Nat.le_refl _)).hcell (by omega)
      have gc0 := gcell k hlt
      have hle : ((L.take k).filterMap o).length ≤ 256 := by
        have h1 := List.length_filterMap_le o (L.take k)
        have h2 : (L.take k).length ≤ k := List.length_take_le _ _
        omega
      clear gcell hmem
      generalize L[k]?.getD 0 = x at *
      obtain ⟨m, hm⟩ : ∃ m, m = ((L.take k).filterMap o).length := ⟨_, rfl⟩
      rw [← hm] at OW hle
      have HM : Hid (m = ((L.take k).filterMap o).length) := hm
      clear hm
      go_wp2_with fail
      refine (look_any x hxi wr (HDB.out.below Q.out (Nat.le_refl _)) (HCH.out.below Q.out) hu).mono ?_
      rintro e w3 ⟨o', hl, rfl, q3⟩
      have ho' := hlook o' hl
      subst ho'
      have OW3 : Hid (w3.ownsRow w2.heap.size 124 5 _ m (fcells ((L.take k).filterMap o))) := owns_same (w' := w3) OW.out (fun b hb => q3.block b (owns_lt OW.out hb).2)
      have QW3 : Hid (Below w2.heap.size w2 w3) := QW.out.trans (q3.mono hsz)
      clear hl hlook q3 OW Q QW gc0
      have hs4 := QW3.out.size
      cases hox : o x with
      | none =>
        have HE : Hid (fcells ((L.take (k + 1)).filterMap o) = fcells ((L.take k).filterMap o) ∧ ((L.take (k + 1)).filterMap o).length = m) := by
          show _ ∧ _
          rw [HT.out, List.filterMap_append, HM.out]; simp [hox]
        simp only [Option.getD_none, Option.isSome_none]
        go_wp2_with fail
        go_roundw
        case rel =>
          refine ⟨k + 1, by omega, by go_num, ?_, QW3.out.alloc hs4 _⟩
          show World.ownsRow _ _ _ _ _ _ _
          rw [HE.out.1, HE.out.2]
          exact OW3.out.alloc _
        case measure => simp [RowKit.intOf]; omega
      | some f =>
        have HE : Hid (fcells ((L.take (k + 1)).filterMap o) = fcells ((L.take k).filterMap o) ++ f.cells ∧ ((L.take (k + 1)).filterMap o).length = m + 1) := by
          show _ ∧ _
          rw [HT.out, List.filterMap_append, HM.out]
          refine ⟨?_, by simp [hox]⟩
          rw [fcells_append]
          simp [hox, fcells]
        simp only [Option.getD_some, Option.isSome_some]
        have OWB : Hid (World.ownsRow _ w2.heap.size 124 5 _ m (fcells ((L.take k).filterMap o))) := (OW3.out.alloc (.cells #[.int .i64 f.block, .int .i64 f.leb, .int .i64 f.bytes, .int .i64 f.number, .bool f.whole] 124)).alloc (.cells #[.int .i64 f.block, .int .i64 f.leb, .int .i64 f.bytes, .int .i64 f.number, .bool f.whole] 124)
        go_wp2_with (at_builtin; refine wpList_append_own _ rfl _ _ 93 rfl w2.heap.size 124 ip (.agg #[.int .i64 0, .int .i64 0, .int .i64 0, .int .i64 0, .bool false]) 5 40 Tryz.underlying93 hip hip0 hip1 hip2 rfl (by decide) _ m _ rfl OWB.out ⟨w3.heap.size + 1, 0, none⟩ 1 1 [.int .i64 f.block, .int .i64 f.leb, .int .i64 f.bytes, .int .i64 f.number, .bool f.whole] rfl rfl ?c1 ?c2 ?c3 ?c4 ?c5 ?_)
        case c1 =>
          have := cells_new5 (w3.alloc (.cells #[.int .i64 f.block, .int .i64 f.leb, .int .i64 f.bytes, .int .i64 f.number, .bool f.whole] 124)) f 124
          rw [show (w3.alloc (.cells #[.int .i64 f.block, .int .i64 f.leb, .int .i64 f.bytes, .int .i64 f.number, .bool f.whole] 124)).heap.size = w3.heap.size + 1 by simp] at this
          exact this
        case c2 => exact f.cells_one
        case c3 => unfold maxLen; omega
        case c4 => omega
        case c5 => simp; omega
        intro v' w4 own4 grow4 _
        have hq4 : Below w2.heap.size w2 w4 := ((QW3.out.alloc hs4 _).alloc (by simp; omega) _).grown grow4 (by simp; omega) (fun i hi => (owns_lt OW3.out hi).1)
        have HF : Hid (w4.ownsRow w2.heap.size 124 5 v' ((L.take (k + 1)).filterMap o).length (fcells ((L.take (k + 1)).filterMap o))) := by
          show World.ownsRow _ _ _ _ _ _ _
          rw [HE.out.1, HE.out.2]
          exact own4
        have HQ4 : Hid _ := hq4
        clear hq4 own4 grow4 OWB OW3 QW3
        go_wp2_with fail
        go_roundw
        case rel => exact ⟨k + 1, by omega, by go_num, HF, HQ4⟩
        case measure => simp [RowKit.intOf]; omega
    · obtain rfl : k = n := by omega
      rw [HTK.out] at OW
      have HF : Hid _ := owns_base OW.out Q2.out.size
      clear OW
      go_wp2_with fail
      go_ret2
      exact ⟨_, rfl, by rw [← HLL.out]; exact HF.out, Q.out⟩
end
end Go.Proofs.YtbafkakhhelcmaaGreat
