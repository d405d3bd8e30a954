/-
  The code of layer 10 (attach), as it landed: look, Scan.
-/
import Derived.Test.YtgamakejaknagaaGreatPackV
import Derived.Test.YtgamakejaknagaaGreatPackS
import Derived.Test.YtgamakejaknagaaGreatPackT
import Derived.Shelf.SlSortCmp.WholeK
import Derived.LoopN
namespace Go.Proofs.YtgamakejaknagaaGreat
open Go.RowKit Go.Maps
set_option linter.unusedVariables false
set_option maxRecDepth 8192

/-- How many bytes a logical block may have. -/
def Geo.C (G : Geo) : Nat := (G.p - 1).toNat * G.R
theorem Geo.gmay (G : Geo) : GMay G.b G.p G.s G.n (G.f : Nat) G.R G.C := by
  have g := G.ok
  have h1 := g.hp
  have h2 := g.hR1
  have h3 : (G.p - 1).toNat * G.R ≤ 63 * 64 := Nat.mul_le_mul (by omega) h2.2
  have h4 : 1 * G.R ≤ (G.p - 1).toNat * G.R := Nat.mul_le_mul_right _ (by omega)
  refine ⟨g.may, g.hs.2, by have := g.hn; omega, g.hR, by omega, h1, ?_, by unfold Geo.C; omega⟩
  unfold Geo.C
  rw [Int.natCast_mul, Int.toNat_of_nonneg (by omega)]
theorem isRead_len {G : Geo} {z X : List Int} {k : Nat} (hl : z.length = G.L) (h : IsRead G z X k 0) : X.length = G.R := by
  have g := G.ok
  rcases h with ⟨_, _, _, h⟩ | ⟨_, S, hS, ⟨_, _, _, h⟩ | ⟨ho, rfl, _, _⟩⟩
  · split at h <;> cases h
  · cases h
  · rw [length_dataTo (n := G.n), g.hR]
    intro j hj
    rcases hS j hj with ⟨_, q, hd⟩ | ⟨he, _⟩
    · have h1 := g.at_ hj
      rw [hd.1, length_part (by have := g.hW; omega)]
    · rw [ho j hj] at he; cases he
/-- What is found in the block x. -/
def LookIs (G : Geo) (S : CS) (x : Int) (o : Option Fnd) : Prop :=
  ∃ X k er, IsRead G (S.raw G x 0) X k er ∧
    ((o = none ∧ (er ≠ 0 ∨ readH G.C G.R X = false)) ∨
      (er = 0 ∧ readH G.C G.R X = true ∧ o = some ⟨x, numAt X 4, numAt X 8, numAt X 12, (S.wholeD G x (1 + (pagesOf G.R (numAt X 8).toNat : Nat))).1⟩))
section
variable {G : Geo} {B : CB} {F : Nat → Prop} {N : Nat} {S : CS} {d : Nat}
set_option maxHeartbeats 3200000 in
theorem look_any (x : Int) (hx : I64 x) (w : World) (db : DBox w d B.c) (h : ChipAt G B F N S w) (hu : S.use G x true = 0) :
    Calls Tryz.prog 56 #[.pointer (some ⟨d, 0, none⟩), .int .i64 x] w fun e w' => ∃ o, LookIs G S x o ∧ e = .returned (.tuple #[.agg #[.int .i64 (o.getD ⟨0, 0, 0, 0, false⟩).block, .int .i64 (o.getD ⟨0, 0, 0, 0, false⟩).leb, .int .i64 (o.getD ⟨0, 0, 0, 0, false⟩).bytes, .int .i64 (o.getD ⟨0, 0, 0, 0, false⟩).number, .bool (o.getD ⟨0, 0, 0, 0, false⟩).whole], .bool o.isSome]) ∧ Below w.heap.size w w' := by
  have hp0 : inB0 0 G.p = true := inB0_of (by have := G.ok.hp; omega)
  have B4 := boxIs_new w 103 ⟨0, 0, 0, 0, false⟩
  have q0 := below_one w (.cells #[.int .i64 0, .int .i64 0, .int .i64 0, .int .i64 0, .bool false] 103)
  simp only at B4
  go_enter Tryz.func56, Tryz.ntmps56
  go_wp2_with fail
  generalize w.alloc (.cells #[.int .i64 0, .int .i64 0, .int .i64 0, .int .i64 0, .bool false] 103) = w0 at *
  replace db := db.below q0 (Nat.le_refl _)
  replace h := h.below q0
  have hB4 : Hid (w.heap.size ≤ w.heap.size) := Nat.le_refl _
  generalize hgg : w.heap.size = g4 at *
  refine (drvRead_yes x 0 hx (by unfold I64; omega) w0 db h hp0 hu).mono ?_
  rintro e w1 ⟨X, k, er, ao, co, ⟨hR, hXB, _⟩, rfl, rX, q1⟩
  have hzl : (S.raw G x 0).length = G.L := by unfold CS.raw; rw [length_readZ, h.pg_ok.2]
  replace hR : IsRead G (S.raw G x 0) X k er := hR
  replace B4 := B4.below q1 (Nat.le_refl _)
  replace db := db.below q1 (Nat.le_refl _)
  replace h := h.below q1
  have q2 : Below g4 w w1 := q0.trans (q1.mono (by have := q0.size; omega))
  clear q0 q1
  by_cases her : er = 0
  · subst her
    have hXl := isRead_len hzl hR
    have HR : Hid (IsRead G (S.raw G x 0) X k 0) := hR
    rw [hXl] at rX
    rw [hXl]
    clear hR hzl
    go_wp2_with fail
    refine (drvGeometry_any w1 db h.cell h.lt).mono ?_
    rintro e w2 ⟨rfl, q3⟩
    replace B4 := B4.below q3 (Nat.le_refl _)
    replace db := db.below q3 (Nat.le_refl _)
    replace h := h.below q3
    replace rX := rX.below q3 (Nat.le_refl _)
    replace q2 := q2.trans (q3.mono (by have := q2.size; omega))
    clear q3
    go_wp2_with fail
    refine (hParse_any G.gmay ao co X w2 rX hXB).mono ?_
    rintro e w3 ⟨hp, q3⟩
    replace B4 := B4.below q3 (Nat.le_refl _)
    replace db := db.below q3 (Nat.le_refl _)
    replace h := h.below q3
    replace q2 := q2.trans (q3.mono (by have := q2.size; omega))
    clear q3 rX
    rcases hp with ⟨rfl, hrd⟩ | ⟨rfl, hrd⟩
    · have HN : Hid (LookIs G S x none) := ⟨X, k, 0, HR.out, .inl ⟨rfl, .inr hrd⟩⟩
      clear hrd HR
      have q3 := below_one w3 (.cells #[.int .i64 0, .int .i64 0, .int .i64 0] 90)
      replace B4 := B4.below q3 (Nat.le_refl _)
      replace q2 := q2.trans (q3.mono (by have := q2.size; omega))
      have HB : Hid (BoxIs _ g4 103 ⟨0, 0, 0, 0, false⟩) := B4.store ⟨0, 0, 0, 0, false⟩
      have HQ : Hid (Below g4 w ((((((w3.alloc (.cells #[.int .i64 0, .int .i64 0, .int .i64 0] 90)).setCell ⟨g4, 0, none⟩ (.int .i64 0)).setCell ⟨g4, 1, none⟩ (.int .i64 0)).setCell ⟨g4, 2, none⟩ (.int .i64 0)).setCell ⟨g4, 3, none⟩ (.int .i64 0)).setCell ⟨g4, 4, none⟩ (.bool false))) := below_store q2 (Nat.le_refl g4) _ _ _ _ _
      obtain ⟨d0, d1, d2, d3, d4⟩ := B4.fat
      obtain ⟨f0, f1, f2, f3, f4⟩ := B4.soft
      simp only at HB d0 d1 d2 d3 d4
      go_wp2_with fail
      generalize ((((((w3.alloc (.cells #[.int .i64 0, .int .i64 0, .int .i64 0] 90)).setCell ⟨g4, 0, none⟩ (.int .i64 0)).setCell ⟨g4, 1, none⟩ (.int .i64 0)).setCell ⟨g4, 2, none⟩ (.int .i64 0)).setCell ⟨g4, 3, none⟩ (.int .i64 0)).setCell ⟨g4, 4, none⟩ (.bool false)) = wf at *
      clear d0 d1 d2 d3 d4 f0 f1 f2 f3 f4
      obtain ⟨c0, c1, c2, c3, c4⟩ := HB.out.fat
      simp only at c0 c1 c2 c3 c4
      refine bodyPost_ret (v := .tuple #[.agg #[.int .i64 0, .int .i64 0, .int .i64 0, .int .i64 0, .bool false], .bool false]) ?_ rfl ?_
      · simp [results, Tryz.results56, go_sem, c0, c1, c2, c3, c4]
      · exact ⟨none, HN.out, rfl, by first | exact HQ.out | (rw [hgg]; exact HQ.out)⟩
    · have hmay : mayH G.C (numAt X 4) (numAt X 8) (numAt X 12) = true := by unfold readH at hrd; rw [Bool.and_eq_true] at hrd; exact hrd.1
      have hm := mayH_yes hmay
      obtain ⟨y, hy⟩ := Int.eq_ofNat_of_zero_le (show 0 ≤ numAt X 8 by omega)
      have hyC : y ≤ G.C := by omega
      have HY : Hid ((numAt X 8).toNat = y) := by show _ = _; omega
      have HYE : Hid (numAt X 8 = (y : Int)) := hy
      have hpg : pagesOf G.R y ≤ 63 := by
        have h1 := pagesOf_mono (R := G.R) hyC
        have h2 : pagesOf G.R G.C = (G.p - 1).toNat := pagesOf_mul (by have := G.ok.hR1; omega)
        have := G.ok.hp
        omega
      have HN : Hid (∀ wh, wh = (S.wholeD G x (1 + (pagesOf G.R y : Nat))).1 → LookIs G S x (some ⟨x, numAt X 4, numAt X 8, numAt X 12, wh⟩)) := fun wh hwh => ⟨X, k, 0, HR.out, .inr ⟨rfl, hrd, by rw [hwh, HY.out]⟩⟩
      clear hrd HR hmay hm HY hy
      have q3 := below_one w3 (.cells #[.int .i64 (numAt X 4), .int .i64 (numAt X 8), .int .i64 (numAt X 12)] 90)
      have hbx := hbox_new w3 90 (numAt X 4) (numAt X 8) (numAt X 12)
      replace B4 := B4.below q3 (Nat.le_refl _)
      replace db := db.below q3 (Nat.le_refl _)
      replace h := h.below q3
      replace q2 := q2.trans (q3.mono (by have := q2.size; omega))
      go_wp2_with fail
      generalize w3.alloc (.cells #[.int .i64 (numAt X 4), .int .i64 (numAt X 8), .int .i64 (numAt X 12)] 90) = w4 at *
      generalize w3.heap.size = bh at *
      clear q3
      refine held_begin (by kernel_rfl) ?_
      refine held_reads (rs := [0, 2, 3]) (fuel := 7) (by kernel_rfl) (fun c d v a w h => by cases d <;> exact h) (by kernel_rfl) (Since.drew _) (fun K hK => ?_)
      refine calm_move _ rfl (by rfl) rfl ?_
      go_simp
      refine calm_do (.pointer (some ⟨bh, 1, none⟩)) rfl (by rfl) (fun w' hw' => ?_) ?_
      · go_simp
      go_simp
      refine calm_do (.int .i64 (numAt X 8)) rfl (by rfl) (fun w' hw' => ?_) ?_
      · have c1 := (hbx.below hw' (Nat.le_refl _)).c1
        go_simp
      go_simp
      refine calm_nil (hK.out _ ?_)
      clear hK K
      refine held_call (i := 1) (fuel := 6) (by kernel_rfl) rfl (by rfl) (fun K hK => ?_)
      go_simp
      refine (drvGeometry_any w4.drew (db.below (Since.drew w4) (Nat.le_refl _)) (h.below (Since.drew w4)).cell (h.below (Since.drew w4)).lt).mono ?_
      rintro e w5 ⟨rfl, qq0⟩
      have q3 : Since w4 w5 := Since.trans (Since.drew _) qq0
      refine hK _ _ q3 ?_
      clear hK K qq0
      replace B4 := B4.below q3 (Nat.le_refl _)
      replace db := db.below q3 (Nat.le_refl _)
      replace h := h.below q3
      replace hbx := hbx.below q3 (Nat.le_refl _)
      replace q2 := q2.trans (q3.mono (by have := q2.size; omega))
      clear q3
      refine held_call (i := 4) (fuel := 5) (by kernel_rfl) rfl (by rfl) (fun K hK => ?_)
      go_simp
      have hpp := hPages_yes G.gmay y w5 hyC
      rw [← HYE.out] at hpp
      refine hpp.mono ?_
      clear hpp
      rintro e w6 ⟨rfl, qq0⟩
      have q3 : Since w5 w6 := qq0
      refine hK _ _ q3 ?_
      clear hK K qq0
      replace B4 := B4.below q3 (Nat.le_refl _)
      replace db := db.below q3 (Nat.le_refl _)
      replace h := h.below q3
      replace hbx := hbx.below q3 (Nat.le_refl _)
      replace q2 := q2.trans (q3.mono (by have := q2.size; omega))
      clear q3
      generalize pagesOf G.R y = pg at *
      refine held_reads (rs := [5, 6, 7, 8, 9]) (fuel := 0) (by kernel_rfl) (fun c d v a w h => by cases d <;> exact h) (by kernel_rfl) (Since.refl _) (fun K hK => ?_)
      go_simp
      refine calm_move _ rfl (by rfl) rfl ?_
      go_simp
      refine calm_do (.int .i64 (pg : Nat)) rfl (by rfl) (fun w' hw' => ?_) ?_
      · go_simp
      go_simp
      refine calm_do (.int .i64 0) rfl (by rfl) (fun w' hw' => ?_) ?_
      · go_simp
      go_simp
      refine calm_assign _ rfl (by rfl) rfl ?_
      go_simp
      refine calm_assign _ rfl (by rfl) rfl ?_
      go_simp
      refine calm_nil (hK.out _ ?_)
      clear hK K
      refine wpAnyH_done (by kernel_rfl) ?_ _
      go_wp2_with fail
      refine (drvWhole_any x (1 + (pg : Nat)) hx w6 db h).mono ?_
      rintro e w7 ⟨rfl, q3⟩
      replace B4 := B4.below q3 (Nat.le_refl _)
      replace hbx := hbx.below q3 (Nat.le_refl _)
      replace q2 := q2.trans (q3.mono (by have := q2.size; omega))
      clear q3 db h
      obtain ⟨wh, hwh⟩ : ∃ wh, wh = (S.wholeD G x (1 + (pg : Nat))).1 := ⟨_, rfl⟩
      replace HN : Hid (LookIs G S x (some ⟨x, numAt X 4, numAt X 8, numAt X 12, wh⟩)) := HN.out wh hwh
      rw [← hwh]
      clear hwh
      generalize (S.wholeD G x (1 + (pg : Nat))).2 = we at *
      obtain ⟨_, h0, h1, h2⟩ := hbx
      have HB : Hid (BoxIs _ g4 103 ⟨x, numAt X 4, numAt X 8, numAt X 12, wh⟩) := B4.store ⟨x, numAt X 4, numAt X 8, numAt X 12, wh⟩
      have HQ : Hid (Below g4 w (((((w7.setCell ⟨g4, 0, none⟩ (.int .i64 x)).setCell ⟨g4, 1, none⟩ (.int .i64 (numAt X 4))).setCell ⟨g4, 2, none⟩ (.int .i64 (numAt X 8))).setCell ⟨g4, 3, none⟩ (.int .i64 (numAt X 12))).setCell ⟨g4, 4, none⟩ (.bool wh))) := below_store q2 (Nat.le_refl g4) _ _ _ _ _
      obtain ⟨d0, d1, d2, d3, d4⟩ := B4.fat
      obtain ⟨f0, f1, f2, f3, f4⟩ := B4.soft
      simp only at HB d0 d1 d2 d3 d4
      go_wp2_with fail
      generalize (((((w7.setCell ⟨g4, 0, none⟩ (.int .i64 x)).setCell ⟨g4, 1, none⟩ (.int .i64 (numAt X 4))).setCell ⟨g4, 2, none⟩ (.int .i64 (numAt X 8))).setCell ⟨g4, 3, none⟩ (.int .i64 (numAt X 12))).setCell ⟨g4, 4, none⟩ (.bool wh)) = wf at *
      clear d0 d1 d2 d3 d4 f0 f1 f2 f3 f4 h0 h1 h2
      obtain ⟨c0, c1, c2, c3, c4⟩ := HB.out.fat
      simp only at c0 c1 c2 c3 c4
      refine bodyPost_ret (v := .tuple #[.agg #[.int .i64 x, .int .i64 (numAt X 4), .int .i64 (numAt X 8), .int .i64 (numAt X 12), .bool wh], .bool true]) ?_ rfl ?_
      · simp [results, Tryz.results56, go_sem, c0, c1, c2, c3, c4]
      · exact ⟨_, HN.out, rfl, by first | exact HQ.out | (rw [hgg]; exact HQ.out)⟩
  · have HN : Hid (LookIs G S x none) := ⟨X, k, er, hR, .inl ⟨rfl, .inl her⟩⟩
    have her2 : (er != 0) = true := by simp [her]
    clear hR db h rX hzl
    have HB : Hid (BoxIs _ g4 103 ⟨0, 0, 0, 0, false⟩) := B4.store ⟨0, 0, 0, 0, false⟩
    have HQ : Hid (Below g4 w (((((w1.setCell ⟨g4, 0, none⟩ (.int .i64 0)).setCell ⟨g4, 1, none⟩ (.int .i64 0)).setCell ⟨g4, 2, none⟩ (.int .i64 0)).setCell ⟨g4, 3, none⟩ (.int .i64 0)).setCell ⟨g4, 4, none⟩ (.bool false))) := below_store q2 (Nat.le_refl g4) _ _ _ _ _
    obtain ⟨d0, d1, d2, d3, d4⟩ := B4.fat
    obtain ⟨f0, f1, f2, f3, f4⟩ := B4.soft
    simp only at HB d0 d1 d2 d3 d4
    go_wp2_with fail
    generalize (((((w1.setCell ⟨g4, 0, none⟩ (.int .i64 0)).setCell ⟨g4, 1, none⟩ (.int .i64 0)).setCell ⟨g4, 2, none⟩ (.int .i64 0)).setCell ⟨g4, 3, none⟩ (.int .i64 0)).setCell ⟨g4, 4, none⟩ (.bool false)) = wf at *
    clear d0 d1 d2 d3 d4 f0 f1 f2 f3 f4
    obtain ⟨c0, c1, c2, c3, c4⟩ := HB.out.fat
    simp only at c0 c1 c2 c3 c4
    refine bodyPost_ret (v := .tuple #[.agg #[.int .i64 0, .int .i64 0, .int .i64 0, .int .i64 0, .bool false], .bool false]) ?_ rfl ?_
    · simp [results, Tryz.results56, go_sem, c0, c1, c2, c3, c4]
    · exact ⟨none, HN.out, rfl, by first | exact HQ.out | (rw [hgg]; exact HQ.out)⟩
theorem goodTo_mem {k : Nat} {x : Int} (h : x ∈ S.goodTo k) : ∃ i : Nat, x = (i : Int) ∧ i < k ∧ S.up = true ∧ S.bd x = false := by
  simp only [CS.goodTo, List.mem_map, List.mem_filter, List.mem_range, Bool.and_eq_true, Bool.not_eq_true'] at h
  obtain ⟨i, ⟨h1, h2, h3⟩, rfl⟩ := h
  exact ⟨i, rfl, h1, h2, h3⟩
theorem goodTo_use {x : Int} (h : x ∈ S.goodTo G.b.toNat) : S.use G x true = 0 ∧ I64 x := by
  obtain ⟨i, rfl, h1, h2, h3⟩ := goodTo_mem h
  have hb := G.ok.hb
  exact ⟨use_of h2 (inB0_of (by omega)) rfl h3, by unfold I64; omega⟩
theorem wholeD_zero (hup : S.up = true) : (S.wholeD G 0 0).2 = 0 := by
  have hb := G.ok.hb
  have hp := G.ok.hp
  have hr : S.rdy G 0 (within0 0 G.p) = 0 := rdy_of hup (inB0_of (by omega)) (by unfold within0; rw [decide_eq_true_iff]; omega)
  unfold CS.wholeD
  rw [if_neg (by rw [hr]; simp)]
set_option maxHeartbeats 3200000 in
/-- What is found: of each good block what looking at it tells, if that is but one answer. -/
theorem scan_yes (w : World) (db : DBox w d B.c) (h : ChipAt G B F N S w) (hup : S.up = true) (o : Int → Option Fnd) (ho : ∀ x, x ∈ S.goodTo G.b.toNat → ∀ o', LookIs G S x o' → o' = o x) :
    Calls Tryz.prog 35 #[.pointer (some ⟨d, 0, none⟩)] w fun e w' => ∃ v, e = .returned (.tuple #[v, .int .i64 0]) ∧ w'.ownsRow w.heap.size 103 5 v ((S.goodTo G.b.toNat).filterMap o).length (fcells ((S.goodTo G.b.toNat).filterMap o)) ∧ Below w.heap.size w w' := by
  obtain ⟨ip, hip, hip'⟩ : ∃ i, Tryz.prog.info? 103 = some i ∧ (i.zero, i.size, i.bytes) = (some (.agg #[.int .i64 0, .int .i64 0, .int .i64 0, .int .i64 0, .bool false]), 5, 40) := by
    have := infoFound
    rw [Option.map_eq_some_iff] at this
    exact this
  simp only [Prod.mk.injEq] at hip'
  obtain ⟨hip0, hip1, hip2⟩ := hip'
  have hw0 := drvWhole_any 0 0 (by unfold I64; omega) w db h
  rw [wholeD_zero hup] at hw0
  have hgl : (S.goodTo G.b.toNat).length ≤ 256 := by have h1 := goodTo_len (S := S) G.b.toNat; have := G.ok.hb; omega
  have HUSE : Hid (∀ x, x ∈ S.goodTo G.b.toNat → S.use G x true = 0 ∧ I64 x) := fun x hx => goodTo_use hx
  have HDB : Hid (DBox w d B.c) := db
  have HCH : Hid (ChipAt G B F N S w) := h
  have HO : Hid (∀ x, x ∈ S.goodTo G.b.toNat → ∀ o', LookIs G S x o' → o' = o x) := ho
  go_enter Tryz.func35, Tryz.ntmps35
  go_wp2_with fail
  refine hw0.mono ?_
  rintro e w1 ⟨rfl, q1⟩
  generalize (S.wholeD G 0 0).1 = b0 at *
  replace db := db.below q1 (Nat.le_refl _)
  replace h := h.below q1
  go_wp2_with fail
  refine (drvGood_any w1 db h).mono ?_
  rintro e w2 ⟨gv, rfl, gown, q2⟩
  obtain ⟨ga, gc, rfl, grow⟩ := row_of_owns gown
  have HG : Hid (Row .i64 w2 ga (S.goodTo G.b.toNat).length gc (S.goodTo G.b.toNat)) := grow
  have Q2 : Hid (Below w.heap.size w w2) := btrans q1 q2
  have HTK : Hid ((S.goodTo G.b.toNat).take (S.goodTo G.b.toNat).length = S.goodTo G.b.toNat) := List.take_length
  have hgm := grow.hmax
  have hgc := grow.hcap
  unfold maxLen at hgm
  clear gown grow q1 q2 db h ho hw0
  obtain ⟨L, HLE⟩ : ∃ L, L = S.goodTo G.b.toNat := ⟨_, rfl⟩
  rw [← HLE] at hgl HUSE HO HG hgc HTK
  have HLL : Hid (L = S.goodTo G.b.toNat) := HLE
  rw [← HLE]
  clear HLE
  obtain ⟨n, hn⟩ : ∃ n, n = L.length := ⟨_, rfl⟩
  rw [← hn] at hgl HG hgc HTK
  have HN : Hid (n = L.length) := hn
  rw [← hn]
  clear hn
  go_wp2_with fail
  go_loopw [6, 22] (fun v i wr => ∃ k : Nat, k ≤ n ∧ i = .int .i64 (k : Int) ∧ Hid (wr.ownsRow w2.heap.size 103 5 v ((L.take k).filterMap o).length (fcells ((L.take k).filterMap o))) ∧ Hid (Below w2.heap.size w2 wr)) (fun _ i _ => n - (RowKit.intOf i).toNat)
  case atStart => exact ⟨0, by omega, rfl, World.ownsRow_nil _ _ _ _, Below.refl _ _⟩
  case round =>
    obtain ⟨k, hk, rfl, OW, QW⟩ := hrel
    have Q : Hid (Below w.heap.size w wr) := Q2.out.trans (QW.out.mono Q2.out.size)
    have hsz := QW.out.size
    by_cases hlt : k < n
    · have hlt' : (k : Int) < (n : Int) := by omega
      have hmem : L[k]?.getD 0 ∈ L := mem_getD L k (by have := HN.out; omega)
      obtain ⟨hu, hxi⟩ := HUSE.out _ hmem
      have hlook := fun o' => HO.out _ hmem o'
      have HT : Hid (L.take (k + 1) = L.take k ++ [L[k]?.getD 0]) := take_snocB L k (by have := HN.out; omega)
      obtain ⟨gb, go, rfl, _, gcell⟩ := (HG.out.below QW.out (Nat.le_refl _)).hcell (by omega)
      have gc0 := gcell k hlt
      have hle : ((L.take k).filterMap o).length ≤ 256 := by
        have h1 := List.length_filterMap_le o (L.take k)
        have h2 : (L.take k).length ≤ k := List.length_take_le _ _
        omega
      clear gcell hmem
      generalize L[k]?.getD 0 = x at *
      obtain ⟨m, hm⟩ : ∃ m, m = ((L.take k).filterMap o).length := ⟨_, rfl⟩
      rw [← hm] at OW hle
      have HM : Hid (m = ((L.take k).filterMap o).length) := hm
      clear hm
      go_wp2_with fail
      refine (look_any x hxi wr (HDB.out.below Q.out (Nat.le_refl _)) (HCH.out.below Q.out) hu).mono ?_
      rintro e w3 ⟨o', hl, rfl, q3⟩
      have ho' := hlook o' hl
      subst ho'
      have OW3 : Hid (w3.ownsRow w2.heap.size 103 5 _ m (fcells ((L.take k).filterMap o))) := owns_same (w' := w3) OW.out (fun b hb => q3.block b (owns_lt OW.out hb).2)
      have QW3 : Hid (Below w2.heap.size w2 w3) := QW.out.trans (q3.mono hsz)
      clear hl hlook q3 OW Q QW gc0
      have hs4 := QW3.out.size
      cases hox : o x with
      | none =>
        have HE : Hid (fcells ((L.take (k + 1)).filterMap o) = fcells ((L.take k).filterMap o) ∧ ((L.take (k + 1)).filterMap o).length = m) := by
          show _ ∧ _
          rw [HT.out, List.filterMap_append, HM.out]; simp [hox]
        simp only [Option.getD_none, Option.isSome_none]
        go_wp2_with fail
        go_roundw
        case rel =>
          refine ⟨k + 1, by omega, by go_num, ?_, QW3.out.alloc hs4 _⟩
          show World.ownsRow _ _ _ _ _ _ _
          rw [HE.out.1, HE.out.2]
          exact OW3.out.alloc _
        case measure => simp [RowKit.intOf]; omega
      | some f =>
        have HE : Hid (fcells ((L.take (k + 1)).filterMap o) = fcells ((L.take k).filterMap o) ++ f.cells ∧ ((L.take (k + 1)).filterMap o).length = m + 1) := by
          show _ ∧ _
          rw [HT.out, List.filterMap_append, HM.out]
          refine ⟨?_, by simp [hox]⟩
          rw [fcells_append]
          simp [hox, fcells]
        simp only [Option.getD_some, Option.isSome_some]
        have OWB : Hid (World.ownsRow _ w2.heap.size 103 5 _ m (fcells ((L.take k).filterMap o))) := (OW3.out.alloc (.cells #[.int .i64 f.block, .int .i64 f.leb, .int .i64 f.bytes, .int .i64 f.number, .bool f.whole] 103)).alloc (.cells #[.int .i64 f.block, .int .i64 f.leb, .int .i64 f.bytes, .int .i64 f.number, .bool f.whole] 103)
        go_wp2_with (at_builtin; refine wpList_append_own _ rfl _ _ 75 rfl w2.heap.size 103 ip (.agg #[.int .i64 0, .int .i64 0, .int .i64 0, .int .i64 0, .bool false]) 5 40 Tryz.underlying75 hip hip0 hip1 hip2 rfl (by decide) _ m _ rfl OWB.out ⟨w3.heap.size + 1, 0, none⟩ 1 1 [.int .i64 f.block, .int .i64 f.leb, .int .i64 f.bytes, .int .i64 f.number, .bool f.whole] rfl rfl ?c1 ?c2 ?c3 ?c4 ?c5 ?_)
        case c1 =>
          have := cells_new5 (w3.alloc (.cells #[.int .i64 f.block, .int .i64 f.leb, .int .i64 f.bytes, .int .i64 f.number, .bool f.whole] 103)) f 103
          rw [show (w3.alloc (.cells #[.int .i64 f.block, .int .i64 f.leb, .int .i64 f.bytes, .int .i64 f.number, .bool f.whole] 103)).heap.size = w3.heap.size + 1 by simp] at this
          exact this
        case c2 => exact f.cells_one
        case c3 => unfold maxLen; omega
        case c4 => omega
        case c5 => simp; omega
        intro v' w4 own4 grow4 _
        have hq4 : Below w2.heap.size w2 w4 := ((QW3.out.alloc hs4 _).alloc (by simp; omega) _).grown grow4 (by simp; omega) (fun i hi => (owns_lt OW3.out hi).1)
        have HF : Hid (w4.ownsRow w2.heap.size 103 5 v' ((L.take (k + 1)).filterMap o).length (fcells ((L.take (k + 1)).filterMap o))) := by
          show World.ownsRow _ _ _ _ _ _ _
          rw [HE.out.1, HE.out.2]
          exact own4
        have HQ4 : Hid _ := hq4
        clear hq4 own4 grow4 OWB OW3 QW3
        go_wp2_with fail
        go_roundw
        case rel => exact ⟨k + 1, by omega, by go_num, HF, HQ4⟩
        case measure => simp [RowKit.intOf]; omega
    · obtain rfl : k = n := by omega
      rw [HTK.out] at OW
      have HF : Hid _ := owns_base OW.out Q2.out.size
      clear OW
      go_wp2_with fail
      go_ret2
      exact ⟨_, rfl, by rw [← HLL.out]; exact HF.out, Q.out⟩
end
end Go.Proofs.YtgamakejaknagaaGreat

/-
  slices.SortFunc over found blocks at whatever length: the shelf's contract, laid in plain words. (Written by tools/gen/att_sort.py.)
-/
namespace Go.Proofs.YtgamakejaknagaaGreat
open Go.RowKit Go.Shelf Go.Lib Go.Sort
set_option linter.unusedVariables false
set_option maxRecDepth 8192

def sortRen : Go.Shelf.Ren := ⟨fun | 6 => 123 | 14 => 136 | 15 => 137 | 20 => 154 | 21 => 155 | 22 => 156 | 23 => 157 | 24 => 158 | 25 => 159 | 26 => 160 | 27 => 161 | 28 => 162 | 29 => 163 | 46 => 177 | 47 => 178 | 48 => 179 | 49 => 180 | 50 => 181 | 57 => 200 | n => n, fun | 0 => 0 | 3 => 3 | 4 => 4 | 5 => 5 | 9 => 9 | 22 => 75 | 24 => 103 | 25 => 131 | 39 => 167 | 45 => 190 | 46 => 191 | 50 => 195 | 53 => 198 | 55 => 200 | 66 => 212 | 70 => 216 | 76 => 228 | 77 => 229 | n => n, fun n => n⟩
theorem sortL : SlLaysF0.n6 Tryz.prog sortRen where
  mixed := by kernel_rfl
  f6 := ⟨Tryz.f123.name, by decide, Tryz.func123.trans (congrArg some (by kernel_rfl))⟩
  f14 := ⟨Tryz.f136.name, by decide, Tryz.func136.trans (congrArg some (by kernel_rfl))⟩
  f15 := Tryz.func137.trans (congrArg some (by kernel_rfl))
  f20 := ⟨Tryz.f154.name, by decide, Tryz.func154.trans (congrArg some (by kernel_rfl))⟩
  f21 := ⟨Tryz.f155.name, by decide, Tryz.func155.trans (congrArg some (by kernel_rfl))⟩
  f22 := ⟨Tryz.f156.name, by decide, Tryz.func156.trans (congrArg some (by kernel_rfl))⟩
  f23 := ⟨Tryz.f157.name, by decide, Tryz.func157.trans (congrArg some (by kernel_rfl))⟩
  f24 := ⟨Tryz.f158.name, by decide, Tryz.func158.trans (congrArg some (by kernel_rfl))⟩
  f25 := ⟨Tryz.f159.name, by decide, Tryz.func159.trans (congrArg some (by kernel_rfl))⟩
  f26 := ⟨Tryz.f160.name, by decide, Tryz.func160.trans (congrArg some (by kernel_rfl))⟩
  f27 := ⟨Tryz.f161.name, by decide, Tryz.func161.trans (congrArg some (by kernel_rfl))⟩
  f28 := Tryz.func162.trans (congrArg some (by kernel_rfl))
  f29 := Tryz.func163.trans (congrArg some (by kernel_rfl))
  f46 := ⟨Tryz.f177.name, by decide, Tryz.func177.trans (congrArg some (by kernel_rfl))⟩
  f47 := Tryz.func178.trans (congrArg some (by kernel_rfl))
  f48 := Tryz.func179.trans (congrArg some (by kernel_rfl))
  f49 := ⟨Tryz.f180.name, by decide, Tryz.func180.trans (congrArg some (by kernel_rfl))⟩
  f50 := ⟨Tryz.f181.name, by decide, Tryz.func181.trans (congrArg some (by kernel_rfl))⟩
  f57 := ⟨Tryz.f200.name, by decide, Tryz.func200.trans (congrArg some (by kernel_rfl))⟩
  t0 := Tryz.underlying0
  a0 := Tryz.isAgg0
  z0 := Tryz.sizeOf0
  v0 := Tryz.zeroValue0
  t3 := Tryz.underlying3
  a3 := Tryz.isAgg3
  z3 := Tryz.sizeOf3
  v3 := Tryz.zeroValue3
  t4 := Tryz.underlying4
  a4 := Tryz.isAgg4
  z4 := Tryz.sizeOf4
  v4 := Tryz.zeroValue4
  t5 := Tryz.underlying5
  a5 := Tryz.isAgg5
  z5 := Tryz.sizeOf5
  v5 := Tryz.zeroValue5
  t9 := Tryz.underlying9
  a9 := Tryz.isAgg9
  z9 := Tryz.sizeOf9
  v9 := Tryz.zeroValue9
  t22 := Tryz.underlying75
  a22 := Tryz.isAgg75
  z22 := Tryz.sizeOf75
  v22 := Tryz.zeroValue75
  t25 := Tryz.underlying131
  a25 := Tryz.isAgg131
  z25 := Tryz.sizeOf131
  v25 := Tryz.zeroValue131
  t39 := Tryz.underlying167
  a39 := Tryz.isAgg167
  z39 := Tryz.sizeOf167
  v39 := Tryz.zeroValue167
  t45 := Tryz.underlying190
  a45 := Tryz.isAgg190
  z45 := Tryz.sizeOf190
  v45 := Tryz.zeroValue190
  t46 := Tryz.underlying191
  a46 := Tryz.isAgg191
  z46 := Tryz.sizeOf191
  v46 := Tryz.zeroValue191
  t50 := Tryz.underlying195
  a50 := Tryz.isAgg195
  z50 := Tryz.sizeOf195
  v50 := Tryz.zeroValue195
  t53 := Tryz.underlying198
  a53 := Tryz.isAgg198
  z53 := Tryz.sizeOf198
  v53 := Tryz.zeroValue198
  t55 := Tryz.underlying200
  a55 := Tryz.isAgg200
  z55 := Tryz.sizeOf200
  v55 := Tryz.zeroValue200
  t66 := Tryz.underlying212
  a66 := Tryz.isAgg212
  z66 := Tryz.sizeOf212
  v66 := Tryz.zeroValue212
  t70 := Tryz.underlying216
  a70 := Tryz.isAgg216
  z70 := Tryz.sizeOf216
  v70 := Tryz.zeroValue216
  t76 := Tryz.underlying228
  a76 := Tryz.isAgg228
  z76 := Tryz.sizeOf228
  v76 := Tryz.zeroValue228
  t77 := Tryz.underlying229
  a77 := Tryz.isAgg229
  z77 := Tryz.sizeOf229
  v77 := Tryz.zeroValue229
/-- Draws and new blocks alone. -/
def Grew (w w' : World) : Prop := ∃ q os, w' = Go.Sort.grow (w.drewN q) os
theorem Grew.refl (w : World) : Grew w w := ⟨0, #[], by rw [Go.Sort.grow_empty]; rfl⟩
theorem Grew.drew {w w' : World} (h : Grew w w') : Grew w w'.drew := by
  obtain ⟨q, os, rfl⟩ := h
  exact ⟨q + 1, os, rfl⟩
theorem Grew.alloc {w w' : World} (h : Grew w w') (o : Obj) : Grew w (w'.alloc o) := by
  obtain ⟨q, os, rfl⟩ := h
  exact ⟨q, os ++ #[o], by rw [Go.Sort.alloc_eq_grow, Go.Sort.grow_grow]⟩
theorem Grew.trans {a b c : World} (h : Grew a b) (k : Grew b c) : Grew a c := by
  obtain ⟨q, os, rfl⟩ := h
  obtain ⟨p, ps, rfl⟩ := k
  refine ⟨q + p, os ++ ps, ?_⟩
  rw [← Go.Sort.grow_grow]
  unfold Go.Sort.grow World.drewN
  simp [Nat.add_assoc]
theorem writingOf_grew (f : Fnd) (w : World) : Calls Tryz.prog 116 #[.agg #[.int .i64 f.block, .int .i64 f.leb, .int .i64 f.bytes, .int .i64 f.number, .bool f.whole]] w fun e w' => e = .returned (.agg #[.int .i64 f.leb, .int .i64 f.number]) ∧ Grew w w' ∧ Below w.heap.size w w' := by
  go_enter Tryz.func116, Tryz.ntmps116
  go_wp2_with fail
  refine bodyPost_ret (v := .agg #[.int .i64 f.leb, .int .i64 f.number]) (by simp [results, Tryz.results116, go_sem]) rfl ?_
  exact ⟨rfl, ((Grew.refl w).alloc _).alloc _, below_two _ _ _⟩
set_option maxHeartbeats 1600000 in
/-- The same, with the world that it leaves. -/
theorem by1_grew (nf : Int → Int → Int) (fn : Nat) (hbody : ∀ args w, Sem.run Tryz.prog (callFunc fn args) w = .ok (.enter fn args) w)
    (hcall : ∀ (a b : Int) (w : World), Calls Tryz.prog fn #[.int .i64 a, .int .i64 b] w fun e w' => e = .returned (.int .i64 (nf a b)) ∧ w = w')
    (x y : Fnd) (bx : Nat) (w : World) (hb : w.cell? ⟨bx, 0, none⟩ = some (.func (.func fn) #[] #[])) :
    Calls Tryz.prog 115 #[.agg #[.int .i64 x.block, .int .i64 x.leb, .int .i64 x.bytes, .int .i64 x.number, .bool x.whole], .agg #[.int .i64 y.block, .int .i64 y.leb, .int .i64 y.bytes, .int .i64 y.number, .bool y.whole], .pointer (some ⟨bx, 0, none⟩)] w fun e w' => e = .returned (.int .i64 (cmpF nf x y)) ∧ Grew w w' := by
  have hbl := lt_of_cell hb
  simp only at hbl
  go_enter Tryz.func115, Tryz.ntmps115
  go_wp2_with fail
  have q1 := below_two w (.cells #[.int .i64 x.block, .int .i64 x.leb, .int .i64 x.bytes, .int .i64 x.number, .bool x.whole] 103) (.cells #[.int .i64 y.block, .int .i64 y.leb, .int .i64 y.bytes, .int .i64 y.number, .bool y.whole] 103)
  have fx := (fat_new w 103 x).below (below_one _ (.cells #[.int .i64 y.block, .int .i64 y.leb, .int .i64 y.bytes, .int .i64 y.number, .bool y.whole] 103)) (Nat.le_refl _)
  have fy := fat_new (w.alloc (.cells #[.int .i64 x.block, .int .i64 x.leb, .int .i64 x.bytes, .int .i64 x.number, .bool x.whole] 103)) 103 y
  rw [show (w.alloc (.cells #[.int .i64 x.block, .int .i64 x.leb, .int .i64 x.bytes, .int .i64 x.number, .bool x.whole] 103)).heap.size = w.heap.size + 1 by simp] at fy
  have gr : Grew w _ := ((Grew.refl w).alloc (.cells #[.int .i64 x.block, .int .i64 x.leb, .int .i64 x.bytes, .int .i64 x.number, .bool x.whole] 103)).alloc (.cells #[.int .i64 y.block, .int .i64 y.leb, .int .i64 y.bytes, .int .i64 y.number, .bool y.whole] 103)
  have hb2 := (q1.cell (p := ⟨bx, 0, none⟩) hbl).trans hb
  generalize ((w.alloc (.cells #[.int .i64 x.block, .int .i64 x.leb, .int .i64 x.bytes, .int .i64 x.number, .bool x.whole] 103)).alloc (.cells #[.int .i64 y.block, .int .i64 y.leb, .int .i64 y.bytes, .int .i64 y.number, .bool y.whole] 103)) = w1 at *
  have hbl2 := lt_of_cell hb2
  simp only at hbl2
  clear hb hbl q1
  refine held_begin (by kernel_rfl) ?_
  refine held_reads (rs := [0, 2]) (fuel := 3) (by kernel_rfl) (fun c d v a w h => by cases d <;> exact h) (by kernel_rfl) (Since.drew _) (fun K hK => ?_)
  refine calm_do (.agg #[.int .i64 x.block, .int .i64 x.leb, .int .i64 x.bytes, .int .i64 x.number, .bool x.whole]) rfl (by rfl) (fun w' hw' => ?_) ?_
  · obtain ⟨c0, c1, c2, c3, c4⟩ := fx.below hw' (Nat.le_refl _)
    go_simp
  go_simp
  refine calm_do (.agg #[.int .i64 y.block, .int .i64 y.leb, .int .i64 y.bytes, .int .i64 y.number, .bool y.whole]) rfl (by rfl) (fun w' hw' => ?_) ?_
  · obtain ⟨c0, c1, c2, c3, c4⟩ := fy.below hw' (Nat.le_refl _)
    go_simp
  go_simp
  refine calm_nil (hK.out _ ?_)
  clear hK K
  refine held_call (i := 1) (fuel := 2) (by kernel_rfl) rfl (by rfl) (fun K hK => ?_)
  go_simp
  refine (writingOf_grew x _).mono ?_
  rintro e w3 ⟨rfl, gg, qq0⟩
  replace gr := gr.drew.trans gg
  clear gg
  have qd : Since w1 w3 := Since.trans (Since.drew _) qq0
  refine hK _ _ qd ?_
  clear hK K qq0
  replace fx := fx.below qd (Nat.le_refl _)
  replace fy := fy.below qd (Nat.le_refl _)
  replace hb2 := (qd.cell (p := ⟨bx, 0, none⟩) hbl2).trans hb2
  replace hbl2 := Nat.lt_of_lt_of_le hbl2 qd.size
  clear qd
  refine held_call (i := 3) (fuel := 1) (by kernel_rfl) rfl (by rfl) (fun K hK => ?_)
  go_simp
  refine (writingOf_grew y _).mono ?_
  rintro e w4 ⟨rfl, gg, qq0⟩
  replace gr := gr.trans gg
  clear gg
  have qd : Since w3 w4 := qq0
  refine hK _ _ qd ?_
  clear hK K qq0
  replace fx := fx.below qd (Nat.le_refl _)
  replace fy := fy.below qd (Nat.le_refl _)
  replace hb2 := (qd.cell (p := ⟨bx, 0, none⟩) hbl2).trans hb2
  clear qd hbl2
  refine held_reads (rs := [4]) (fuel := 0) (by kernel_rfl) (fun c d v a w h => by cases d <;> exact h) (by kernel_rfl) (Since.refl _) (fun K hK => ?_)
  go_simp
  refine calm_do (.bool (x.leb == y.leb && x.number == y.number)) rfl (by rfl) (fun w' hw' => ?_) ?_
  · go_simp
    by_cases h1 : x.leb = y.leb <;> by_cases h2 : x.number = y.number <;> simp [h1, h2]
  go_simp
  refine calm_nil (hK.out _ ?_)
  clear hK K
  refine wpAnyH_done (by kernel_rfl) ?_ _
  obtain ⟨x0, x1, x2, x3, x4⟩ := fx
  obtain ⟨y0, y1, y2, y3, y4⟩ := fy
  cases hs : (x.leb == y.leb && x.number == y.number)
  · have HC : Hid (cmpF nf x y = nf x.number y.number) := by show _ = _; unfold cmpF; rw [if_neg (by rw [hs]; simp)]
    go_wp2_with fail
    refine (hcall _ _ _).mono ?_
    rintro e w' ⟨rfl, rfl⟩
    go_wp2_with fail
    go_ret
    exact ⟨ret_int HC.out.symm, gr⟩
  · have HC : Hid (cmpF nf x y = cmpI x.block y.block) := by show _ = _; unfold cmpF; rw [if_pos hs]
    go_wp2_with fail
    refine (compare_any _ _ _).mono ?_
    rintro e w' ⟨rfl, rfl⟩
    go_wp2_with fail
    go_ret
    exact ⟨ret_int HC.out.symm, gr⟩
end Go.Proofs.YtgamakejaknagaaGreat

/-
  The code of layer 10 (attach), as it landed: a row of one logical block's blocks is sorted (whatever its length).
-/
namespace Go.Proofs.YtgamakejaknagaaGreat
open Go.RowKit
open Go.Sort (putRowK HoldsK size_flatK get_flatK)
set_option linter.unusedVariables false
set_option maxRecDepth 8192

/-- x comes ahead of y. -/
def aheadF (x y : Fnd) : Prop := x.number < y.number ∨ (x.number = y.number ∧ x.block < y.block)
theorem cmpF_ahead {x y : Fnd} (h : x.leb = y.leb) : cmpF cmpI x y < 0 ↔ aheadF x y := by
  unfold cmpF aheadF
  by_cases e : x.number = y.number
  · rw [if_pos (by simp [h, e]), cmpI_lt]; omega
  · rw [if_neg (by simp [h, e]), cmpI_lt]; omega
/-- Blocks of one logical block. -/
abbrev LebF (j : Int) := {f : Fnd // f.leb = j}
instance (j : Int) : Inhabited (LebF j) := ⟨⟨⟨0, j, 0, 0, false⟩, rfl⟩⟩
def encL {j : Int} (x : LebF j) : List Value := x.1.cells
def cfL {j : Int} (x y : LebF j) : Int := cmpF cmpI x.1 y.1
theorem ltL {j : Int} (x y : LebF j) : ltOf (cfL (j := j)) x y = true ↔ aheadF x.1 y.1 := by
  unfold ltOf cfL
  rw [decide_eq_true_iff, cmpF_ahead (by rw [x.2, y.2])]
theorem ltL_no {j : Int} (x y : LebF j) : ltOf (cfL (j := j)) x y = false ↔ ¬ aheadF x.1 y.1 := by
  rw [← ltL]; simp
theorem swoL (j : Int) : Go.Sort.SWO (ltOf (cfL (j := j))) where
  irrefl x := by rw [ltL_no]; unfold aheadF; omega
  trans x y z h1 h2 := by rw [ltL] at *; unfold aheadF at *; omega
  ntrans x y z h1 h2 := by rw [ltL_no] at *; unfold aheadF at *; omega
/-- In rising order. -/
def RisesF (l : List Fnd) : Prop := ∀ i k, i < k → k < l.length → ¬ aheadF (l[k]?.getD default) (l[i]?.getD default)
theorem sortWorld_other {α : Type} [Inhabited α] (enc : α → List Value) (k : Nat) (w : World) (blk off n : Nat) (d : Array α) (os : Array Obj) (b : Nat) (hb : b < w.heap.size) (hne : b ≠ blk) : (sortWorldK enc k w blk off n d os).heap[b]? = w.heap[b]? := by
  unfold sortWorldK Go.Sort.grow putRowK Go.Sort.putRow Go.Sort.mapBlock Go.Sort.ahead
  simp only
  rw [Array.getElem?_append_left (by simpa using hb), Array.getElem?_modify, if_neg (fun e => hne e.symm)]
theorem sortWorld_size {α : Type} [Inhabited α] (enc : α → List Value) (k : Nat) (w : World) (blk off n : Nat) (d : Array α) (os : Array Obj) : w.heap.size ≤ (sortWorldK enc k w blk off n d os).heap.size := size_sortWorldK_c enc k w blk off n d os
theorem sortWorld_self {α : Type} [Inhabited α] (enc : α → List Value) (k : Nat) (w : World) (blk off n : Nat) (d : Array α) (os : Array Obj) {cur : Array Value} {e : TypeId} {fr : Nat × Nat} (hb : w.heap[blk]? = some (.cells cur e fr)) : ∃ cur', (sortWorldK enc k w blk off n d os).heap[blk]? = some (.cells cur' e fr) ∧ cur'.size = cur.size := by
  have hlt : blk < w.heap.size := by
    rcases Nat.lt_or_ge blk w.heap.size with h' | h'
    · exact h'
    · rw [Array.getElem?_eq_none h'] at hb; simp at hb
  unfold sortWorldK Go.Sort.grow putRowK Go.Sort.putRow Go.Sort.mapBlock Go.Sort.ahead
  simp only
  rw [Array.getElem?_append_left (by simpa using hlt), Array.getElem?_modify, if_pos rfl, hb]
  exact ⟨_, rfl, by simp [Go.Sort.putCells]⟩
/-- The row of found blocks, as the shelf holds it. -/
theorem holds_of {w : World} {B g n cap : Nat} {E : TypeId} {j : Int} {l : List Fnd} (hl : ∀ f ∈ l, f.leb = j) (d : Array (LebF j)) (hd : d.toList.map Subtype.val = l) (own : w.ownsRow B E 5 (.slice (some ⟨g, 0, none⟩) n cap) n (fcells l)) : HoldsK (encL (j := j)) 5 w g 0 d := by
  rcases own.2 with ⟨h', _⟩ | ⟨g', cap', cur, h', _, hg, hnc, _, hcs, htake⟩
  · simp at h'
  simp only [Value.slice.injEq, Option.some.injEq, Addr.mk.injEq, and_true, true_and] at h'
  obtain ⟨rfl, rfl⟩ := h'
  have hlen : d.size = l.length := by rw [← hd]; simp
  have hn : l.length = n := by have := own.1; rw [fcells_len] at this; omega
  intro i hi
  rw [size_flatK] at hi
  have e : i = i / 5 * 5 + i % 5 := by omega
  have hi5 : i / 5 < d.size := by omega
  refine ⟨?_, by simp [World.frozen?, hg]⟩
  have h1 := own.cellAt i (by omega)
  rw [Nat.zero_add, h1]
  have h2 := fcells_at l (i / 5) (by omega) (i % 5) (by omega)
  rw [← e] at h2
  have h3 : l[i / 5]?.getD default = (d[i / 5]!).1 := by
    rw [← hd, getElem!_pos d _ hi5]
    simp [hi5]
  rw [h2, h3, get_flatK _ _ _ _ (by omega)]
  have : i % 5 = 0 ∨ i % 5 = 1 ∨ i % 5 = 2 ∨ i % 5 = 3 ∨ i % 5 = 4 := by omega
  rcases this with h | h | h | h | h <;> rw [h] <;> rfl
set_option maxHeartbeats 1600000 in
theorem sort_some (w : World) (B g n cap bx : Nat) (E : TypeId) (j : Int) (l : List Fnd) (hl : ∀ f ∈ l, f.leb = j) (hn : n ≤ 100000) (own : w.ownsRow B E 5 (.slice (some ⟨g, 0, none⟩) n cap) n (fcells l)) (hbx : bx ≠ g) (hb : w.cell? ⟨bx, 0, none⟩ = some (.func (.func 91) #[] #[])) :
    Calls Tryz.prog 123 #[.slice (some ⟨g, 0, none⟩) n cap, .func (.func 115) #[] #[.pointer (some ⟨bx, 0, none⟩)]] w
      fun e w' => e = .returned (.tuple #[]) ∧ ∃ T, T.Perm l ∧ RisesF T ∧ w'.ownsRow B E 5 (.slice (some ⟨g, 0, none⟩) n cap) n (fcells T) ∧ Turned (fun k => k = g) w w' := by
  have hbl := lt_of_cell hb
  simp only at hbl
  have hgl := (owns_lt own rfl).2
  obtain ⟨d, hd⟩ : ∃ d : Array (LebF j), d.toList.map Subtype.val = l := ⟨(l.pmap (fun f h => ⟨f, h⟩) hl).toArray, by simp [List.map_pmap]⟩
  have hds : d.size = n := by
    have h1 := own.1
    rw [fcells_len] at h1
    have : d.size = l.length := by rw [← hd]; simp
    omega
  have hH := holds_of hl d hd own
  have eg : ∀ args w, (callFunc 115 args).run Tryz.prog w = .ok (.enter 115 args) w := fun _ _ => rfl
  have hcmp : CmpLays Tryz.prog 115 #[.pointer (some ⟨bx, 0, none⟩)] (encL (j := j)) 5 cfL g 0 d.size w := by
    intro m os dk _ x y
    have hc : (sortWorldK encL 5 w g 0 m dk os).cell? ⟨bx, 0, none⟩ = some (.func (.func 91) #[] #[]) := by
      rw [World.cell?_of_block (w := w) (sortWorld_other _ _ _ _ _ _ _ _ bx hbl hbx)]; exact hb
    exact by1_grew cmpI 91 (fun _ _ => rfl) rising_any x.1 y.1 bx _ hc
  have hcon := AnyQ.slices_SortFunc sortL 5 Tryz.isAgg103 Tryz.sizeOf103 (encL (j := j)) (fun x => x.1.cells_len) (fun x => x.1.cells_one) cfL (swoL j) 115 #[.pointer (some ⟨bx, 0, none⟩)] g 0 cap d w eg hcmp hH hgl (by omega)
  rw [hds] at hcon
  refine hcon.mono ?_
  rintro e w' ⟨rfl, d', m, os, hp, hs, rfl⟩
  refine ⟨rfl, d'.toList.map Subtype.val, ?_, ?_, ?_, ?_⟩
  · have h1 := hp.2.2
    rw [show d'.extract 0 n = d' by rw [← hds, ← hp.1]; simp, show d.extract 0 n = d by rw [← hds]; simp] at h1
    rw [← hd]
    exact h1.map _
  · intro i k hik hk
    have hk' : k < d'.size := by simpa using hk
    have h1 := hs i k (Nat.zero_le _) hik (by have := hp.1; omega)
    rw [ltL_no, getElem!_pos d' k hk', getElem!_pos d' i (by omega)] at h1
    simpa [hk', show i < d'.size by omega] using h1
  · have hH' := holdsK_sortWorldK_c (encL (j := j)) 5 w g 0 d d' m os hH hgl hp.1
    rcases own.2 with ⟨h', _⟩ | ⟨g', cap', cur, h', hBg, hg, hnc, hcm, hcs, htake⟩
    · simp at h'
    simp only [Value.slice.injEq, Option.some.injEq, Addr.mk.injEq, and_true, true_and] at h'
    obtain ⟨rfl, rfl⟩ := h'
    obtain ⟨cur', hg', hcs'⟩ := sortWorld_self (encL (j := j)) 5 w g 0 m d' os hg
    have hl' : (fcells (d'.toList.map Subtype.val)).length = n * 5 := by rw [fcells_len]; simp; have := hp.1; omega
    refine ⟨hl', .inr ⟨g, cap, cur', rfl, hBg, hg', hnc, hcm, by omega, ?_⟩⟩
    apply List.ext_getElem?
    intro i
    rcases Nat.lt_or_ge i (n * 5) with hi | hi
    · rw [List.getElem?_take, if_pos hi]
      have e : i = i / 5 * 5 + i % 5 := by omega
      have hi5 : i / 5 < d'.size := by have := hp.1; omega
      have h1 := (hH'.cell (i := i / 5) (c := i % 5) hi5 (by omega)).1
      rw [Nat.zero_add, ← e] at h1
      have h2 : (sortWorldK (encL (j := j)) 5 w g 0 m d' os).cell? ⟨g, i, none⟩ = cur'[i]? := by simp [World.cell?, hg']
      rw [h2] at h1
      have h3 := fcells_at (d'.toList.map Subtype.val) (i / 5) (by simpa using hi5) (i % 5) (by omega)
      rw [← e] at h3
      rw [Array.getElem?_toList, h1, h3]
      have h4 : ((d'.toList.map Subtype.val)[i / 5]?).getD default = (d'[i / 5]!).1 := by
        rw [getElem!_pos d' _ hi5]
        simp [hi5]
      rw [h4]
      have : i % 5 = 0 ∨ i % 5 = 1 ∨ i % 5 = 2 ∨ i % 5 = 3 ∨ i % 5 = 4 := by omega
      rcases this with h | h | h | h | h <;> rw [h] <;> rfl
    · rw [List.getElem?_eq_none (by rw [List.length_take]; omega), List.getElem?_eq_none (by omega)]
  · exact ⟨rfl, rfl, rfl, sortWorld_size _ _ _ _ _ _ _ _, fun b hb hne => sortWorld_other _ _ _ _ _ _ _ _ b hb hne⟩
end Go.Proofs.YtgamakejaknagaaGreat

/-
  The code of layer 10 (attach), as it landed: others, Stale, whatever was found.
-/
namespace Go.Proofs.YtgamakejaknagaaGreat
open Go.RowKit
set_option linter.unusedVariables false
set_option maxRecDepth 8192

theorem len64_nought (w : World) : Calls Tryz.prog 163 #[.int .u64 0] w fun e w' => (∃ l : Int, e = .returned (.int .i64 l)) ∧ w = w' := by
  go_enter Tryz.func163, Tryz.ntmps163
  go_wp2
  go_ret
  exact ⟨⟨_, rfl⟩, rfl⟩
theorem len_nought (w : World) : Calls Tryz.prog 137 #[.int .u64 0] w fun e w' => (∃ l : Int, e = .returned (.int .i64 l)) ∧ w = w' := by
  go_enter Tryz.func137, Tryz.ntmps137
  go_wp2_with fail
  refine (len64_nought _).mono ?_
  rintro e w' ⟨⟨l, rfl⟩, rfl⟩
  go_wp2_with fail
  go_ret
  exact ⟨⟨_, rfl⟩, rfl⟩
theorem insertion_nil (v : Value) (w : World) :
    Calls Tryz.prog 154 #[.slice none 0 0, .int .i64 0, .int .i64 0, v] w fun e w' => e = .returned (.tuple #[]) ∧ w = w' := by
  go_enter Tryz.func154, Tryz.ntmps154
  go_wp2_with fail
  refine wp_loop_rounds 1 ?_
  rw [rounds_succ]
  go_wp2_with fail
  go_end0
  exact ⟨rfl, rfl⟩
theorem pdq_nil (v : Value) (lim : Int) (w : World) :
    Calls Tryz.prog 136 #[.slice none 0 0, .int .i64 0, .int .i64 0, .int .i64 lim, v] w fun e w' => e = .returned (.tuple #[]) ∧ w = w' := by
  go_enter Tryz.func136, Tryz.ntmps136
  go_wp2_with fail
  refine wp_loop_rounds 1 ?_
  rw [rounds_succ]
  go_wp2_with fail
  refine (insertion_nil v _).mono ?_
  rintro e w' ⟨rfl, rfl⟩
  go_wp2_with fail
  refine bodyPost_ret (results_none rfl _ _ _) rfl ?_
  exact ⟨rfl, rfl⟩
theorem sort_nil (v : Value) (w : World) : Calls Tryz.prog 123 #[.slice none 0 0, v] w fun e w' => e = .returned (.tuple #[]) ∧ w = w' := by
  go_enter Tryz.func123, Tryz.ntmps123
  go_wp2_with fail
  refine (len_nought _).mono ?_
  rintro e w' ⟨⟨l, rfl⟩, rfl⟩
  go_wp2_with fail
  refine (pdq_nil v l _).mono ?_
  rintro e w' ⟨rfl, rfl⟩
  go_wp2_with fail
  go_end0
  exact ⟨rfl, rfl⟩
/-- A row of one logical block, nil too. -/
theorem sort_any (w : World) (B n bx : Nat) (v : Value) (E : TypeId) (j : Int) (l : List Fnd) (hl : ∀ f ∈ l, f.leb = j) (hn : n ≤ 100000) (own : w.ownsRow B E 5 v n (fcells l)) (hbx : v.ownBlock ≠ some bx) (hb : w.cell? ⟨bx, 0, none⟩ = some (.func (.func 91) #[] #[])) :
    Calls Tryz.prog 123 #[v, .func (.func 115) #[] #[.pointer (some ⟨bx, 0, none⟩)]] w
      fun e w' => e = .returned (.tuple #[]) ∧ ∃ T, T.Perm l ∧ RisesF T ∧ w'.ownsRow B E 5 v n (fcells T) ∧ Turned (fun k => v.ownBlock = some k) w w' := by
  rcases own.2 with ⟨rfl, rfl⟩ | ⟨g, cap, cur, rfl, _⟩
  · have h0 : l = [] := by have := own.1; rw [fcells_len] at this; exact List.eq_nil_of_length_eq_zero (by omega)
    subst h0
    refine (sort_nil _ w).mono ?_
    rintro e w' ⟨rfl, rfl⟩
    exact ⟨rfl, [], List.Perm.refl _, fun i k _ hk => by simp at hk, own, Turned.refl _ _⟩
  · refine (sort_some w B g n cap bx E j l hl hn own (fun e => hbx (by rw [e]; rfl)) hb).mono ?_
    rintro e w' ⟨rfl, T, h1, h2, h3, h4⟩
    exact ⟨rfl, T, h1, h2, h3, h4.mono fun k _ hk => by rw [hk]; rfl⟩
/-- The blocks of a row but for one. -/
def othersL (T : List Fnd) (s : Int) : List Int := (T.filter fun f => decide (f.block ≠ s)).map Fnd.block
theorem othersL_yes {T : List Fnd} {s : Int} {x : Fnd} (h : x.block ≠ s) : othersL (T ++ [x]) s = othersL T s ++ [x.block] := by simp [othersL, h]
theorem othersL_no {T : List Fnd} {s : Int} {x : Fnd} (h : x.block = s) : othersL (T ++ [x]) s = othersL T s := by simp [othersL, h]
theorem othersL_le (T : List Fnd) (s : Int) : (othersL T s).length ≤ T.length := by
  unfold othersL
  rw [List.length_map]
  exact List.length_filter_le _ _
theorem standsL_perm {j : Int} {l T : List Fnd} (hl : ∀ f ∈ l, f.leb = j) (h : T.Perm l) : standsL T = standsL l :=
  stands_same (fun x => h.mem_iff) (standsL_is T j fun f hf => hl f (h.mem_iff.1 hf)) (standsL_is l j hl)
set_option maxHeartbeats 3200000 in
theorem others_any (w : World) (B n bx : Nat) (v : Value) (j : Int) (l : List Fnd) (hl : ∀ f ∈ l, f.leb = j) (hn : n ≤ 100000) (own : w.ownsRow B 103 5 v n (fcells l)) (hbx : v.ownBlock ≠ some bx) (hb : w.cell? ⟨bx, 0, none⟩ = some (.func (.func 91) #[] #[])) :
    Calls Tryz.prog 90 #[v, .func (.func 115) #[] #[.pointer (some ⟨bx, 0, none⟩)]] w
      fun e w' => ∃ T u, T.Perm l ∧ RisesF T ∧ e = .returned u ∧ w'.ownsRow w.heap.size 3 1 u (othersL T (standsL l)).length ((othersL T (standsL l)).map (Value.int .i64)) ∧ w'.ownsRow B 103 5 v n (fcells T) ∧ Turned (fun k => v.ownBlock = some k) w w' := by
  obtain ⟨iq, hiq, hiq'⟩ : ∃ i, Tryz.prog.info? 3 = some i ∧ (i.zero, i.size, i.bytes) = (some (.int .i64 0), 1, 8) := by
    have := Tryz.infoInt10
    rw [Option.map_eq_some_iff] at this
    exact this
  simp only [Prod.mk.injEq] at hiq'
  obtain ⟨hiq0, hiq1, hiq2⟩ := hiq'
  go_enter Tryz.func90, Tryz.ntmps90
  go_wp2_with fail
  refine (sort_any w B n bx v _ j l hl hn own hbx hb).mono ?_
  rintro e w1 ⟨rfl, T, hp, hri, own1, t1⟩
  have hst := standsL_perm hl hp
  obtain ⟨a, cap, rfl, r1⟩ := frow_of_owns own1
  clear own hb hbx
  go_wp2_with fail
  refine (stands_any a n cap T w1 r1).mono ?_
  rintro e w2 ⟨rfl, q2⟩
  rw [hst]
  clear hst
  have OW2 : Hid (w2.ownsRow B 103 5 (.slice a n cap) n (fcells T)) := owns_same own1 fun b hb => q2.block b (owns_lt own1 hb).2
  have T2 : Hid (Turned (fun k => (Value.slice a n cap).ownBlock = some k) w w2) := t1.trans (Turned.of_below _ q2)
  have R2 : Hid (FRow w2 a n cap T) := r1.below q2 (Nat.le_refl _)
  have HL : Hid (T.length = n) := r1.hlen
  have hm := r1.hmax
  have hcp := r1.hcap
  unfold maxLen at hm
  have HP : Hid (T.Perm l) := hp
  have HRI : Hid (RisesF T) := hri
  have HEND : Hid (T.take n = T) := List.take_of_length_le (by rw [HL.out]; exact Nat.le_refl _)
  clear own1 t1 r1 q2 hp hri hl
  obtain ⟨s, hs⟩ : ∃ s, s = standsL l := ⟨_, rfl⟩
  rw [← hs]
  have HS : Hid (s = standsL l) := hs
  clear hs
  have hw2 := T2.out.size
  go_wp2_with fail
  go_loopw [6, 16] (fun u i wr => ∃ k : Nat, k ≤ n ∧ i = .int .i64 (k : Int) ∧ Hid (wr.ownsRow w2.heap.size 3 1 u (othersL (T.take k) s).length ((othersL (T.take k) s).map (Value.int .i64))) ∧ Hid (Below w2.heap.size w2 wr)) (fun _ i _ => n - (RowKit.intOf i).toNat)
  case atStart => exact ⟨0, by omega, rfl, World.ownsRow_nil _ _ _ _, Below.refl _ _⟩
  case round =>
    obtain ⟨k, hk, rfl, OW, Q⟩ := hrel
    have hsz := Q.out.size
    by_cases hlt : k < n
    · have hlt' : (k : Int) < (n : Int) := by omega
      obtain ⟨b, off, rfl, _, hcc⟩ := (R2.out.below Q.out (Nat.le_refl _)).hcell (by omega)
      have hx := hcc k hlt
      have HT : Hid (T.take (k + 1) = T.take k ++ [T[k]?.getD default]) := take_snocF T k (by rw [HL.out]; exact hlt)
      have hle : (othersL (T.take k) s).length ≤ 100000 := by
        have h1 := othersL_le (T.take k) s
        have h2 : (T.take k).length ≤ k := List.length_take_le _ _
        omega
      clear hcc
      generalize T[k]?.getD default = x at *
      have Q1 : Hid (Below w2.heap.size w2 (wr.alloc (.cells #[.int .i64 x.block, .int .i64 x.leb, .int .i64 x.bytes, .int .i64 x.number, .bool x.whole] 103))) := Q.out.alloc hsz _
      have OW1 : Hid (World.ownsRow (wr.alloc (.cells #[.int .i64 x.block, .int .i64 x.leb, .int .i64 x.bytes, .int .i64 x.number, .bool x.whole] 103)) w2.heap.size 3 1 _ _ _) := OW.out.alloc _
      obtain ⟨c0, c1, c2, c3, c4⟩ := hx
      by_cases hxs : x.block = s
      · have HE : Hid (othersL (T.take (k + 1)) s = othersL (T.take k) s) := by show _ = _; rw [HT.out, othersL_no hxs]
        have hxs2 : (x.block != s) = false := by simp [hxs]
        clear hxs
        go_wp2_with fail
        go_roundw
        case rel => exact ⟨k + 1, by omega, by go_num, by show World.ownsRow _ _ _ _ _ _ _; rw [HE.out]; exact OW1.out, Q1⟩
        case measure => simp [RowKit.intOf]; omega
      · have HE : Hid (othersL (T.take (k + 1)) s = othersL (T.take k) s ++ [x.block]) := by show _ = _; rw [HT.out, othersL_yes hxs]
        have hxs2 : (x.block != s) = true := by simp [hxs]
        have HLEN : Hid ((othersL (T.take (k + 1)) s).length = (othersL (T.take k) s).length + 1) := by show _ = _; rw [HE.out]; simp
        generalize (othersL (T.take k) s).length = m at *
        have OWB : Hid _ := OW1.out.alloc (.cells #[.int .i64 x.block] 3)
        go_wp2_with (at_builtin; refine wpList_append_own _ rfl _ _ 32 rfl w2.heap.size 3 iq (.int .i64 0) 1 8 Tryz.underlying32 hiq hiq0 hiq1 hiq2 rfl (by decide) _ m _ rfl OWB.out ⟨wr.heap.size + 1, 0, none⟩ 1 1 [.int .i64 x.block] rfl rfl ?c1 ?c2 ?c3 ?c4 ?c5 ?_)
        case c1 =>
          have := cell_one_new (wr.alloc (.cells #[.int .i64 x.block, .int .i64 x.leb, .int .i64 x.bytes, .int .i64 x.number, .bool x.whole] 103)) (.int .i64 x.block) 3
          simpa using this
        case c2 => intro u hu; simp at hu; subst hu; rfl
        case c3 => unfold maxLen; omega
        case c4 => omega
        case c5 => simp; omega
        intro u' w3 own3 grow3 _
        have q3 : Below w2.heap.size w2 w3 := (Q1.out.alloc (by simp; omega) (.cells #[.int .i64 x.block] 3)).grown grow3 (by simp; omega) (fun i hi => (owns_lt OW.out hi).1)
        have HO : Hid (w3.ownsRow w2.heap.size 3 1 u' (othersL (T.take (k + 1)) s).length ((othersL (T.take (k + 1)) s).map (Value.int .i64))) := by
          show World.ownsRow _ _ _ _ _ _ _
          rw [HLEN.out, HE.out, List.map_append]
          exact own3
        have Q3 : Hid _ := q3
        clear q3 own3 grow3 OWB OW1 OW Q1 Q c0 c1 c2 c3 c4
        go_wp2_with fail
        go_roundw
        case rel => exact ⟨k + 1, by omega, by go_num, HO, Q3⟩
        case measure => simp [RowKit.intOf]; omega
    · obtain rfl : k = n := by omega
      rw [HEND.out] at OW
      have HF : Hid _ := owns_base OW.out hw2
      have HV : Hid (wr.ownsRow B 103 5 (.slice a k cap) k (fcells T)) := owns_same OW2.out fun b hb => Q.out.block b (owns_lt OW2.out hb).2
      have HTU : Hid (Turned (fun q => (Value.slice a k cap).ownBlock = some q) w wr) := T2.out.trans (Turned.of_below _ Q.out)
      clear OW
      go_wp2_with fail
      go_ret
      exact ⟨T, _, HP.out, HRI.out, rfl, by rw [← HS.out]; exact HF.out, HV.out, HTU.out⟩
/-- One of the rows is put in order. -/
theorem RowsAt.sorted {w w' : World} {B g L : Nat} {T E : TypeId} {R : Nat → List Fnd} {vs : Array Value} (h : RowsAt w B g L T E R vs) {j : Nat} (hj : j < L) {v : Value} (hv : vs[j]? = some v) {Tj : List Fnd} (hl : Tj.length = (R j).length) (own' : w'.ownsRow B E 5 v (R j).length (fcells Tj)) (t : Turned (fun k => v.ownBlock = some k) w w') :
    RowsAt w' B g L T E (fun i => if i = j then Tj else R i) vs := by
  refine ⟨(t.block g h.lt (h.apart j v hv)).trans h.blk, h.size, h.hg, fun i hi => ?_, h.apart, h.two⟩
  by_cases e : i = j
  · subst e
    rw [if_pos rfl]
    exact ⟨v, hv, by rw [hl]; exact own'⟩
  · rw [if_neg e]
    obtain ⟨u, e1, o⟩ := h.own i hi
    exact ⟨u, e1, owns_same o fun b hb => t.block b (owns_lt o hb).2 (fun hvb => h.two i j u v b e e1 hv hb hvb)⟩
/-- Rows of numbers behind a slice of slices: the first k are there. -/
structure IRows (w : World) (B g L : Nat) (T E : TypeId) (X : Nat → List Int) (k : Nat) (cs : Array Value) : Prop where
  blk : w.heap[g]? = some (.cells cs T (0, 0))
  size : cs.size = L
  own : ∀ j, j < k → ∃ u, cs[j]? = some u ∧ w.ownsRow B E 1 u (X j).length ((X j).map (Value.int .i64))
theorem IRows.lt {w : World} {B g L : Nat} {T E : TypeId} {X : Nat → List Int} {k : Nat} {cs : Array Value} (h : IRows w B g L T E X k cs) : g < w.heap.size := by
  rcases Nat.lt_or_ge g w.heap.size with h' | h'
  · exact h'
  · have := h.blk; rw [Array.getElem?_eq_none h'] at this; simp at this
theorem IRows.same {w w' : World} {B g L : Nat} {T E : TypeId} {X : Nat → List Int} {k : Nat} {cs : Array Value} (h : IRows w B g L T E X k cs) (hg : w'.heap[g]? = w.heap[g]?) (hs : ∀ b, B ≤ b → b < w.heap.size → w'.heap[b]? = w.heap[b]?) : IRows w' B g L T E X k cs := by
  refine ⟨hg.trans h.blk, h.size, fun j hj => ?_⟩
  obtain ⟨u, e, o⟩ := h.own j hj
  exact ⟨u, e, owns_same o fun b hb => hs b (owns_lt o hb).1 (owns_lt o hb).2⟩
theorem IRows.store {w : World} {B g L : Nat} {T E : TypeId} {X : Nat → List Int} {k : Nat} {cs : Array Value} (h : IRows w B g L T E X k cs) (hk : k < L) (hgB : g < B) {u : Value} {Y : List Int} (o : w.ownsRow B E 1 u Y.length (Y.map (Value.int .i64))) :
    IRows (w.setCell ⟨g, k, none⟩ u) B g L T E (fun i => if i = k then Y else X i) (k + 1) (cs.setIfInBounds k u) := by
  have hb : ∀ b, B ≤ b → (w.setCell ⟨g, k, none⟩ u).heap[b]? = w.heap[b]? := fun b hb => Below.heap_setCell w ⟨g, k, none⟩ u b (by show b ≠ g; omega)
  refine ⟨setCell_block h.blk k u, by simpa using h.size, fun j hj => ?_⟩
  by_cases e : j = k
  · subst e
    rw [if_pos rfl]
    exact ⟨u, by rw [Array.getElem?_setIfInBounds, if_pos rfl, if_pos (by rw [h.size]; exact hk)], owns_same o fun b hb' => hb b (owns_lt o hb').1⟩
  · rw [if_neg e]
    obtain ⟨u', e1, o'⟩ := h.own j (by omega)
    exact ⟨u', by rw [Array.getElem?_setIfInBounds, if_neg (fun e' => e e'.symm)]; exact e1, owns_same o' fun b hb' => hb b (owns_lt o' hb').1⟩
theorem IRows.congr {w : World} {B g L : Nat} {T E : TypeId} {X Y : Nat → List Int} {k : Nat} {cs : Array Value} (h : IRows w B g L T E X k cs) (e : ∀ j, j < k → X j = Y j) : IRows w B g L T E Y k cs :=
  ⟨h.blk, h.size, fun j hj => by rw [← e j hj]; exact h.own j hj⟩
theorem IRows.cell {w : World} {B g L : Nat} {T E : TypeId} {X : Nat → List Int} {k : Nat} {cs : Array Value} (h : IRows w B g L T E X k cs) (j : Nat) : w.cell? ⟨g, j, none⟩ = cs[j]? := by simp [World.cell?, h.blk]
theorem IRows.soft {w : World} {B g L : Nat} {T E : TypeId} {X : Nat → List Int} {k : Nat} {cs : Array Value} (h : IRows w B g L T E X k cs) (j : Nat) : w.frozen? ⟨g, j, none⟩ = false := by simp [World.frozen?, h.blk]
/-- What Stale tells: each row is in order. -/
def StaleIs (fs : List Fnd) (k : Nat) (X : Nat → List Int) : Prop := ∀ j, j < k → ∃ T, T.Perm (ofLeb (j : Nat) fs) ∧ RisesF T ∧ X j = othersL T (standsL (ofLeb (j : Nat) fs))
theorem Tryz.infoIntsS : (Tryz.prog.info? 32).map (fun i => (i.zero, i.size, i.bytes)) = some (some (.slice none 0 0), 1, 24) := by kernel_rfl
set_option maxHeartbeats 3200000 in
theorem attStale_yes (L : Nat) (h1 : 1 ≤ L) (hL : L ≤ 64) (a : Option Addr) (len cap : Nat) (fs : List Fnd) (w : World) (hr : FRow w a len cap fs) (hlen : len ≤ 100000) :
    Calls Tryz.prog 57 #[.int .i64 (L : Int), .slice a len cap] w fun e w' => ∃ g D X cs, e = .returned (.tuple #[.slice (some ⟨g, 0, none⟩) L L, .int .i64 0]) ∧ StaleIs fs L X ∧ IRows w' D g L 32 3 X L cs ∧ w.heap.size ≤ g ∧ g < D ∧ Below w.heap.size w w' := by
  obtain ⟨iq, hiq, hiq'⟩ : ∃ i, Tryz.prog.info? 32 = some i ∧ (i.zero, i.size, i.bytes) = (some (.slice none 0 0), 1, 24) := by
    have := Tryz.infoIntsS
    rw [Option.map_eq_some_iff] at this
    exact this
  simp only [Prod.mk.injEq] at hiq'
  obtain ⟨hiq0, hiq1, hiq2⟩ := hiq'
  have hmaxL : L ≤ maxLen := by unfold maxLen; omega
  have hlb : lebsB (L : Int) = true := by unfold lebsB; rw [decide_eq_true_iff]; omega
  have HFL : Hid (fs.length = len) := hr.hlen
  go_enter Tryz.func57, Tryz.ntmps57
  go_wp2_with fail
  refine (attMayBe_any (L : Int) _).mono ?_
  rintro e w' ⟨rfl, rfl⟩
  rw [hlb]
  go_wp2_with (at_make; refine wpList_make_full _ rfl _ _ 106 rfl w.heap.size 32 iq (.slice none 0 0) 1 Tryz.underlying106 hiq hiq0 hiq1 _ _ _ _ L rfl rfl rfl rfl (by rw [hiq2]; omega) hmaxL (Nat.le_refl _) ?_; intro w1 hown1 hgrow1)
  have q1 : Below w.heap.size w w1 := (Below.refl _ _).grown hgrow1 (Nat.le_refl _) (by simp)
  clear hgrow1
  refine (rows_any L hL a len cap fs w1 (hr.below q1 (Nat.le_refl _)) hlen).mono ?_
  rintro e w2 ⟨rfl, q2, vs, hR⟩
  have hg0 := (owns_lt hown1 rfl).2
  have hb1 := heap_of_owns hown1
  have hb2 := (q2.block _ hg0).trans hb1
  have I0 : IRows w2 w2.heap.size w.heap.size L 32 3 (fun _ => []) 0 _ := ⟨hb2, by simp [size_madeCells], fun j hj => by omega⟩
  have HR : Hid (RowsAt w2 w1.heap.size w1.heap.size L 75 103 (fun j => ofLeb (j : Nat) fs) vs) := hR
  have Q3 : Hid (Below w.heap.size w w2) := btrans q1 q2
  have hgw := q2.size
  simp only at hg0
  clear hR hr q1 q2 hown1 hb1 hb2
  generalize w1.heap.size = g1 at *
  generalize hB : w.heap.size = W at *
  generalize hD : w2.heap.size = D at *
  go_wp2_with fail
  go_loopw [18] (fun i wr => ∃ (k : Nat) (X : Nat → List Int) (cs : Array Value) (R : Nat → List Fnd), k ≤ L ∧ i = .int .i64 (k : Int) ∧ Hid (StaleIs fs k X) ∧ Hid (IRows wr D W L 32 3 X k cs) ∧ Hid (RowsAt wr g1 g1 L 75 103 R vs) ∧ Hid (∀ j, k ≤ j → j < L → R j = ofLeb (j : Nat) fs) ∧ Hid (Below W w wr) ∧ Hid (D ≤ wr.heap.size ∧ ∀ (j : Nat) (v : Value) (b : Nat), vs[j]? = some v → v.ownBlock = some b → b < D)) (fun i _ => L - (RowKit.intOf i).toNat)
  case atStart =>
    refine ⟨0, _, _, _, by omega, rfl, fun j hj => by omega, I0, HR, fun j _ _ => rfl, Q3, by rw [hD]; exact Nat.le_refl _, fun j v b hv hb => ?_⟩
    have hj : j < L := by
      rw [← HR.out.size]
      rcases Nat.lt_or_ge j vs.size with h' | h'
      · exact h'
      · rw [Array.getElem?_eq_none h'] at hv; simp at hv
    obtain ⟨v', e1, o⟩ := HR.out.own j hj
    rw [hv] at e1
    cases e1
    rw [← hD]
    exact (owns_lt o hb).2
  case round =>
    clear I0 HR Q3
    obtain ⟨k, X, cs, R, hk, rfl, HX, HI, HR, HRJ, Q, HD⟩ := hrel
    by_cases hlt : k < L
    · have hlt' : (k : Int) < (L : Int) := by omega
      obtain ⟨v, hv, own⟩ := HR.out.own k hlt
      have hRk := HRJ.out k (Nat.le_refl _) hlt
      rw [hRk] at own
      have hvc := (HR.out.cell k).trans hv
      have hvD := fun b => HD.out.2 k v b
      have hlk : (ofLeb (k : Nat) fs).length ≤ 100000 := by have h1 := ofLeb_le (k : Nat) fs; have h2 := HFL.out; omega
      have hva := HR.out.apart k v hv
      have hsz := HD.out.1
      go_wp2_with fail
      refine (by_any 91 _).mono ?_
      rintro e w3 ⟨rfl, q3, hbx⟩
      have hs3 := q3.size
      have own3 := owns_same (w' := w3) own fun b hb => q3.block b (owns_lt own hb).2
      have hbne : v.ownBlock ≠ some wr.heap.size := fun e => by have := (owns_lt own e).2; omega
      clear own hvc
      have HI3 : Hid (IRows w3 D W L 32 3 X k cs) := HI.out.same (w' := w3) (q3.block W HI.out.lt) fun b _ hb => q3.block b hb
      have HR3 : Hid (RowsAt w3 g1 g1 L 75 103 R vs) := HR.out.below q3 (Nat.le_refl _)
      have Q3 : Hid (Below W w w3) := Q.out.trans (q3.mono (by have := HI.out.lt; omega))
      have HVS := HD.out.2
      have hvg : ∀ b, v.ownBlock = some b → g1 ≤ b := fun b hb => (owns_lt own3 hb).1
      clear q3 HI HR Q HD
      generalize wr.heap.size = bx at *
      go_wp2_with fail
      refine (others_any w3 g1 _ bx v (k : Nat) (ofLeb (k : Nat) fs) (ofLeb_leb _ fs) hlk own3 hbne hbx).mono ?_
      rintro e w4 ⟨T, u, hp, hri, rfl, ou, ov, t4⟩
      have hD3 : D ≤ w3.heap.size := by omega
      have ou2 := owns_base ou hD3
      have hWD : W < D := by omega
      obtain ⟨ua, uc, hu, _⟩ := row_of_owns ou2
      obtain ⟨nu, hnu⟩ : ∃ q, q = (othersL T (standsL (ofLeb (k : Nat) fs))).length := ⟨_, rfl⟩
      rw [← hnu] at hu
      subst hu
      have HI4 := HI3.out.same (w' := w4) (t4.block W HI3.out.lt (fun e => by have := hvg W e; omega)) fun b hb1 hb2 => t4.block b hb2 (fun e => by have := hvD b hv e; omega)
      have HR4 := HR3.out.sorted (w' := w4) hlt hv (Tj := T) (by rw [hRk]; exact hp.length_eq) (by rw [hRk]; exact ov) t4
      have Q4 : Below W w w4 := Q3.out.trans (t4.below (Nat.le_of_lt HI3.out.lt) (fun b hb => by have := hvg b hb; omega))
      have hsz4 : D ≤ w4.heap.size := Nat.le_trans hD3 t4.size
      have hcell := HI4.cell k
      have hfr := HI4.soft k
      have hks : k < cs.size := by rw [HI4.size]; exact hlt
      rw [Array.getElem?_eq_getElem hks] at hcell
      have HIF : Hid _ := HI4.store hlt hWD ou2
      have HRF : Hid _ := HR4.same (w' := w4.setCell ⟨W, k, none⟩ (.slice ua nu uc)) fun b hb1 _ => Below.heap_setCell w4 ⟨W, k, none⟩ (.slice ua nu uc) b (by show b ≠ W; omega)
      have HQF : Hid (Below W w (w4.setCell ⟨W, k, none⟩ (.slice ua nu uc))) := Q4.setCell (p := ⟨W, k, none⟩) (Nat.le_refl _) _
      have HXF : Hid (StaleIs fs (k + 1) (fun i => if i = k then othersL T (standsL (ofLeb (k : Nat) fs)) else X i)) := fun i hi => by
        by_cases e : i = k
        · subst e
          exact ⟨T, hp, hri, by show (if _ then _ else _) = _; rw [if_pos rfl]⟩
        · obtain ⟨T', h1', h2', h3'⟩ := HX.out i (by omega)
          exact ⟨T', h1', h2', by show (if _ then _ else _) = _; rw [if_neg e]; exact h3'⟩
      have HJF : Hid (∀ i, k + 1 ≤ i → i < L → (if i = k then T else R i) = ofLeb (i : Nat) fs) := fun i h1' h2' => by rw [if_neg (by omega)]; exact HRJ.out i (by omega) h2'
      generalize cs[k] = oldv at *
      clear hnu HI4 HR4 Q4 ou ov t4 ou2 hp hri HI3 HR3 Q3 HX HRJ own3 hbx
      go_wp2_with fail
      go_roundw
      case rel => exact ⟨k + 1, _, _, _, by omega, by go_num, HXF, HIF, HRF, HJF, HQF, by simpa using hsz4, HVS⟩
      case measure => simp [RowKit.intOf]; omega
    · obtain rfl : k = L := by omega
      have HI2 := HI.out
      clear HI HR
      go_wp2_with fail
      go_ret2
      subst hB
      exact ⟨_, D, X, cs, rfl, HX.out, HI2, Nat.le_refl _, by omega, Q.out⟩
end Go.Proofs.YtgamakejaknagaaGreat
