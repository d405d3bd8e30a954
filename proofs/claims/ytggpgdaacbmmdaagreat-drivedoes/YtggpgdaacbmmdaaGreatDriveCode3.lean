/-
  The code of layer 8 (drive), as it landed: Whole, Good.
-/
import Derived.Test.YtggpgdaacbmmdaaGreatDriveCode2
namespace Go.Proofs.YtggpgdaacbmmdaaGreat
open Go.RowKit Go.Maps
set_option linter.unusedVariables false
set_option maxRecDepth 8192

/-- The raw bytes of a page, as they are read. -/
def CS.raw (G : Geo) (S : CS) (x y : Int) : List Int := readZ G.L (S.pg x y) (S.wr x y)
/-- Do the first k pages of a block bear their marks? -/
def CS.markTo (G : Geo) (S : CS) (x : Int) : Nat → Bool
  | 0 => true
  | k + 1 => S.markTo G x k && decide ((S.raw G x (k : Int))[G.L - 1]?.getD 0 = 0)
theorem markTo_no {G : Geo} {S : CS} {x : Int} {k : Nat} : ∀ {n : Nat}, k < n → (S.raw G x (k : Int))[G.L - 1]?.getD 0 ≠ 0 → S.markTo G x n = false := by
  intro n
  induction n with
  | zero => intro h; omega
  | succ n ih =>
    intro h hn
    show (S.markTo G x n && decide ((S.raw G x (n : Int))[G.L - 1]?.getD 0 = 0)) = false
    by_cases hk : k = n
    · subst hk; rw [decide_eq_false hn, Bool.and_false]
    · rw [ih (by omega) hn, Bool.false_and]
/-- What Whole answers. -/
def CS.wholeD (G : Geo) (S : CS) (x y : Int) : Bool × Int := if S.rdy G x (within0 y G.p) ≠ 0 then (false, S.rdy G x (within0 y G.p)) else (!S.bd x && S.markTo G x y.toNat, 0)

section
variable {G : Geo} {B : CB} {F : Nat → Prop} {N : Nat} {S : CS} {d : Nat}

theorem drvWhole_nil (x y : Int) (w : World) : Calls Tryz.prog 25 #[.pointer none, .int .i64 x, .int .i64 y] w fun e w' => e = .returned (.tuple #[.bool false, .int .i64 3]) ∧ Below w.heap.size w w' := by
  have hfl := geoField1 0 0 0 0 0
  go_enter Tryz.func25, Tryz.ntmps25
  go_wp2_with fail
  refine (drvGeometry_nil _).mono ?_
  rintro e w1 ⟨rfl, q1⟩
  go_wp2_with fail
  refine (drvWithin_any y 0 _).mono ?_
  rintro e w2 ⟨rfl, rfl⟩
  go_wp2_with fail
  refine (drvReady_nil x _ _).mono ?_
  rintro e w3 ⟨rfl, rfl⟩
  clear hfl
  go_wp2_with fail
  go_ret2
  exact ⟨rfl, q1⟩

set_option maxHeartbeats 1600000 in
theorem drvWhole_any (x y : Int) (hx : I64 x) (w : World) (db : DBox w d B.c) (h : ChipAt G B F N S w) :
    Calls Tryz.prog 25 #[.pointer (some ⟨d, 0, none⟩), .int .i64 x, .int .i64 y] w fun e w' => e = .returned (.tuple #[.bool (S.wholeD G x y).1, .int .i64 (S.wholeD G x y).2]) ∧ Below w.heap.size w w' := by
  have hfl := geoField1 G.b G.p G.s G.n G.f
  have hgm := drvGeometry_any w db h.cell h.lt
  have hrd : ∀ o w1, Below w.heap.size w w1 → _ := fun o w1 q1 => drvReady_any x o w1 (db.below q1 (Nat.le_refl _)) (h.below q1).cell (h.below q1).lt
  by_cases hr : S.rdy G x (within0 y G.p) = 0
  case neg =>
    have HW : Hid (S.wholeD G x y = (false, S.rdy G x (within0 y G.p))) := by show _ = _; unfold CS.wholeD; rw [if_pos hr]
    rw [HW.out]
    clear HW
    have hq : (S.rdy G x (within0 y G.p) != 0) = true := by simp [hr]
    replace hrd := hrd (within0 y G.p)
    have hwi := drvWithin_any y G.p
    generalize within0 y G.p = o at *
    generalize S.rdy G x o = u at *
    clear hr
    go_enter Tryz.func25, Tryz.ntmps25
    go_wp2_with fail
    refine hgm.mono ?_
    rintro e w1 ⟨rfl, q1⟩
    clear hgm
    go_wp2_with fail
    refine (hwi _).mono ?_
    rintro e w2 ⟨rfl, rfl⟩
    clear hwi hfl
    go_wp2_with fail
    refine (hrd _ q1).mono ?_
    rintro e w3 ⟨rfl, q3⟩
    clear hrd
    go_wp2_with fail
    go_ret2
    exact ⟨rfl, btrans q1 q3⟩
  obtain ⟨hup, hib, hwi0⟩ := rdy_zero hr
  have hwy : 0 ≤ y ∧ y ≤ G.p := by unfold within0 at hwi0; exact of_decide_eq_true hwi0
  have HW : Hid (S.wholeD G x y = (!S.bd x && S.markTo G x y.toNat, 0)) := by show _ = _; unfold CS.wholeD; rw [if_neg (by rw [hr]; simp)]
  rw [HW.out]
  clear HW
  rw [hwi0] at hr
  replace hrd := hrd true
  rw [hr] at hrd
  have hwi := drvWithin_any y G.p
  rw [hwi0] at hwi
  clear hwi0 hr
  have hbd : ∀ w1, Below w.heap.size w w1 → _ := fun w1 q1 => chipBad_any x hx w1 (h.below q1)
  rw [hup] at hbd
  cases hm : S.bd x
  case true =>
    rw [hm] at hbd
    go_enter Tryz.func25, Tryz.ntmps25
    go_wp2_with fail
    refine hgm.mono ?_
    rintro e w1 ⟨rfl, q1⟩
    clear hgm
    go_wp2_with fail
    refine (hwi _).mono ?_
    rintro e w2 ⟨rfl, rfl⟩
    clear hwi hfl
    go_wp2_with fail
    refine (hrd _ q1).mono ?_
    rintro e w3 ⟨rfl, q3⟩
    clear hrd
    replace q1 := btrans q1 q3
    clear q3
    have c0 := (db.below q1 (Nat.le_refl _)).c0
    go_wp2_with fail
    refine (hbd _ q1).mono ?_
    rintro e w4 ⟨rfl, q3⟩
    clear hbd c0
    go_wp2_with fail
    go_ret2
    exact ⟨rfl, btrans q1 q3⟩
  rw [hm] at hbd
  obtain ⟨Y, rfl⟩ := Int.eq_ofNat_of_zero_le hwy.1
  have hp2 := G.ok.hp.2
  have hY : Y ≤ 64 := by omega
  have HP : Hid (∀ k : Nat, k < Y → hasP G x (k : Int) = true) := fun k hk => by unfold hasP inB0 at *; simp [of_decide_eq_true hib]; omega
  have HNo : Hid (∀ k : Nat, k < Y → (S.raw G x (k : Int))[G.L - 1]?.getD 0 ≠ 0 → S.markTo G x Y = false) := fun k hk hn => markTo_no hk hn
  have HStep : Hid (∀ k : Nat, S.markTo G x k = true → (S.raw G x (k : Int))[G.L - 1]?.getD 0 = 0 → S.markTo G x (k + 1) = true) := fun k h1 h2 => by
    show (S.markTo G x k && decide ((S.raw G x (k : Int))[G.L - 1]?.getD 0 = 0)) = true
    rw [h1, decide_eq_true h2]; rfl
  have HZ : Hid (∀ k : Nat, IsB (S.raw G x (k : Int))) := fun k => isB_readZ (L := G.L) (h.pg_ok (x := x) (y := (k : Int))).1 _
  have HRD : Hid (∀ k : Nat, k < Y → ∀ w1, Below w.heap.size w w1 → Calls Tryz.prog 59 #[.pointer (some ⟨B.c, 0, none⟩), .int .i64 x, .int .i64 (k : Int)] w1 fun e w' => ∃ q, w1.heap.size ≤ q ∧ e = .returned (.tuple #[.slice (some ⟨q, 0, none⟩) G.L G.L, .int .i64 0]) ∧ Row .u8 w' (some ⟨q, 0, none⟩) G.L G.L (S.raw G x (k : Int)) ∧ Below w1.heap.size w1 w') := fun k hk w1 q1 =>
    chipRead_yes x k hx (by unfold I64; omega) w1 (h.below q1) hup (HP.out k hk)
  have HGM : Hid (∀ w1, Below w.heap.size w w1 → Calls Tryz.prog 18 #[.pointer (some ⟨d, 0, none⟩)] w1 fun e w' => e = .returned (.agg #[.int .i64 G.b, .int .i64 G.p, .int .i64 G.s, .int .i64 G.n, .int .i64 G.f]) ∧ Below w1.heap.size w1 w') := fun w1 q1 => drvGeometry_any w1 (db.below q1 (Nat.le_refl _)) (h.below q1).cell (h.below q1).lt
  have HC : Hid (∀ w1, Below w.heap.size w w1 → w1.cell? ⟨d, 0, none⟩ = some (.pointer (some ⟨B.c, 0, none⟩))) := fun w1 q1 => (db.below q1 (Nat.le_refl _)).c0
  clear hib HP hwy hp2 hm hup h db
  go_enter Tryz.func25, Tryz.ntmps25
  go_wp2_with fail
  refine hgm.mono ?_
  rintro e w1 ⟨rfl, q1⟩
  clear hgm
  go_wp2_with fail
  refine (hwi _).mono ?_
  rintro e w2 ⟨rfl, rfl⟩
  clear hwi hfl
  go_wp2_with fail
  refine (hrd _ q1).mono ?_
  rintro e w3 ⟨rfl, q3⟩
  clear hrd
  replace q1 := btrans q1 q3
  clear q3
  have c0 := HC.out _ q1
  go_wp2_with fail
  refine (hbd _ q1).mono ?_
  rintro e w4 ⟨rfl, q3⟩
  clear hbd c0
  replace q1 := btrans q1 q3
  clear q3
  go_wp2_with fail
  go_loopw [32] (fun v wr => ∃ k : Nat, k ≤ Y ∧ v = .int .i64 k ∧ S.markTo G x k = true ∧ Below w.heap.size w wr) (fun v _ => Y - (RowKit.intOf v).toNat)
  case atStart => exact ⟨0, Nat.zero_le _, rfl, rfl, q1⟩
  case round =>
    clear q1
    obtain ⟨k, hk, rfl, hmt, hnx⟩ := hrel
    have HM : Hid (S.markTo G x k = true) := hmt
    clear hmt
    by_cases hlt : k < Y
    · have hkk : (k : Int) < (Y : Int) := by omega
      have c0 := HC.out _ hnx
      have hrdk := HRD.out k hlt wr hnx
      have hzb := HZ.out k
      have HNk : Hid ((S.raw G x (k : Int))[G.L - 1]?.getD 0 ≠ 0 → S.markTo G x Y = false) := HNo.out k hlt
      have HSk : Hid ((S.raw G x (k : Int))[G.L - 1]?.getD 0 = 0 → S.markTo G x (k + 1) = true) := HStep.out k HM.out
      clear HRD HZ HNo HStep HM
      generalize S.raw G x (k : Int) = z at *
      go_wp2_with fail
      refine hrdk.mono ?_
      rintro e w5 ⟨q, hq, rfl, rz, q5⟩
      clear hrdk c0 hq
      replace hnx := btrans hnx q5
      clear q5
      go_wp2_with fail
      refine (HGM.out _ hnx).mono ?_
      rintro e w6 ⟨rfl, q6⟩
      replace hnx := btrans hnx q6
      have hun := eccUnpack_is G _ _ z w6 (rz.below q6 (Nat.le_refl _)) hzb
      clear q6 rz hzb
      go_wp2_with fail
      refine hun.mono ?_
      rintro e w7 ⟨v, er, her, rfl, q7⟩
      clear hun
      replace hnx := btrans hnx q7
      clear q7
      by_cases h0 : er = 0
      · subst h0
        have HS2 : Hid (S.markTo G x (k + 1) = true) := HSk.out (her.1 rfl)
        clear HSk HNk her
        go_wp2_with fail
        go_roundw
        case rel => exact ⟨k + 1, by omega, by go_num, HS2.out, hnx⟩
        case measure => simp [RowKit.intOf]; omega
      · have HS2 : Hid (S.markTo G x Y = false) := HNk.out (fun hh => h0 (her.2 hh))
        have hq : (er != 0) = true := by simp [h0]
        clear HSk HNk her h0
        go_wp2_with fail
        go_ret2
        exact ⟨by show _ = _; simp [HS2.out], hnx⟩
    · have hkk : ¬ (k : Int) < (Y : Int) := by omega
      have HE : Hid (S.markTo G x Y = true) := by have : k = Y := by omega
                                                  subst this; exact HM.out
      clear HM
      go_wp2_with fail
      go_ret2
      exact ⟨by show _ = _; simp [HE.out], hnx⟩

/-- The blocks below k that are not marked. -/
def CS.goodTo (S : CS) (k : Nat) : List Int := ((List.range k).filter fun (i : Nat) => S.up && !S.bd (i : Int)).map Int.ofNat
theorem goodTo_hit {k : Nat} (h : S.up = true ∧ S.bd (k : Int) = false) : S.goodTo (k + 1) = S.goodTo k ++ [(k : Int)] := by
  unfold CS.goodTo; rw [List.range_succ, List.filter_append, List.map_append]; simp [h.1, h.2]
theorem goodTo_miss {k : Nat} (h : ¬ (S.up = true ∧ S.bd (k : Int) = false)) : S.goodTo (k + 1) = S.goodTo k := by
  unfold CS.goodTo; rw [List.range_succ, List.filter_append, List.map_append]
  have : (S.up && !S.bd (k : Int)) = false := by cases hu : S.up <;> cases hb : S.bd (k : Int) <;> simp_all
  simp [this]
theorem goodTo_len (k : Nat) : (S.goodTo k).length ≤ k := by
  have := List.length_filter_le (fun (i : Nat) => S.up && !S.bd (i : Int)) (List.range k)
  unfold CS.goodTo; rw [List.length_map]; rw [List.length_range] at this; exact this

theorem drvGood_nil (w : World) : Calls Tryz.prog 16 #[.pointer none] w fun e w' => e = .returned (.slice none 0 0) ∧ Below w.heap.size w w' := by
  have hfl := geoField0 0 0 0 0 0
  go_enter Tryz.func16, Tryz.ntmps16
  go_wp2_with fail
  refine (drvGeometry_nil _).mono ?_
  rintro e w1 ⟨rfl, q1⟩
  go_wp2_with fail
  go_loopw [3, 8] (fun v y wr => v = .slice none 0 0 ∧ y = .int .i64 0 ∧ Below w.heap.size w wr) (fun _ _ _ => 0)
  case atStart => exact ⟨rfl, rfl, q1⟩
  case round =>
    obtain ⟨rfl, rfl, hnx⟩ := hrel
    go_wp2_with fail
    go_ret
    exact ⟨rfl, hnx⟩

set_option maxHeartbeats 1600000 in
set_option maxRecDepth 100000 in
theorem drvGood_any (w : World) (db : DBox w d B.c) (h : ChipAt G B F N S w) :
    Calls Tryz.prog 16 #[.pointer (some ⟨d, 0, none⟩)] w fun e w' => ∃ v, e = .returned v ∧ w'.ownsRow w.heap.size 3 1 v (S.goodTo G.b.toNat).length ((S.goodTo G.b.toNat).map (Value.int .i64)) ∧ Below w.heap.size w w' := by
  obtain ⟨j0, hj0, hy0, hy1, hy2⟩ := info_parts Tryz.info3
  have hfl := geoField0 G.b G.p G.s G.n G.f
  have hgm := drvGeometry_any w db h.cell h.lt
  have hb1 := G.ok.hb.1
  have hb2 := G.ok.hb.2
  obtain ⟨Bn, hBn⟩ : ∃ Bn : Nat, G.b = (Bn : Int) := Int.eq_ofNat_of_zero_le (by omega)
  have hBl : Bn ≤ 256 := by omega
  have HBn : Hid (G.b.toNat = Bn) := by show _ = _; omega
  rw [HBn.out]
  have HLE : Hid (∀ k, (S.goodTo k).length ≤ k) := fun k => goodTo_len k
  have HUS : Hid (∀ k : Nat, k < Bn → ∀ w1, Below w.heap.size w w1 → Calls Tryz.prog 47 #[.pointer (some ⟨d, 0, none⟩), .int .i64 (k : Int), .bool true] w1 fun e w' => e = .returned (.int .i64 (S.use G k true)) ∧ Below w1.heap.size w1 w') := fun k hk w1 q1 => drvUsable_any k (by unfold I64; omega) true w1 (db.below q1 (Nat.le_refl _)) (h.below q1)
  have HHit : Hid (∀ k : Nat, S.use G k true = 0 → S.goodTo (k + 1) = S.goodTo k ++ [(k : Int)]) := fun k hu => goodTo_hit (by obtain ⟨⟨h1, _, _⟩, h2⟩ := use_zero hu; exact ⟨h1, h2⟩)
  have HMiss : Hid (∀ k : Nat, k < Bn → S.use G k true ≠ 0 → S.goodTo (k + 1) = S.goodTo k) := fun k hk hu => goodTo_miss (fun hh => hu (use_of hh.1 (by unfold inB0; rw [decide_eq_true_iff]; omega) rfl hh.2))
  rw [hBn] at hgm hfl
  clear db h hb1 hb2 hBn HBn
  go_enter Tryz.func16, Tryz.ntmps16
  go_wp2_with fail
  refine hgm.mono ?_
  rintro e w1 ⟨rfl, q1⟩
  clear hgm
  go_wp2_with fail
  clear hfl
  go_loopw [3, 8] (fun v y wr => ∃ k : Nat, k ≤ Bn ∧ y = .int .i64 k ∧ wr.ownsRow w.heap.size 3 1 v (S.goodTo k).length ((S.goodTo k).map (Value.int .i64)) ∧ Below w.heap.size w wr) (fun _ y _ => Bn - (RowKit.intOf y).toNat)
  case atStart => exact ⟨0, Nat.zero_le _, rfl, World.ownsRow_nil _ _ _ _, q1⟩
  case round =>
    clear q1
    obtain ⟨k, hk, rfl, hown, hnx⟩ := hrel
    have hsz := hnx.size
    have hle := HLE.out k
    by_cases hlt : k < Bn
    · have hkk : (k : Int) < (Bn : Int) := by omega
      have hus := HUS.out k hlt wr hnx
      have HHk : Hid (S.use G k true = 0 → S.goodTo (k + 1) = S.goodTo k ++ [(k : Int)]) := HHit.out k
      have HMk : Hid (S.use G k true ≠ 0 → S.goodTo (k + 1) = S.goodTo k) := HMiss.out k hlt
      clear HLE HUS HHit HMiss
      generalize hos : S.goodTo k = os at *
      clear hos
      generalize hm : os.length = m at *
      have HM : Hid (os.length = m) := hm
      clear hm
      generalize S.use G k true = u at *
      obtain ⟨ao, cp, rfl, _⟩ := row_of_owns hown
      go_wp2_with fail
      refine hus.mono ?_
      rintro e w1 ⟨rfl, hb1⟩
      clear hus
      have hown1 := owns_below hown hb1
      have hB1 : Below w.heap.size w w1 := hnx.trans (hb1.mono hsz)
      have hsz1 := hB1.size
      clear hown hnx hsz hb1
      by_cases hz : u = 0
      · have HS : Hid (S.goodTo (k + 1) = os ++ [(k : Int)]) := HHk.out hz
        have HSL : Hid ((S.goodTo (k + 1)).length = m + 1) := by show _ = _; rw [HS.out, List.length_append, HM.out]; rfl
        subst hz
        clear HHk HMk
        go_wp2_with (at_builtin; refine wpList_append_own _ rfl _ _ 42 rfl w.heap.size 3 j0 (.int .i64 0) 1 8 Tryz.underlying42 hj0 hy0 hy1 hy2 rfl (by decide) _ _ _ rfl (hown1.alloc _) ⟨w1.heap.size, 0, none⟩ 1 1 [.int .i64 (k : Nat)] rfl rfl (cell_one_new _ _ _) (by intro u hu; simp at hu; subst hu; rfl) (by unfold maxLen; omega) (by omega) (by simp; omega) ?_)
        intro v' w2 hown' hgrow _
        have R := rel_push hsz1 hown1 hB1 hown' hgrow
        rw [← HS.out, ← HSL.out] at R
        clear hown' hgrow hown1 hB1
        go_wp2_with fail
        go_roundw
        case rel => exact ⟨k + 1, by omega, by go_num, R.1, R.2⟩
        case measure => simp [RowKit.intOf]; omega
      · have HS : Hid (S.goodTo (k + 1) = os) := HMk.out hz
        have hq : (u == 0) = false := by simp [hz]
        clear HHk HMk hz
        go_wp2_with fail
        go_roundw
        case rel => exact ⟨k + 1, by omega, by go_num, by rw [HS.out, HM.out]; exact hown1, hB1⟩
        case measure => simp [RowKit.intOf]; omega
    · have hkk : ¬ (k : Int) < (Bn : Int) := by omega
      obtain rfl : k = Bn := by omega
      clear HLE HUS HHit HMiss
      generalize hos : S.goodTo k = os at *
      have HOS : Hid (S.goodTo k = os) := hos
      clear hos
      generalize hm : os.length = m at *
      have HM : Hid (os.length = m) := hm
      clear hm
      obtain ⟨ao, cp, rfl, _⟩ := row_of_owns hown
      go_wp2_with fail
      go_ret
      exact ⟨_, rfl, by rw [HOS.out, HM.out]; exact hown, hnx⟩
end
end Go.Proofs.YtggpgdaacbmmdaaGreat
