/-
  The code of layer 7 (chip), as it landed: the library's Repeat; blank, page.
-/
import Derived.Test.YtggpgdaacbmmdaaGreatChipCode
namespace Go.Proofs.YtggpgdaacbmmdaaGreat
open Go.RowKit Go.Maps
set_option linter.unusedVariables false
set_option maxRecDepth 8192

/-- 'copy' into a row of the call's own, from whatever row. -/
theorem copy_gen {P : Program} {k : IntKind} {w : World} {g o d dc len cap : Nat} {dT elem ty : TypeId} {a : Option Addr} {y z : List Int} (hu : P.underlying dT = some (.slice elem)) (hsz : (P.info? elem).map (·.size) = some 1)
    (hg : w.heap[g]? = some (.cells (z.map (Value.int k)).toArray elem (0, 0))) (ho : o + d ≤ z.length) (hr : Row k w a len cap y) :
    ∃ w2, Sem.run P (Builtin.copy_ #[dT, dT] ty #[.slice (some ⟨g, o, none⟩) d dc, .slice a len cap]) w = .ok (.int .i64 ((min len d : Nat) : Int)) w2 ∧
      w2.heap[g]? = some (.cells ((z.take o ++ y.take (min len d) ++ z.drop (o + min len d)).map (Value.int k)).toArray elem (0, 0)) ∧ w.grownBy w2 (some g) := by
  have hl := hr.hlen
  by_cases h0 : min len d = 0
  · refine ⟨w, ?_, ?_, World.grownBy.refl _ _⟩
    · rw [h0]; exact run_copy_none (P := P) w dT dT ty elem _ a d dc len cap hu hsz h0
    · rw [h0, hg]; simp
  · obtain ⟨b, off, rfl, hbs, hcell⟩ := hr.hcell (by omega)
    have hyl : (y.take (min len d)).length = min len d := by rw [List.length_take]; omega
    have hrun := run_copy_row (P := P) w dT dT ty elem g o d dc ⟨b, off, none⟩ len cap (z.map (Value.int k)).toArray elem ((y.take (min len d)).map (Value.int k)) hu hsz hg (by rw [List.length_map, hyl])
      (cells_row hyl (fun i hi => by rw [hcell i (by omega)]; simp [hi])) (by rw [List.length_map, hyl]; simp; omega) (ints_oneCell _ _)
    have e1 : ((z.map (Value.int k)).toArray.toList.take o) ++ (y.take (min len d)).map (Value.int k) ++ (z.map (Value.int k)).toArray.toList.drop (o + ((y.take (min len d)).map (Value.int k)).length) = (z.take o ++ y.take (min len d) ++ z.drop (o + min len d)).map (Value.int k) := by
      rw [List.length_map, hyl]
      simp [List.map_take, List.map_drop]
    rw [e1] at hrun
    refine ⟨_, ?_, setRow_heap w g _ _ elem _ hg, ⟨rfl, rfl, rfl, by simp [World.setRow], fun i _ hi => setRow_other w g i _ (fun e => hi (by rw [e]))⟩⟩
    rw [hrun, List.length_map, hyl]
    rfl

/-- So many ff, noughts behind them. -/
def ffs (n L : Nat) : List Int := List.replicate n 255 ++ List.replicate (L - n) 0
theorem ffs_len {n L : Nat} (h : n ≤ L) : (ffs n L).length = L := by unfold ffs; simp; omega
theorem ffs_step {n L : Nat} (h : n < L) : (ffs n L).take n ++ ((ffs n L).take n).take (min n (L - n)) ++ (ffs n L).drop (n + min n (L - n)) = ffs (n + min n (L - n)) L := by
  have h1 : (ffs n L).take n = List.replicate n 255 := by unfold ffs; rw [List.take_append_of_le_length (by simp), List.take_of_length_le (by simp)]
  have h2 : (ffs n L).drop (n + min n (L - n)) = List.replicate (L - (n + min n (L - n))) 0 := by
    unfold ffs
    rw [← List.drop_drop, List.drop_append, List.drop_of_length_le (l := List.replicate n (255 : Int)) (by simp), List.nil_append]
    simp
    omega
  rw [h1, h2, List.take_replicate, List.replicate_append_replicate]
  unfold ffs
  congr 2
  omega
theorem ffs_first (L : Nat) (h : 1 ≤ L) : (List.replicate L (0 : Int)).take 0 ++ ([255] : List Int).take (min 1 L) ++ (List.replicate L (0 : Int)).drop (0 + min 1 L) = ffs 1 L := by
  have : min 1 L = 1 := by omega
  rw [this]
  unfold ffs
  simp

theorem isB_rowA {k : IntKind} {e : TypeId} {w : World} {base g n cap : Nat} {z : List Int} (h : w.ownsRow base e 1 (.slice (some ⟨g, 0, none⟩) n cap) n (z.map (Value.int k))) : Row k w (some ⟨g, 0, none⟩) n cap z := by
  obtain ⟨a, c, he, hr⟩ := row_of_owns h
  cases he
  exact hr
theorem row_front {k : IntKind} {w : World} {b o len cap : Nat} {z : List Int} (hr : Row k w (some ⟨b, o, none⟩) len cap z) {n : Nat} (hn : n ≤ len) : Row k w (some ⟨b, o, none⟩) n cap (z.take n) := by
  have hl := hr.hlen
  refine ⟨by rw [List.length_take]; omega, by have := hr.hcap; omega, hr.hmax, hr.hnil, fun h0 => ?_⟩
  obtain ⟨b', o', e, hb, hc⟩ := hr.hcell (by omega)
  cases e
  exact ⟨b, o, rfl, hb, fun i hi => by rw [hc i (by omega)]; simp [hi]⟩
set_option maxHeartbeats 800000 in
theorem repeat_any (g L : Nat) (w : World) (hr : Row .u8 w (some ⟨g, 0, none⟩) 1 1 [255]) (h1 : 1 ≤ L) (h2 : L ≤ 1000) :
    Calls Tryz.prog 120 #[.slice (some ⟨g, 0, none⟩) 1 1, .int .i64 (L : Int)] w fun e w' => ∃ q, w.heap.size ≤ q ∧ e = .returned (.slice (some ⟨q, 0, none⟩) L L) ∧ w'.heap[q]? = some (.cells ((List.replicate L (255 : Int)).map (Value.int .u8)).toArray 5 (0, 0)) ∧ Below w.heap.size w w' := by
  obtain ⟨i0, hi0, hz0, hz1, hz2⟩ := info_parts Tryz.info5
  have hmul := mul_any 1 L (by omega) (by omega) w
  rw [Nat.one_mul, Nat.div_eq_of_lt (by omega), Nat.mod_eq_of_lt (by omega)] at hmul
  have hmax : L ≤ maxLen := by unfold maxLen; omega
  have hi : ¬ (L : Int) < 0 := by omega
  have hbig : ¬ (9223372036854775807 : Int) < (L : Int) := by omega
  go_enter Tryz.func120, Tryz.ntmps120
  go_wp2_with fail
  refine hmul.mono ?_
  rintro e w1 ⟨rfl, rfl⟩
  go_wp2_with (at_make; refine wpList_make_full _ rfl _ _ 38 rfl w1.heap.size 5 i0 (.int .u8 0) 1 Tryz.underlying38 hi0 hz0 hz1 _ _ _ _ L rfl rfl rfl rfl (by rw [hz2]; omega) hmax (Nat.le_refl _) ?_; intro w2 hown1 hgrow1)
  rw [made_ints] at hown1
  have hg1 := heap_of_owns hown1
  have hb1 : Below w1.heap.size w1 w2 := (Below.refl _ _).grown hgrow1 (Nat.le_refl _) (by simp)
  have hr2 := hr.below hb1 (Nat.le_refl _)
  obtain ⟨w3, hrun, hg3, hgr3⟩ := copy_gen (P := Tryz.prog) (dT := 38) (elem := 5) (ty := 3) (o := 0) (d := L) (dc := L) Tryz.underlying38 (by kernel_rfl) hg1 (by simp) hr2
  rw [ffs_first L h1] at hg3
  rw [show min 1 L = 1 by omega] at hrun
  have hb3 : Below w1.heap.size w1 w3 := hb1.grown hgr3 hb1.size (fun k e => by cases e; exact Nat.le_refl _)
  rw [hrun]
  have hqq : Hid (w1.heap.size = w1.heap.size) := rfl
  generalize hq : w1.heap.size = q at hown1 hg1 hgr3 hb3 hg3 hqq hrun ⊢
  have HQ : Hid (w1.heap.size = q) := hq
  clear hq hqq
  have HB : Hid (Below q w1 w3) := hb3
  have HG : Hid (w3.heap[q]? = some (.cells ((ffs 1 L).map (Value.int .u8)).toArray 5 (0, 0))) := hg3
  clear hrun hg3 hgr3 hr2 hb1 hg1 hown1 hgrow1 hb3 hr hmul
  go_wp2_with fail
  go_loopw [8] (fun x wr => ∃ n : Nat, 1 ≤ n ∧ n ≤ L ∧ x = .int .i64 (n : Int) ∧ Hid (wr.heap[q]? = some (.cells ((ffs n L).map (Value.int .u8)).toArray 5 (0, 0))) ∧ Hid (Below q w1 wr)) (fun x _ => L - (RowKit.intOf x).toNat)
  case atStart => exact ⟨1, Nat.le_refl _, h1, rfl, HG, HB⟩
  case round =>
    obtain ⟨n, hn1, hn2, rfl, hgn, hbn⟩ := hrel
    by_cases hlt : n < L
    · have hlt' : (n : Int) < (L : Int) := by omega
      have hrow : Row .u8 wr.drew (some ⟨q, 0, none⟩) n L ((ffs n L).take n) := by
        have e0 := (isB_rowA (owns_of_heap (base := 0) hgn.out (by rw [List.length_map, ffs_len hn2]) (Nat.zero_le _) hmax) : Row .u8 wr (some ⟨q, 0, none⟩) L L (ffs n L))
        exact (row_front e0 hn2).drewN 1
      have ed : ((L : Int) - (n : Int)).toNat = L - n := by omega
      obtain ⟨w4, hrun, hg4, hgr4⟩ := copy_gen (P := Tryz.prog) (w := wr.drew) (dT := 38) (elem := 5) (ty := 3) (o := n) (d := L - n) (dc := L - n) Tryz.underlying38 (by kernel_rfl) hgn.out (by rw [ffs_len hn2]; omega) hrow
      rw [ffs_step hlt] at hg4
      have HG4 : Hid (w4.heap[q]? = some (.cells ((ffs (n + min n (L - n)) L).map (Value.int .u8)).toArray 5 (0, 0))) := hg4
      have HB4 : Hid (Below q w1 w4) := hbn.out.drew.grown hgr4 (by rw [← HQ.out]; exact hbn.out.size) (fun k e => by cases e; exact Nat.le_refl _)
      have n4 : ¬ L = n := by omega
      clear hg4 hgr4 hrow hgn hbn
      go_wp2_with fail
      go_region
      go_wp2_with fail
      go_roundw
      case rel => exact ⟨n + min n (L - n), by omega, by omega, by go_num, HG4, HB4⟩
      case measure => simp [RowKit.intOf]; omega
    · have e : n = L := by omega
      subst e
      go_wp2_with fail
      go_ret
      have e2 : ffs n n = List.replicate n 255 := by unfold ffs; simp
      refine ⟨q, by have := HQ.out; omega, rfl, ?_, by rw [HQ.out]; exact hbn.out⟩
      rw [← e2]; exact hgn.out

end Go.Proofs.YtggpgdaacbmmdaaGreat
