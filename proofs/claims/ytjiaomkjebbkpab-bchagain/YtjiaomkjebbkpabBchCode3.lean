/-
  The code of layer 5 (bch), as it landed: below, Bits, Encode return what the face asks.
-/
import Derived.Test.YtjiaomkjebbkpabBchCode2
namespace Go.Proofs.Ytjiaomkjebbkpab
open Go.RowKit
set_option linter.unusedVariables false

theorem Row.drew {k : IntKind} {w : World} {a : Option Addr} {len cap : Nat} {zs : List Int} (h : Row k w a len cap zs) : Row k w.drew a len cap zs := h.drewN 1

set_option maxHeartbeats 1600000 in
set_option maxRecDepth 100000 in
theorem below_bch (t : Nat) (c : Option Addr) (len cap : Nat) (m : List Int) (w : World) (hr : Row .u8 w c len cap m) (hm : IsB m) (h1 : 1 ≤ t) (ht : t ≤ 8) (hl : len = (13 * t + 7) / 8) :
    Calls Try.prog 18 #[.int .i64 t, .slice c len cap] w fun e w' => ∃ z, IsLow t m z ∧ Gives w z e w' := by
  obtain ⟨i0, hi0, hz0, hz1, hz2⟩ := info_parts Try.info5
  have HLow : Hid (IsLow t m (lowB t m)) := low_ok t m h1 ht (by rw [hr.hlen, hl]) hm
  have HL : Hid (m.length = len) := hr.hlen
  have HDef : Hid (lowB t m = m.set (len - 1) (bits .and .u8 (m[len - 1]?.getD 0) (maskI (13 * t - 8 * (len - 1))))) := by show _ = _; unfold lowB; rw [HL.out]
  have HLL : Hid ((lowB t m).length = len) := by show _ = _; rw [HLow.out.len, HL.out]
  obtain ⟨l, rfl⟩ : ∃ l, len = l + 1 := ⟨len - 1, by omega⟩
  rw [Nat.add_sub_cancel, Nat.mul_comm 8 l] at HDef
  have hll : l ≤ 20 := by omega
  have hmax : l + 1 ≤ maxLen := by unfold maxLen; omega
  have hmk : ∀ w1 : World, w1.ownsRow w.heap.size 5 1 (.slice (some ⟨w.heap.size, 0, none⟩) (l + 1) (l + 1)) (l + 1) (madeCells (Value.int IntKind.u8 0).cells ((l + 1) * 1)).toList → w.grownBy w1 none →
      ∃ L : List Value, L.length = l + 1 ∧ w1.heap[w.heap.size]? = some (.cells L.toArray 5 (0, 0)) ∧ Below w.heap.size w w1 := fun w1 h1 h2 =>
    ⟨_, by simpa using h1.1, heap_of_owns h1, (Below.refl _ _).grown h2 (Nat.le_refl _) (by simp)⟩
  have hci := hm.idx l
  have hsl : 8 * l ≤ 13 * t := by omega
  have hsl' : 13 * t ≤ 8 * l + 8 := by omega
  clear hl
  go_enter Try.func18, Try.ntmps18
  go_wp2_with (at_make; refine wpList_make_full _ rfl _ _ 22 rfl w.heap.size 5 i0 (.int .u8 0) 1 Try.underlying22 hi0 hz0 hz1 _ _ _ _ (l + 1) rfl rfl rfl rfl (by rw [hz2]; omega) hmax (Nat.le_refl _) ?_; intro w1 hown1 hgrow1)
  obtain ⟨L, hL, hg1, hb1⟩ := hmk w1 hown1 hgrow1
  obtain ⟨w2, hrun, hg2, hb2⟩ := copy_all (P := Try.prog) (dT := 22) (elem := 5) (ty := 3) (cap := cap) (a := c) (z := m) Try.underlying22 (by kernel_rfl) hg1 hL (hr.below hb1 (Nat.le_refl _)) hb1 (Nat.le_refl _)
  have hown2 : w2.ownsRow w.heap.size 5 1 (.slice (some ⟨w.heap.size, 0, none⟩) (l + 1) (l + 1)) (l + 1) (m.map (Value.int .u8)) :=
    owns_of_heap hg2 (by have := HL.out; simp; exact this) (Nat.le_refl _) hmax
  rw [hrun]
  clear hg2 hg1 hL hb1 hmk hown1 hgrow1 hrun
  have hcl := owned_cell hown2 l (by omega)
  have hfz := hown2.frozenAt l
  generalize hci2 : m[l]?.getD 0 = ci at *
  have HCI : Hid (m[l]?.getD 0 = ci) := hci2
  clear hci2
  have R := owned_set (q := l) (x := bits .and .u8 ci (maskI (13 * t - l * 8))) (Nat.le_refl _) hown2 hb2
  rw [← HDef.out] at R
  have HR : Hid _ := R
  clear R
  go_wp2
  go_region
  go_wp2
  go_ret
  have hrow := isB_of_row HR.out.1
  have hb3 := HR.out.2
  refine ⟨lowB t m, HLow.out, some ⟨w.heap.size, 0, none⟩, l + 1, by rw [HLL.out]; rfl, ?_, hb3.drew⟩
  rw [HLL.out]
  exact hrow.drew

set_option maxHeartbeats 800000 in
theorem bitsC : HBitsC where
  no := by
    intro t w h h1 h2
    rcases h with h | h
    · go_enter Try.func19, Try.ntmps19
      go_wp2
      go_ret2
      exact ⟨rfl, Below.refl _ _⟩
    · have h0 : ¬ t < 1 := by omega
      go_enter Try.func19, Try.ntmps19
      go_wp2
      go_ret2
      exact ⟨rfl, Below.refl _ _⟩
  yes := by
    intro t w h1 h2
    have ht1 : ¬ (t : Int) < 1 := by omega
    have ht2 : ¬ 8 < (t : Int) := by omega
    go_enter Try.func19, Try.ntmps19
    go_wp2
    go_ret2
    exact ⟨rfl, Below.refl _ _⟩

/-- 'copy(out, b)', out a longer row of noughts. -/
theorem copy_front {P : Program} {k : IntKind} {w0 w : World} {B g n len cap : Nat} {dT elem ty : TypeId} {a : Option Addr} {z : List Int} (hu : P.underlying dT = some (.slice elem)) (hsz : (P.info? elem).map (·.size) = some 1)
    (hg : w.heap[g]? = some (.cells ((List.replicate n (0 : Int)).map (Value.int k)).toArray elem (0, 0))) (hle : len ≤ n) (hr : Row k w a len cap z) (hb : Below B w0 w) (hB : B ≤ g) :
    ∃ w2, Sem.run P (Builtin.copy_ #[dT, dT] ty #[.slice (some ⟨g, 0, none⟩) n n, .slice a len cap]) w = .ok (.int .i64 len) w2 ∧ w2.heap[g]? = some (.cells ((z ++ List.replicate (n - len) 0).map (Value.int k)).toArray elem (0, 0)) ∧ Below B w0 w2 := by
  have hl := hr.hlen
  by_cases h0 : len = 0
  · subst h0
    have hz : z = [] := List.eq_nil_of_length_eq_zero hl
    refine ⟨w, ?_, ?_, hb⟩
    · exact run_copy_none (P := P) w dT dT ty elem _ a n n 0 cap hu hsz (by simp)
    · rw [hg, hz]
      simp
  · obtain ⟨b, off, rfl, hbs, hcell⟩ := hr.hcell (by omega)
    have hrun := run_copy_row (P := P) w dT dT ty elem g 0 n n ⟨b, off, none⟩ len cap ((List.replicate n (0 : Int)).map (Value.int k)).toArray elem (z.map (Value.int k)) hu hsz hg (by rw [List.length_map, hl]; exact (Nat.min_eq_left hle).symm) (cells_row hl hcell) (by simp; omega) (ints_oneCell _ _)
    have e1 : ((((List.replicate n (0 : Int)).map (Value.int k)).toArray.toList.take 0) ++ z.map (Value.int k) ++ ((List.replicate n (0 : Int)).map (Value.int k)).toArray.toList.drop (0 + (z.map (Value.int k)).length)) = (z ++ List.replicate (n - len) 0).map (Value.int k) := by
      simp [hl]
    rw [e1] at hrun
    refine ⟨_, ?_, setRow_heap w g _ _ elem _ hg, below_setRow hb hB _⟩
    rw [hrun]
    simp [goInt, hl]

set_option maxHeartbeats 1600000 in
set_option maxRecDepth 100000 in
theorem encC : HEncC where
  no := by
    intro t a len cap x w hr hx hsm hn h1 h2
    have HB : Hid (mayD t len = false) := by show _ = _; unfold mayD; rw [decide_eq_false_iff_not]; omega
    go_enter Try.func7, Try.ntmps7
    go_wp2_with fail
    refine (mayBe_any t a len cap _ (by omega)).mono ?_
    rintro e w' ⟨rfl, rfl⟩
    rw [HB.out]
    go_wp2_with fail
    go_ret2
    exact givesE_nil _ _
  yes := by
    intro t a len cap x w hr hx hsm h1 h8 hl
    obtain ⟨i0, hi0, hz0, hz1, hz2⟩ := info_parts Try.info5
    have HB : Hid (mayD t len = true) := by show _ = _; unfold mayD; rw [decide_eq_true_iff]; omega
    have HX : Hid (x.length = len) := hr.hlen
    have HEN : Hid (∀ z r, Raised t x z → IsMod (bts z) (genTo t) r → (nb r).length ≤ (13 * t + 7) / 8 ∧ IsEnc t x (nb r ++ List.replicate ((13 * t + 7) / 8 - (nb r).length) 0)) := fun z r hz hm => by
      have hm' := hm.eqv hz.eqv (Eqv.refl _) (is01_genTo t) (is01_genTo t) (Eqv.refl _) hm.hr
      have hl := rest_len h8 hm'
      exact ⟨by rw [length_nb]; omega, enc_laid h8 hm'⟩
    have hmb := moreBytes_any t
    generalize hN : (13 * t + 7) / 8 = n at *
    have hn20 : n ≤ 20 := by omega
    have HNN : Hid ((13 * t + 7) / 8 = n) := hN
    clear hN
    have hmax : n ≤ maxLen := by unfold maxLen; omega
    have hmk : ∀ w1 : World, w1.ownsRow w.heap.size 5 1 (.slice (some ⟨w.heap.size, 0, none⟩) n n) n (madeCells (Value.int IntKind.u8 0).cells (n * 1)).toList → w.grownBy w1 none →
        w1.heap[w.heap.size]? = some (.cells ((List.replicate n (0 : Int)).map (Value.int .u8)).toArray 5 (0, 0)) ∧ Below w.heap.size w w1 := fun w1 h1 h2 => by
      rw [made_ints] at h1
      exact ⟨heap_of_owns h1, (Below.refl _ _).grown h2 (Nat.le_refl _) (by simp)⟩
    go_enter Try.func7, Try.ntmps7
    go_wp2_with fail
    refine (mayBe_any t a len cap _ (by omega)).mono ?_
    rintro e w' ⟨rfl, rfl⟩
    rw [HB.out]
    go_wp2_with fail
    refine (hmb _ (by omega)).mono ?_
    rintro e w' ⟨rfl, rfl⟩
    clear hmb
    go_wp2_with (at_make; refine wpList_make_full _ rfl _ _ 22 rfl w.heap.size 5 i0 (.int .u8 0) 1 Try.underlying22 hi0 hz0 hz1 _ _ _ _ n rfl rfl (by omega) (by omega) (by rw [hz2]; omega) hmax (Nat.le_refl _) ?_; intro w1 hown1 hgrow1)
    obtain ⟨hg1, hb1⟩ := hmk w1 hown1 hgrow1
    clear hmk hown1 hgrow1
    have hlt : w.heap.size < w1.heap.size := by
      rcases Nat.lt_or_ge w.heap.size w1.heap.size with h | h
      · exact h
      · rw [Array.getElem?_eq_none h] at hg1; simp at hg1
    have hr1 := hr.below hb1 (Nat.le_refl _)
    refine (raised_bch t a len cap x _ hr1 hx h8 (by omega)).mono ?_
    rintro e w2 ⟨z, hz, a2, cp2, rfl, hrow2, hb2⟩
    have hzl := hz.len
    rw [HX.out] at hzl
    have hzB := hz.isB
    have HZ : Hid (Raised t x z) := hz
    clear hz
    generalize hlz : z.length = lz at *
    go_wp2_with fail
    refine (rest_any t a2 lz cp2 z _ hrow2 hzB h1 h8 (by omega)).mono ?_
    rintro e w3 ⟨r, hm, a3, cp3, rfl, hrow3, hb3⟩
    obtain ⟨hnl, hE⟩ := HEN.out z r HZ.out hm
    have HE : Hid _ := hE
    clear hE hm hrow2
    have hg3 : w3.heap[w.heap.size]? = some (.cells ((List.replicate n (0 : Int)).map (Value.int .u8)).toArray 5 (0, 0)) := by
      rw [hb3.block _ (by have := hb2.size; omega), hb2.block _ hlt, hg1]
    have hB3 : Below w.heap.size w w3 := btrans (btrans hb1 hb2) hb3
    generalize hlr : nb r = nr at *
    obtain ⟨w4, hrun, hg4, hb4⟩ := copy_front (P := Try.prog) (dT := 22) (elem := 5) (ty := 3) (cap := cp3) (a := a3) (z := nr) Try.underlying22 (by kernel_rfl) hg3 hnl hrow3 hB3 (Nat.le_refl _)
    have hlen4 : (nr ++ List.replicate (n - nr.length) 0).length = n := by simp; omega
    have HL4 : Hid ((nr ++ List.replicate (n - nr.length) 0).length = n) := hlen4
    have hrow4 : Row .u8 w4 (some ⟨w.heap.size, 0, none⟩) n n (nr ++ List.replicate (n - nr.length) 0) := isB_of_row (owns_of_heap (base := w.heap.size) hg4 (by simp; omega) (Nat.le_refl _) hmax)
    clear hg4 hg3 hg1 hlr
    generalize nr ++ List.replicate (n - nr.length) 0 = zz at *
    clear hlen4
    generalize nr.length = ln at *
    go_wp2_with fail
    go_ret2
    exact ⟨zz, HE.out, ⟨some ⟨w.heap.size, 0, none⟩, n, by rw [HL4.out]; rfl, by rw [HL4.out]; exact hrow4, hb4⟩⟩

end Go.Proofs.Ytjiaomkjebbkpab
