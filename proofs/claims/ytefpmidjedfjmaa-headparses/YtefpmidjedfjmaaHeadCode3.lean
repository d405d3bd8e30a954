/-
  The code of layer 9 (head), as it landed: bytes.Equal, Parse.
-/
import Derived.Test.YtefpmidjedfjmaaHeadCode2
namespace Go.Proofs.Ytefpmidjedfjmaa
open Go.RowKit
set_option linter.unusedVariables false
set_option maxRecDepth 8192

theorem block_two (w : World) (o : Obj) (C : Array Value) (T : TypeId) : ((w.alloc o).alloc (.cells C T)).heap[w.heap.size + 1]? = some (.cells C T (0, 0)) := by
  have h := block_new (w.alloc o) C T
  have e : (w.alloc o).heap.size = w.heap.size + 1 := by simp
  rw [e] at h
  exact h
theorem gbox_two (w : World) (T : TypeId) (b p s n f : Int) (o : Obj) : GBox ((w.alloc (.cells #[.int .i64 b, .int .i64 p, .int .i64 s, .int .i64 n, .int .i64 f] T)).alloc o) w.heap.size b p s n f :=
  (gbox_new w T b p s n f).below (below_one _ o) (Nat.le_refl _)
theorem below_set3 {B : Nat} {w w1 : World} {g : Nat} (h : Below B w w1) (hB : B ≤ g) (u v x : Value) : Below B w (((w1.setCell ⟨g, 0, none⟩ u).setCell ⟨g, 1, none⟩ v).setCell ⟨g, 2, none⟩ x) :=
  ((h.setCell hB _).setCell hB _).setCell hB _
theorem str_beq {x y : List Int} (hx : IsB x) (hy : IsB y) : ((strOfNums x).toList == (strOfNums y).toList) = decide (x = y) := by
  rw [Lib.toList_data, Lib.toList_data]
  by_cases e : x = y
  · subst e; simp
  · rw [decide_eq_false e, beq_eq_false_iff_ne]
    exact fun h => e (strOfNums_inj hx hy (WideShapes.bytes_inj h))
theorem bytesEqual_any (a c : Option Addr) (len cap len' cap' : Nat) (x y : List Int) (w : World) (hr : Row .u8 w a len cap x) (hr' : Row .u8 w c len' cap' y) (hx : IsB x) (hy : IsB y) :
    Calls Try.prog 27 #[.slice a len cap, .slice c len' cap'] w fun e w' => e = .returned (.bool (decide (x = y))) ∧ w = w' := by
  have k1 := conv_row (P := Try.prog) Try.underlying30 Try.underlying5 Try.underlying9 hr
  have k2 := conv_row (P := Try.prog) Try.underlying30 Try.underlying5 Try.underlying9 hr'
  have HE : Hid (((strOfNums x).toList == (strOfNums y).toList) = decide (x = y)) := str_beq hx hy
  go_enter Try.func27, Try.ntmps27
  go_wp2
  go_ret
  exact ⟨ret_bool HE.out, rfl⟩
set_option maxHeartbeats 800000 in
theorem hParse_geo (b p s n f : Int) (a : Option Addr) (len cap : Nat) (w : World) (hm : mayG b p s n f = false) (hl : len ≤ maxLen) : Calls Try.prog 17 #[.agg #[.int .i64 b, .int .i64 p, .int .i64 s, .int .i64 n, .int .i64 f], .slice a len cap] w fun e w' => e = .returned (.tuple #[.agg #[.int .i64 0, .int .i64 0, .int .i64 0], .int .i64 1]) ∧ Below w.heap.size w w' := by
  have hsz := sizes_no b p s n f
  have q0 := below_two w (.cells #[.int .i64 b, .int .i64 p, .int .i64 s, .int .i64 n, .int .i64 f] 23) (.cells #[.int .i64 0, .int .i64 0, .int .i64 0] 25)
  have hb0 := block_two w (.cells #[.int .i64 b, .int .i64 p, .int .i64 s, .int .i64 n, .int .i64 f] 23) #[.int .i64 0, .int .i64 0, .int .i64 0] 25
  go_enter Try.func17, Try.ntmps17
  go_wp2_with fail
  generalize (w.alloc (.cells #[.int .i64 b, .int .i64 p, .int .i64 s, .int .i64 n, .int .i64 f] 23)).alloc (.cells #[.int .i64 0, .int .i64 0, .int .i64 0] 25) = w0 at *
  refine (hsz _ hm).mono ?_
  rintro e w1 ⟨rfl, q1⟩
  have hb1 := block_below hb0 q1 (lt_of_block hb0)
  have HQA : Hid (Below w.heap.size w w1) := btrans q0 q1
  clear hb0 q0 q1 hsz hm
  generalize hgg : w.heap.size = g at *
  have HGG : Hid (w.heap.size = g) := hgg
  clear hgg
  have k0 : w1.cell? ⟨g + 1, 0, none⟩ = some (.int .i64 0) := by simp [World.cell?, hb1]
  have k1 : w1.cell? ⟨g + 1, 1, none⟩ = some (.int .i64 0) := by simp [World.cell?, hb1]
  have k2 : w1.cell? ⟨g + 1, 2, none⟩ = some (.int .i64 0) := by simp [World.cell?, hb1]
  have kf : ∀ i, w1.frozen? ⟨g + 1, i, none⟩ = false := fun i => by simp [World.frozen?, hb1]
  clear hb1
  go_wp2_with fail
  refine bodyPost_ret (v := .tuple #[.agg #[.int .i64 0, .int .i64 0, .int .i64 0], .int .i64 1]) (by simp [results, Try.results17, go_sem, k0, k1, k2]) rfl ?_
  refine ⟨rfl, ?_⟩
  rw [HGG.out]
  exact below_set3 HQA.out (Nat.le_succ _) _ _ _
set_option maxHeartbeats 800000 in
theorem hParse_len {b p : Int} {s n : Nat} {f : Int} {R C : Nat} (G : GMay b p s n f R C) (a : Option Addr) (len cap : Nat) (w : World) (hl : len ≤ maxLen) (hne : len ≠ R) : Calls Try.prog 17 #[.agg #[.int .i64 b, .int .i64 p, .int .i64 ((s : Nat)), .int .i64 ((n : Nat)), .int .i64 f], .slice a len cap] w fun e w' => e = .returned (.tuple #[.agg #[.int .i64 0, .int .i64 0, .int .i64 0], .int .i64 1]) ∧ Below w.heap.size w w' := by
  have hsz := sizes_yes G
  have hR := G.hR1
  clear G
  unfold maxLen at hl
  have hne2 : ¬ (len : Int) = (R : Int) := by omega
  have q0 := below_two w (.cells #[.int .i64 b, .int .i64 p, .int .i64 s, .int .i64 n, .int .i64 f] 23) (.cells #[.int .i64 0, .int .i64 0, .int .i64 0] 25)
  have hb0 := block_two w (.cells #[.int .i64 b, .int .i64 p, .int .i64 s, .int .i64 n, .int .i64 f] 23) #[.int .i64 0, .int .i64 0, .int .i64 0] 25
  go_enter Try.func17, Try.ntmps17
  go_wp2_with fail
  generalize (w.alloc (.cells #[.int .i64 b, .int .i64 p, .int .i64 s, .int .i64 n, .int .i64 f] 23)).alloc (.cells #[.int .i64 0, .int .i64 0, .int .i64 0] 25) = w0 at *
  refine (hsz _).mono ?_
  rintro e w1 ⟨rfl, q1⟩
  have hb1 := block_below hb0 q1 (lt_of_block hb0)
  have HQA : Hid (Below w.heap.size w w1) := btrans q0 q1
  clear hb0 q0 q1 hsz
  generalize hgg : w.heap.size = g at *
  have HGG : Hid (w.heap.size = g) := hgg
  clear hgg
  have k0 : w1.cell? ⟨g + 1, 0, none⟩ = some (.int .i64 0) := by simp [World.cell?, hb1]
  have k1 : w1.cell? ⟨g + 1, 1, none⟩ = some (.int .i64 0) := by simp [World.cell?, hb1]
  have k2 : w1.cell? ⟨g + 1, 2, none⟩ = some (.int .i64 0) := by simp [World.cell?, hb1]
  have kf : ∀ i, w1.frozen? ⟨g + 1, i, none⟩ = false := fun i => by simp [World.frozen?, hb1]
  clear hb1
  go_wp2_with fail
  refine bodyPost_ret (v := .tuple #[.agg #[.int .i64 0, .int .i64 0, .int .i64 0], .int .i64 1]) (by simp [results, Try.results17, go_sem, k0, k1, k2]) rfl ?_
  refine ⟨rfl, ?_⟩
  rw [HGG.out]
  exact below_set3 HQA.out (Nat.le_succ _) _ _ _
set_option maxHeartbeats 3200000 in
theorem hParse_any {b p : Int} {s n : Nat} {f : Int} {R C : Nat} (G : GMay b p s n f R C) (a : Option Addr) (cap : Nat) (z : List Int) (w : World) (hr : Row .u8 w a R cap z) (hz : IsB z) :
    Calls Try.prog 17 #[.agg #[.int .i64 b, .int .i64 p, .int .i64 ((s : Nat)), .int .i64 ((n : Nat)), .int .i64 f], .slice a R cap] w fun e w' => (e = .returned (.tuple #[.agg #[.int .i64 0, .int .i64 0, .int .i64 0], .int .i64 4]) ∧ readH C R z = false ∨ e = .returned (.tuple #[.agg #[.int .i64 (numAt z 4), .int .i64 (numAt z 8), .int .i64 (numAt z 12)], .int .i64 0]) ∧ readH C R z = true) ∧ Below w.heap.size w w' := by
  have hsz := sizes_yes G
  have hR := G.hR1
  have hbn := hBytes_no G (numAt z 4) (numAt z 8) (numAt z 12)
  have hby := hBytes_yes G (numAt z 4) (numAt z 8) (numAt z 12)
  clear G
  have HRD : Hid (readH C R z = (mayH C (numAt z 4) (numAt z 8) (numAt z 12) && decide (pageOf R (numAt z 4) (numAt z 8) (numAt z 12) = z))) := rfl
  have hPB : IsB (pageOf R (numAt z 4) (numAt z 8) (numAt z 12)) := isB_page _ _ _ _
  have q0 := below_two w (.cells #[.int .i64 b, .int .i64 p, .int .i64 s, .int .i64 n, .int .i64 f] 23) (.cells #[.int .i64 0, .int .i64 0, .int .i64 0] 25)
  have hb0 := block_two w (.cells #[.int .i64 b, .int .i64 p, .int .i64 s, .int .i64 n, .int .i64 f] 23) #[.int .i64 0, .int .i64 0, .int .i64 0] 25
  have gb := gbox_two w 23 b p s n f (.cells #[.int .i64 0, .int .i64 0, .int .i64 0] 25)
  have hr0 := hr.below q0 (Nat.le_refl _)
  have hn0 := fun w1 h => hnumber_any a R cap z 0 w1 h hz (by decide) hR.1
  have hn1 := fun w1 h => hnumber_any a R cap z 1 w1 h hz (by decide) hR.1
  have hn2 := fun w1 h => hnumber_any a R cap z 2 w1 h hz (by decide) hR.1
  have hRR : R ≤ 4096 := hR.2
  clear hr
  go_enter Try.func17, Try.ntmps17
  go_wp2_with fail
  generalize (w.alloc (.cells #[.int .i64 b, .int .i64 p, .int .i64 s, .int .i64 n, .int .i64 f] 23)).alloc (.cells #[.int .i64 0, .int .i64 0, .int .i64 0] 25) = w0 at *
  refine (hsz _).mono ?_
  rintro e w1 ⟨rfl, q1⟩
  have hb1 := block_below hb0 q1 (lt_of_block hb0)
  have HQA : Hid (Below w.heap.size w w1) := btrans q0 q1
  have gb1 := gb.below q1 (Nat.le_refl _)
  have hr1 := hr0.below q1 (Nat.le_refl _)
  clear hb0 q0 q1 hsz gb hr0
  generalize hgg : w.heap.size = g at *
  have HGG : Hid (w.heap.size = g) := hgg
  clear hgg
  go_wp2_with fail
  refine (hn0 _ hr1).mono ?_
  rintro e w' ⟨rfl, rfl⟩
  go_wp2_with fail
  refine (hn1 _ hr1).mono ?_
  rintro e w' ⟨rfl, rfl⟩
  go_wp2_with fail
  refine (hn2 _ hr1).mono ?_
  rintro e w' ⟨rfl, rfl⟩
  have q2 := below_one w1 (.cells #[.int .i64 (numAt z 4), .int .i64 (numAt z 8), .int .i64 (numAt z 12)] 25)
  have gb2 := gb1.below q2 (Nat.le_refl _)
  have hh2 := hbox_new w1 25 (numAt z 4) (numAt z 8) (numAt z 12)
  have hr2 := hr1.below q2 (Nat.le_refl _)
  have hb2 := block_below hb1 q2 (lt_of_block hb1)
  have HQB : Hid (Below w.heap.size w _) := btrans (by rw [HGG.out]; exact HQA.out) q2
  clear q2 gb1 hr1 hb1 HQA hn0 hn1 hn2
  have gb3 := gb2
  obtain ⟨_, c0, c1, c2, c3, c4⟩ := gb3
  have hh3 := hh2
  obtain ⟨_, d0, d1, d2⟩ := hh3
  go_wp2_with fail
  clear c0 c1 c2 c3 c4 d0 d1 d2 gb2
  generalize w1.alloc (.cells #[.int .i64 (numAt z 4), .int .i64 (numAt z 8), .int .i64 (numAt z 12)] 25) = w2 at *
  generalize w1.heap.size = g2 at *
  have HQ3 : ∀ w3, Below w2.heap.size w2 w3 → Hid (Below w.heap.size w w3) := fun w3 q => btrans HQB.out q
  cases hm : mayH C (numAt z 4) (numAt z 8) (numAt z 12)
  · rw [hm, Bool.false_and] at HRD
    clear hby
    refine (hbn _ hm).mono ?_
    rintro e w3 ⟨rfl, q3⟩
    have hb3 := block_below hb2 q3 (lt_of_block hb2)
    have HQC := HQ3 w3 q3
    clear HQ3 q3 hbn hb2 hh2 hr2 HQB
    have k0 : w3.cell? ⟨g + 1, 0, none⟩ = some (.int .i64 0) := by simp [World.cell?, hb3]
    have k1 : w3.cell? ⟨g + 1, 1, none⟩ = some (.int .i64 0) := by simp [World.cell?, hb3]
    have k2 : w3.cell? ⟨g + 1, 2, none⟩ = some (.int .i64 0) := by simp [World.cell?, hb3]
    have kf : ∀ i, w3.frozen? ⟨g + 1, i, none⟩ = false := fun i => by simp [World.frozen?, hb3]
    clear hb3
    go_wp2_with fail
    refine bodyPost_ret (v := .tuple #[.agg #[.int .i64 0, .int .i64 0, .int .i64 0], .int .i64 4]) (by simp [results, Try.results17, go_sem, k0, k1, k2]) rfl ?_
    rw [HGG.out] at *
    refine ⟨.inl ⟨rfl, HRD.out⟩, below_set3 HQC.out (Nat.le_succ _) _ _ _⟩
  · rw [hm, Bool.true_and] at HRD
    clear hbn
    refine (hby _ hm).mono ?_
    rintro e w3 ⟨g3, hg3, rfl, own3, q3⟩
    have hb3 := block_below hb2 q3 (lt_of_block hb2)
    have hr3 := hr2.below q3 (Nat.le_refl _)
    obtain ⟨_, d0, d1, d2⟩ := hh2.below q3 (Nat.le_refl _)
    have HQC := HQ3 w3 q3
    obtain ⟨ao, co, he, rp⟩ := row_of_owns own3
    cases he
    clear HQ3 q3 hby hb2 hh2 hr2 HQB own3
    have k0 : w3.cell? ⟨g + 1, 0, none⟩ = some (.int .i64 0) := by simp [World.cell?, hb3]
    have k1 : w3.cell? ⟨g + 1, 1, none⟩ = some (.int .i64 0) := by simp [World.cell?, hb3]
    have k2 : w3.cell? ⟨g + 1, 2, none⟩ = some (.int .i64 0) := by simp [World.cell?, hb3]
    have kf : ∀ i, w3.frozen? ⟨g + 1, i, none⟩ = false := fun i => by simp [World.frozen?, hb3]
    clear hb3
    have heq := bytesEqual_any _ _ _ _ _ _ _ z w3 rp hr3 hPB hz
    rw [← HRD.out] at heq
    clear HRD
    cases hrd : readH C R z
    · rw [hrd] at heq
      go_wp2_with fail
      refine heq.mono ?_
      rintro e w' ⟨rfl, rfl⟩
      go_wp2_with fail
      refine bodyPost_ret (v := .tuple #[.agg #[.int .i64 0, .int .i64 0, .int .i64 0], .int .i64 4]) (by simp [results, Try.results17, go_sem, k0, k1, k2]) rfl ?_
      rw [HGG.out] at *
      exact ⟨.inl ⟨rfl, hrd⟩, below_set3 HQC.out (Nat.le_succ _) _ _ _⟩
    · rw [hrd] at heq
      go_wp2_with fail
      refine heq.mono ?_
      rintro e w' ⟨rfl, rfl⟩
      go_wp2_with fail
      refine bodyPost_ret (v := .tuple #[.agg #[.int .i64 (numAt z 4), .int .i64 (numAt z 8), .int .i64 (numAt z 12)], .int .i64 0]) (by simp [results, Try.results17, go_sem, k0, k1, k2]) rfl ?_
      rw [HGG.out] at *
      exact ⟨.inr ⟨rfl, hrd⟩, below_set3 HQC.out (Nat.le_succ _) _ _ _⟩
end Go.Proofs.Ytefpmidjedfjmaa
