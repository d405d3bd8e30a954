/-
  What layer 7 wants of the layers below: bch.Bits, ecc's geometry (Check, Raw), the document's May, Room, Whole and Raw. (Written by tools/gen/chip_low.py out of the templates of layers 3, 5 and 6.)
-/
import Derived.Test.YtefpmidjedfjmaaBits
import Derived.Test.YtefpmidjedfjmaaHeld
import Derived.Test.YtefpmidjedfjmaaMapIs
import Derived.Deep.CutRange
import Derived.WalkMore
namespace Go.Proofs.Ytefpmidjedfjmaa
open Go.RowKit
set_option linter.unusedVariables false
set_option maxRecDepth 8192

theorem grown_drewN (w : World) (n : Nat) (rb : Option Nat) : w.grownBy (w.drewN n) rb := ⟨rfl, rfl, rfl, Nat.le_refl _, fun _ _ _ => rfl⟩
theorem below_of_grown {B : Nat} {w w1 : World} {rb : Option Nat} (h : w.grownBy w1 rb) (hB : B ≤ w.heap.size) (hr : ∀ k, rb = some k → B ≤ k) : Below B w w1 := (Below.refl B w).grown h hB hr
theorem Row.grown {k : IntKind} {w w1 : World} {a : Option Addr} {len cap : Nat} {zs : List Int} (h : Row k w a len cap zs) (hg : w.grownBy w1 none) : Row k w1 a len cap zs := h.below (below_of_grown hg (Nat.le_refl _) (by simp)) (Nat.le_refl _)
theorem Row.drewN {k : IntKind} {w : World} {a : Option Addr} {len cap : Nat} {zs : List Int} (h : Row k w a len cap zs) (n : Nat) : Row k (w.drewN n) a len cap zs := h.grown (grown_drewN w n none)
theorem quiet_eq {P : Program} {f : FuncId} {args : Array Value} {w : World} {n : Nat} {v : Value}
    (h : Calls P f args (w.drewN n) fun e w' => e = .returned v ∧ w.drewN n = w') : Calls P f args (w.drewN n) fun e w'' => e = .returned v ∧ ∃ m, w'' = w.drewN m :=
  h.mono fun _ _ ⟨he, hm⟩ => ⟨he, n, hm.symm⟩

/-- Is n one of a to b? -/
def withB (n a b : Int) : Bool := decide (a ≤ n ∧ n ≤ b)
theorem withB_yes {n a b : Int} (h : withB n a b = true) : a ≤ n ∧ n ≤ b := by unfold withB at h; exact of_decide_eq_true h
theorem withB_no {n a b : Int} (h : withB n a b = false) : ¬ (a ≤ n ∧ n ≤ b) := by unfold withB at h; exact of_decide_eq_false h
/-- May a geometry be? -/
def mayG (b p s n f : Int) : Bool := decide (1 ≤ b ∧ b ≤ 256 ∧ 2 ≤ p ∧ p ≤ 64 ∧ 1 ≤ s ∧ s ≤ 8 ∧ 4 ≤ n ∧ n ≤ 512 ∧ n % 4 = 0 ∧ 1 ≤ f ∧ f ≤ 8 ∧ 16 ≤ s * n)
theorem mayG_no {b p s n f : Int} (h : ¬ (1 ≤ b ∧ b ≤ 256 ∧ 2 ≤ p ∧ p ≤ 64 ∧ 1 ≤ s ∧ s ≤ 8 ∧ 4 ≤ n ∧ n ≤ 512 ∧ n % 4 = 0 ∧ 1 ≤ f ∧ f ≤ 8 ∧ 16 ≤ s * n)) : mayG b p s n f = false := by unfold mayG; rw [decide_eq_false_iff_not]; exact h
/-- A geometry that may be, of small pages: R data bytes, m more bytes of a sector, W bytes of a sector, L raw bytes. -/
structure GOk (b p : Int) (s n f R m W L : Nat) : Prop where
  hb : 1 ≤ b ∧ b ≤ 256
  hp : 2 ≤ p ∧ p ≤ 64
  hs : 1 ≤ s ∧ s ≤ 8
  hn : 4 ≤ n ∧ n ≤ 64
  hf : 1 ≤ f ∧ f ≤ 8
  h4 : n % 4 = 0
  hR : s * n = R
  hR1 : 16 ≤ R ∧ R ≤ 64
  hm : (13 * f + 7) / 8 = m
  hW : n + m = W
  hL : s * W + 1 = L
theorem GOk.may {b p : Int} {s n f R m W L : Nat} (h : GOk b p s n f R m W L) : mayG b p s n f = true := by
  obtain ⟨hb, hp, hs, hn, hf, h4, hR, hR1, hm, hW, hL⟩ := h
  unfold mayG
  rw [decide_eq_true_iff, ← Int.natCast_mul, hR]
  omega
theorem GOk.m2 {b p : Int} {s n f R m W L : Nat} (h : GOk b p s n f R m W L) : 2 ≤ m ∧ m ≤ 13 := by have := h.hm; have := h.hf; omega
theorem GOk.W2 {b p : Int} {s n f R m W L : Nat} (h : GOk b p s n f R m W L) : 6 ≤ W ∧ W ≤ 77 := by have := h.m2; have := h.hn; have := h.hW; omega
theorem GOk.L2 {b p : Int} {s n f R m W L : Nat} (h : GOk b p s n f R m W L) : 7 ≤ L ∧ L ≤ 169 := by
  have h1 := h.m2; have h2 := h.hW; have h3 := h.hL; have h4 := h.hR; have h5 := h.hR1; have h6 := h.hs
  subst h2
  rw [Nat.mul_add, h4] at h3
  have h7 : 1 * 2 ≤ s * m := Nat.mul_le_mul h6.1 h1.1
  have h8 : s * m ≤ 8 * 13 := Nat.mul_le_mul h6.2 h1.2
  omega
/-- The sector i lies ahead of the mark. -/
theorem GOk.at_ {b p : Int} {s n f R m W L : Nat} (h : GOk b p s n f R m W L) {i : Nat} (hi : i < s) : i * W + W + 1 ≤ L := by
  have h3 := h.hL
  have : (i + 1) * W ≤ s * W := Nat.mul_le_mul_right W hi
  rw [Nat.add_mul] at this
  omega
theorem GOk.part {b p : Int} {s n f R m W L : Nat} (h : GOk b p s n f R m W L) {i : Nat} (hi : i < s) : i * n + n ≤ R := by
  have h3 := h.hR
  have : (i + 1) * n ≤ s * n := Nat.mul_le_mul_right n hi
  rw [Nat.add_mul] at this
  omega
/-- One that may be and has small pages. -/
theorem gok_of {b p s n f : Int} (h : mayG b p s n f = true) (hr : s * n ≤ 64) : ∃ (S N F : Nat), s = S ∧ n = N ∧ f = F ∧ GOk b p S N F (S * N) ((13 * F + 7) / 8) (N + (13 * F + 7) / 8) (S * (N + (13 * F + 7) / 8) + 1) := by
  unfold mayG at h
  rw [decide_eq_true_iff] at h
  obtain ⟨h1, h2, h3, h4, h5, h6, h7, h8, h9, h10, h11, h12⟩ := h
  obtain ⟨S, rfl⟩ := Int.eq_ofNat_of_zero_le (show 0 ≤ s by omega)
  obtain ⟨N, rfl⟩ := Int.eq_ofNat_of_zero_le (show 0 ≤ n by omega)
  obtain ⟨F, rfl⟩ := Int.eq_ofNat_of_zero_le (show 0 ≤ f by omega)
  rw [← Int.natCast_mul] at hr h12
  have hN : 1 * N ≤ S * N := Nat.mul_le_mul_right N (by omega)
  exact ⟨S, N, F, rfl, rfl, rfl, ⟨⟨h1, h2⟩, ⟨h3, h4⟩, by omega, by omega, by omega, by omega, rfl, by omega, rfl, rfl, rfl⟩⟩

/-- A geometry lies in the block g. -/
structure GBox (w : World) (g : Nat) (b p s n f : Int) : Prop where
  lt : g < w.heap.size
  c0 : w.cell? ⟨g, 0, none⟩ = some (.int .i64 b)
  c1 : w.cell? ⟨g, 1, none⟩ = some (.int .i64 p)
  c2 : w.cell? ⟨g, 2, none⟩ = some (.int .i64 s)
  c3 : w.cell? ⟨g, 3, none⟩ = some (.int .i64 n)
  c4 : w.cell? ⟨g, 4, none⟩ = some (.int .i64 f)
theorem GBox.below {w w' : World} {g B : Nat} {b p s n f : Int} (h : GBox w g b p s n f) (hb : Below B w w') (hB : w.heap.size ≤ B) : GBox w' g b p s n f := by
  have hlt := h.lt
  refine ⟨by have := hb.size; omega, ?_, ?_, ?_, ?_, ?_⟩
  · rw [hb.cell (by show g < B; omega)]; exact h.c0
  · rw [hb.cell (by show g < B; omega)]; exact h.c1
  · rw [hb.cell (by show g < B; omega)]; exact h.c2
  · rw [hb.cell (by show g < B; omega)]; exact h.c3
  · rw [hb.cell (by show g < B; omega)]; exact h.c4
theorem gbox_new (w : World) (T : TypeId) (b p s n f : Int) : GBox (w.alloc (.cells #[.int .i64 b, .int .i64 p, .int .i64 s, .int .i64 n, .int .i64 f] T)) w.heap.size b p s n f := by
  refine ⟨by simp, ?_, ?_, ?_, ?_, ?_⟩ <;> (rw [World.cell?_alloc_at _ _ _ _ rfl]; rfl)

theorem within_any (n a b : Int) (w : World) : Calls Try.prog 32 #[.int .i64 n, .int .i64 a, .int .i64 b] w fun e w' => e = .returned (.bool (withB n a b)) ∧ w = w' := by
  by_cases h : a ≤ n
  · go_enter Try.func32, Try.ntmps32
    go_wp2
    go_ret
    exact ⟨ret_bool (by unfold withB; simp [h]), rfl⟩
  · go_enter Try.func32, Try.ntmps32
    go_wp2
    go_ret
    exact ⟨ret_bool (by unfold withB; symm; rw [decide_eq_false_iff_not]; omega), rfl⟩
theorem room_any (b p f : Int) (s n R : Nat) (hR : s * n = R) (hs : s ≤ 8) (hn : n ≤ 512) (w : World) : Calls Try.prog 31 #[.agg #[.int .i64 b, .int .i64 p, .int .i64 ((s : Nat)), .int .i64 ((n : Nat)), .int .i64 f]] w fun e w' => e = .returned (.int .i64 (R : Int)) ∧ Below w.heap.size w w' := by
  have hsn : s * n ≤ 8 * 512 := Nat.mul_le_mul hs hn
  go_enter Try.func31, Try.ntmps31
  go_wp2
  go_ret
  exact ⟨ret_int (by rw [← hR]; exact (Int.natCast_mul s n).symm), below_one _ _⟩
set_option maxHeartbeats 800000 in
theorem eccMayBe_any (b p s n f : Int) (w : World) : Calls Try.prog 30 #[.agg #[.int .i64 b, .int .i64 p, .int .i64 s, .int .i64 n, .int .i64 f]] w fun e w' => e = .returned (.bool (mayG b p s n f)) ∧ Below w.heap.size w w' := by
  go_enter Try.func30, Try.ntmps30
  go_wp2_with fail
  refine (within_any b 1 256 _).mono ?_
  rintro e w' ⟨rfl, rfl⟩
  cases h1 : withB b 1 256
  · have hm : mayG b p s n f = false := mayG_no (fun h => withB_no h1 (by omega))
    go_wp2_with fail
    go_ret
    exact ⟨ret_bool hm.symm, below_one _ _⟩
  go_wp2_with fail
  refine (within_any p 2 64 _).mono ?_
  rintro e w' ⟨rfl, rfl⟩
  cases h2 : withB p 2 64
  · have hm : mayG b p s n f = false := mayG_no (fun h => withB_no h2 (by omega))
    go_wp2_with fail
    go_ret
    exact ⟨ret_bool hm.symm, below_one _ _⟩
  go_wp2_with fail
  refine (within_any s 1 8 _).mono ?_
  rintro e w' ⟨rfl, rfl⟩
  cases h3 : withB s 1 8
  · have hm : mayG b p s n f = false := mayG_no (fun h => withB_no h3 (by omega))
    go_wp2_with fail
    go_ret
    exact ⟨ret_bool hm.symm, below_one _ _⟩
  go_wp2_with fail
  refine (within_any n 4 512 _).mono ?_
  rintro e w' ⟨rfl, rfl⟩
  cases h4 : withB n 4 512
  · have hm : mayG b p s n f = false := mayG_no (fun h => withB_no h4 (by omega))
    go_wp2_with fail
    go_ret
    exact ⟨ret_bool hm.symm, below_one _ _⟩
  have k3 := withB_yes h3
  have k4 := withB_yes h4
  obtain ⟨s, rfl⟩ := Int.eq_ofNat_of_zero_le (show 0 ≤ s by omega)
  obtain ⟨n, rfl⟩ := Int.eq_ofNat_of_zero_le (show 0 ≤ n by omega)
  by_cases h4m : n % 4 = 0
  case neg =>
    have hm : mayG b p s n f = false := mayG_no (fun h => by have := h.2.2.2.2.2.2.2.2.1; omega)
    have hr : ¬ (n : Int) % 4 = 0 := by omega
    go_wp2_with fail
    go_ret
    exact ⟨ret_bool hm.symm, below_one _ _⟩
  have hr : (n : Int) % 4 = 0 := by omega
  go_wp2_with fail
  refine (within_any f 1 8 _).mono ?_
  rintro e w' ⟨rfl, rfl⟩
  cases h5 : withB f 1 8
  · have hm : mayG b p s n f = false := mayG_no (fun h => withB_no h5 (by omega))
    go_wp2_with fail
    go_ret
    exact ⟨ret_bool hm.symm, below_one _ _⟩
  have k1 := withB_yes h1
  have k2 := withB_yes h2
  have k5 := withB_yes h5
  have HM : Hid (mayG b p s n f = decide (16 ≤ s * n)) := by show _ = _; unfold mayG; rw [decide_eq_decide, ← Int.natCast_mul]; omega
  have hroom := room_any b p f s n (s * n) rfl (by omega) (by omega)
  generalize s * n = R at hroom HM
  go_wp2_with fail
  refine (hroom _).mono ?_
  rintro e w1 ⟨rfl, q1⟩
  go_wp2_with fail
  go_ret
  exact ⟨ret_bool (by rw [HM.out, decide_eq_decide]; omega), btrans (below_one _ _) q1⟩
theorem eccRoom_no (b p s n f : Int) (w : World) (hm : mayG b p s n f = false) : Calls Try.prog 29 #[.agg #[.int .i64 b, .int .i64 p, .int .i64 s, .int .i64 n, .int .i64 f]] w fun e w' => e = .returned (.tuple #[.int .i64 0, .int .i64 1]) ∧ Below w.heap.size w w' := by
  go_enter Try.func29, Try.ntmps29
  go_wp2_with fail
  refine (eccMayBe_any b p s n f _).mono ?_
  rintro e w1 ⟨rfl, q1⟩
  rw [hm]
  go_wp2_with fail
  go_ret2
  exact ⟨rfl, btrans (below_one _ _) q1⟩
theorem eccRoom_yes {b p : Int} {s n f R m W L : Nat} (G : GOk b p s n f R m W L) (w : World) : Calls Try.prog 29 #[.agg #[.int .i64 b, .int .i64 p, .int .i64 ((s : Nat)), .int .i64 ((n : Nat)), .int .i64 ((f : Nat))]] w fun e w' => e = .returned (.tuple #[.int .i64 (R : Int), .int .i64 0]) ∧ Below w.heap.size w w' := by
  have HM : Hid (mayG b p s n f = true) := G.may
  have hroom := room_any b p f s n R G.hR G.hs.2 (by have := G.hn; omega)
  go_enter Try.func29, Try.ntmps29
  go_wp2_with fail
  refine (eccMayBe_any b p s n f _).mono ?_
  rintro e w1 ⟨rfl, q1⟩
  rw [HM.out]
  obtain ⟨_, c0, c1, c2, c3, c4⟩ := (gbox_new w 23 b p s n f).below q1 (Nat.le_refl _)
  go_wp2_with fail
  refine (hroom _).mono ?_
  rintro e w2 ⟨rfl, q2⟩
  go_wp2_with fail
  go_ret2
  exact ⟨rfl, btrans (btrans (below_one _ _) q1) q2⟩
theorem below_drews (w : World) (n : Nat) : Below w.heap.size w (w.drewN n) := ⟨rfl, rfl, rfl, Nat.le_refl _, fun _ _ => rfl⟩
set_option maxHeartbeats 1600000 in
theorem refMay_any (b p s n f : Int) (w : World) : Calls Try.prog 11 #[.agg #[.int .i64 b, .int .i64 p, .int .i64 s, .int .i64 n, .int .i64 f]] w fun e w' => e = .returned (.bool (mayG b p s n f)) ∧ Below w.heap.size w w' := by
  by_cases hsn : 1 ≤ s ∧ s ≤ 8 ∧ 4 ≤ n ∧ n ≤ 512
  · obtain ⟨h1, h2, h3, h4⟩ := hsn
    obtain ⟨s, rfl⟩ := Int.eq_ofNat_of_zero_le (show 0 ≤ s by omega)
    obtain ⟨n, rfl⟩ := Int.eq_ofNat_of_zero_le (show 0 ≤ n by omega)
    have hsn : s * n ≤ 8 * 512 := Nat.mul_le_mul (by omega) (by omega)
    have u1 : IntKind.i64.wrap ((s : Int) * (n : Int)) = ((s * n : Nat) : Int) := by rw [← Int.natCast_mul, IntKind.wrap_i64]; omega
    have HM : Hid (∀ x : Bool, ((1 ≤ b ∧ b ≤ 256 ∧ 2 ≤ p ∧ p ≤ 64 ∧ (n : Int) % 4 = 0 ∧ 1 ≤ f ∧ f ≤ 8 ∧ 16 ≤ s * n) ↔ x = true) → x = mayG b p s n f) := fun x h => by
      unfold mayG
      rw [← Int.natCast_mul]
      cases x
      · symm; rw [decide_eq_false_iff_not]; intro hh; have := h.1 (by omega); simp at this
      · symm; rw [decide_eq_true_iff]; have := h.2 rfl; omega
    go_enter Try.func11, Try.ntmps11
    go_wp2
    all_goals (go_ret; refine ⟨ret_bool (HM.out _ ?_), below_one _ _⟩; simp only [decide_eq_true_iff, Bool.false_eq_true, iff_false]; omega)
  · have HM : Hid (mayG b p s n f = false) := mayG_no (fun h => hsn ⟨h.2.2.2.2.1, h.2.2.2.2.2.1, h.2.2.2.2.2.2.1, h.2.2.2.2.2.2.2.1⟩)
    go_enter Try.func11, Try.ntmps11
    go_wp2
    all_goals (first | (go_ret; exact ⟨ret_bool HM.out.symm, below_one _ _⟩) | (exfalso; omega))
theorem refRoom_any (b p f : Int) (s n R : Nat) (hR : s * n = R) (hs : s ≤ 8) (hn : n ≤ 512) (w : World) : Calls Try.prog 18 #[.agg #[.int .i64 b, .int .i64 p, .int .i64 ((s : Nat)), .int .i64 ((n : Nat)), .int .i64 f]] w fun e w' => e = .returned (.int .i64 (R : Int)) ∧ Below w.heap.size w w' := by
  have hsn : s * n ≤ 8 * 512 := Nat.mul_le_mul hs hn
  go_enter Try.func18, Try.ntmps18
  go_wp2
  go_ret
  exact ⟨ret_int (by rw [← hR]; exact (Int.natCast_mul s n).symm), below_one _ _⟩
end Go.Proofs.Ytefpmidjedfjmaa
