/-
  Pages of layer 6, plain: parts of a row, what was packed, what is told of a sector, noughts.
-/
import Derived.Test.YtgamakejaknagaaGreatPackG
import Derived.Test.YtgamakejaknagaaGreatPackA
import Derived.RangeFuncRecord
namespace Go.Proofs.YtgamakejaknagaaGreat
open Go.RowKit
set_option linter.unusedVariables false
set_option maxRecDepth 8192

/-- n bytes from the place o on. -/
def part (z : List Int) (o n : Nat) : List Int := (z.drop o).take n
theorem length_part {z : List Int} {o n : Nat} (h : o + n ≤ z.length) : (part z o n).length = n := by unfold part; rw [List.length_take, List.length_drop]; omega
theorem part_get (z : List Int) (o n i : Nat) (h : i < n) : (part z o n)[i]?.getD 0 = z[o + i]?.getD 0 := by
  unfold part; rw [List.getElem?_take, if_pos h, List.getElem?_drop]
theorem isB_part {z : List Int} (h : IsB z) (o n : Nat) : IsB (part z o n) := fun x hx => h x (List.mem_of_mem_drop (List.mem_of_mem_take hx))
theorem getD_ext {x y : List Int} (hl : x.length = y.length) (h : ∀ i, i < x.length → x[i]?.getD 0 = y[i]?.getD 0) : x = y := by
  apply List.ext_getElem hl
  intro i h1 h2
  have := h i h1
  rw [List.getElem?_eq_getElem h1, List.getElem?_eq_getElem h2] at this
  exact this
theorem part_congr {z z' : List Int} {o n : Nat} (hl : o + n ≤ z.length) (hl' : o + n ≤ z'.length) (h : ∀ i, i < n → z[o + i]?.getD 0 = z'[o + i]?.getD 0) : part z o n = part z' o n := by
  refine getD_ext (by rw [length_part hl, length_part hl']) fun i hi => ?_
  rw [length_part hl] at hi
  rw [part_get _ _ _ _ hi, part_get _ _ _ _ hi, h i hi]
/-- A part of a row that lies somewhere. -/
theorem row_part {k : IntKind} {w : World} {b off len cap : Nat} {z : List Int} (hr : Row k w (some ⟨b, off, none⟩) len cap z) (o n c : Nat) (ho : o + n ≤ len) (hn : n ≤ c) (hc : c ≤ maxLen) : Row k w (some ⟨b, off + o, none⟩) n c (part z o n) := by
  refine ⟨length_part (by rw [hr.hlen]; exact ho), hn, hc, by simp, fun h0 => ?_⟩
  obtain ⟨b', off', he, hbs, hcell⟩ := hr.hcell (by omega)
  simp only [Option.some.injEq, Addr.mk.injEq, and_true] at he
  obtain ⟨rfl, rfl⟩ := he
  refine ⟨b, off + o, rfl, hbs, fun i hi => ?_⟩
  rw [part_get _ _ _ _ hi, Nat.add_assoc]
  exact hcell (o + i) (by omega)

/-- The first i sectors are packed. -/
structure Packed (i n f m W : Nat) (x z : List Int) : Prop where
  data : ∀ j, j < i → part z (j * W) n = part x (j * n) n
  more : ∀ j, j < i → IsEnc f (part x (j * n) n) (part z (j * W + n) m)
/-- x, packed. -/
structure IsPack (s n f m W : Nat) (x z : List Int) : Prop where
  len : z.length = s * W + 1
  isB : IsB z
  all : Packed s n f m W x z
  mark : z[s * W]?.getD 0 = 0
theorem at_le {j i W : Nat} (h : j < i) : j * W + W ≤ i * W := by
  have : (j + 1) * W ≤ i * W := Nat.mul_le_mul_right W h
  rwa [Nat.add_mul, Nat.one_mul] at this
theorem packed_zero (n f m W : Nat) (x z : List Int) : Packed 0 n f m W x z := ⟨fun j h => absurd h (by omega), fun j h => absurd h (by omega)⟩
/-- Packed sectors stay where what lies ahead stays. -/
theorem Packed.keep {i n f m W : Nat} {x z z' : List Int} (h : Packed i n f m W x z) (hW : n + m = W) (hl : i * W ≤ z.length) (hl' : i * W ≤ z'.length) (he : ∀ q, q < i * W → z[q]?.getD 0 = z'[q]?.getD 0) : Packed i n f m W x z' := by
  refine ⟨fun j hj => ?_, fun j hj => ?_⟩
  · have := at_le (W := W) hj
    rw [← h.data j hj]
    exact (part_congr (by omega) (by omega) fun q hq => he _ (by omega)).symm
  · have := at_le (W := W) hj
    rw [← part_congr (z := z) (by omega) (by omega) fun q hq => he _ (by omega)]
    exact h.more j hj
theorem Packed.next {i n f m W : Nat} {x z : List Int} (h : Packed i n f m W x z) (h1 : part z (i * W) n = part x (i * n) n) (h2 : IsEnc f (part x (i * n) n) (part z (i * W + n) m)) : Packed (i + 1) n f m W x z := by
  refine ⟨fun j hj => ?_, fun j hj => ?_⟩
  · by_cases e : j = i
    · subst e; exact h1
    · exact h.data j (by omega)
  · by_cases e : j = i
    · subst e; exact h2
    · exact h.more j (by omega)
/-- A row with a part of it replaced. -/
def splice (z : List Int) (o : Nat) (y : List Int) : List Int := z.take o ++ y ++ z.drop (o + y.length)
theorem length_splice {z y : List Int} {o : Nat} (h : o + y.length ≤ z.length) : (splice z o y).length = z.length := by unfold splice; simp; omega
theorem splice_get {z y : List Int} {o : Nat} (h : o + y.length ≤ z.length) (q : Nat) : (splice z o y)[q]?.getD 0 = if o ≤ q ∧ q < o + y.length then y[q - o]?.getD 0 else z[q]?.getD 0 := by
  unfold splice
  rw [List.append_assoc]
  by_cases h1 : q < o
  · rw [if_neg (by omega), List.getElem?_append_left (by simp; omega), List.getElem?_take, if_pos h1]
  · rw [List.getElem?_append_right (by simp; omega)]
    have e : (z.take o).length = o := by simp; omega
    rw [e]
    by_cases h2 : q < o + y.length
    · rw [if_pos (by omega), List.getElem?_append_left (by omega)]
    · rw [if_neg (by omega), List.getElem?_append_right (by omega), List.getElem?_drop]
      congr 2
      omega
theorem isB_splice {z y : List Int} {o : Nat} (hz : IsB z) (hy : IsB y) : IsB (splice z o y) := fun x hx => by
  unfold splice at hx
  rcases List.mem_append.1 hx with hx | hx
  · rcases List.mem_append.1 hx with hx | hx
    · exact hz x (List.mem_of_mem_take hx)
    · exact hy x hx
  · exact hz x (List.mem_of_mem_drop hx)
theorem part_splice_at {z y : List Int} {o : Nat} (h : o + y.length ≤ z.length) : part (splice z o y) o y.length = y := by
  refine getD_ext (length_part (by rw [length_splice h]; exact h)) fun i hi => ?_
  rw [length_part (by rw [length_splice h]; exact h)] at hi
  rw [part_get _ _ _ _ hi, splice_get h, if_pos (by omega), Nat.add_sub_cancel_left]
theorem part_splice_off {z y : List Int} {o o' n : Nat} (h : o + y.length ≤ z.length) (hn : o' + n ≤ z.length) (ha : o' + n ≤ o ∨ o + y.length ≤ o') : part (splice z o y) o' n = part z o' n := by
  refine part_congr (by rw [length_splice h]; exact hn) hn fun i hi => ?_
  rw [splice_get h, if_neg (by omega)]
theorem isB_set {z : List Int} (hz : IsB z) (q : Nat) (v : Int) (h0 : 0 ≤ v) (h1 : v ≤ 255) : IsB (z.set q v) := fun x hx => by
  rcases List.mem_or_eq_of_mem_set hx with h | h
  · exact hz x h
  · subst h; exact ⟨h0, h1⟩
theorem set_get (z : List Int) (q i : Nat) (v : Int) : (z.set q v)[i]?.getD 0 = if q = i ∧ q < z.length then v else z[i]?.getD 0 := by
  rw [List.getElem?_set]
  by_cases h : q = i
  · subst h
    by_cases h2 : q < z.length
    · simp [h2]
    · simp [h2]
  · simp [h]

/-- What is told of a sector. -/
structure Sec where
  d : List Int
  n : Nat
  e : Int
/-- c is what the code tells of the sector x with the more bytes y. -/
def IsSec (t : Nat) (x y : List Int) (c : Sec) : Prop := (c.e = 0 ∧ ∃ k, IsDec t x y c.d k c.n) ∨ (c.e = 50 ∧ c.d = [] ∧ c.n = 0 ∧ ∀ d k n, ¬ IsDec t x y d k n)

/-- How many bits of the sector i are 0. -/
def nouN (z : List Int) (W i : Nat) : Int := 8 * (W : Int) - onesTo (part z (i * W) W) (8 * W)
/-- Has each of the first i sectors at most f noughts? -/
def blankTo (f : Nat) (z : List Int) (W : Nat) : Nat → Bool
  | 0 => true
  | i + 1 => blankTo f z W i && decide (nouN z W i ≤ f)
theorem bitI_congr {x y : List Int} {i j : Nat} (h : x[i / 8]?.getD 0 = y[j / 8]?.getD 0) (hm : i % 8 = j % 8) : bitI x i = bitI y j := by unfold bitI; rw [h, hm]
theorem bitI_part (z : List Int) (o n i : Nat) (h : i < 8 * n) : bitI (part z o n) i = bitI z (8 * o + i) :=
  bitI_congr (by rw [part_get _ _ _ _ (by omega)]; congr 2; omega) (by omega)
theorem onesTo_congr {x y : List Int} {n : Nat} (h : ∀ i, i < n → bitI x i = bitI y i) : onesTo x n = onesTo y n := by
  induction n with
  | zero => rfl
  | succ n ih => rw [onesTo_succ, onesTo_succ, ih fun i hi => h i (by omega), h n (by omega)]
theorem onesTo_part_add {m : Nat} (z : List Int) (o n k : Nat) (hk : k ≤ 8 * m) : onesTo (part z o (n + m)) (8 * n + k) = onesTo (part z o n) (8 * n) + onesTo (part z (o + n) m) k := by
  induction k with
  | zero =>
    rw [Nat.add_zero, onesTo_zero, Int.add_zero]
    exact onesTo_congr fun i hi => by rw [bitI_part _ _ _ _ (by omega), bitI_part _ _ _ _ hi]
  | succ k ih =>
    rw [← Nat.add_assoc, onesTo_succ, onesTo_succ, ih (by omega), bitI_part _ _ _ _ (by omega), bitI_part _ _ _ _ (by omega), show 8 * (o + n) + k = 8 * o + (8 * n + k) by omega]
    omega
/-- Noughts, counted in two halves. -/
theorem nou_halves (z : List Int) (n m W i : Nat) (hW : n + m = W) : nouN z W i = 8 * ((n : Int) + (m : Int)) - onesTo (part z (i * W) n) (8 * n) - onesTo (part z (i * W + n) m) (8 * m) := by
  unfold nouN
  subst hW
  have := onesTo_part_add (m := m) z (i * (n + m)) n (8 * m) (Nat.le_refl _)
  rw [← Nat.mul_add] at this
  rw [this]
  omega
theorem blankTo_no {f : Nat} {z : List Int} {W : Nat} : ∀ {s i : Nat}, i < s → ¬ nouN z W i ≤ f → blankTo f z W s = false := by
  intro s
  induction s with
  | zero => intro i h; omega
  | succ s ih =>
    intro i h hn
    unfold blankTo
    by_cases e : i = s
    · subst e; simp [hn]
    · rw [ih (by omega) hn]; rfl
end Go.Proofs.YtgamakejaknagaaGreat

/-
  The code of layer 6 (ecc), as it landed: geometries: within, room, mayBe, moreBytes, rawBytes, cut, Check, Room, Raw. (Written by tools/gen/ecc_code.py.)
-/
namespace Go.Proofs.YtgamakejaknagaaGreat
open Go.RowKit
set_option linter.unusedVariables false
set_option maxRecDepth 8192

/-- Is n one of a to b? -/
def withB (n a b : Int) : Bool := decide (a ≤ n ∧ n ≤ b)
theorem withB_yes {n a b : Int} (h : withB n a b = true) : a ≤ n ∧ n ≤ b := by unfold withB at h; exact of_decide_eq_true h
theorem withB_no {n a b : Int} (h : withB n a b = false) : ¬ (a ≤ n ∧ n ≤ b) := by unfold withB at h; exact of_decide_eq_false h
/-- May a geometry be? -/
def mayG (b p s n f : Int) : Bool := decide (1 ≤ b ∧ b ≤ 256 ∧ 2 ≤ p ∧ p ≤ 64 ∧ 1 ≤ s ∧ s ≤ 8 ∧ 4 ≤ n ∧ n ≤ 512 ∧ n % 4 = 0 ∧ 1 ≤ f ∧ f ≤ 8 ∧ 16 ≤ s * n)
theorem mayG_no {b p s n f : Int} (h : ¬ (1 ≤ b ∧ b ≤ 256 ∧ 2 ≤ p ∧ p ≤ 64 ∧ 1 ≤ s ∧ s ≤ 8 ∧ 4 ≤ n ∧ n ≤ 512 ∧ n % 4 = 0 ∧ 1 ≤ f ∧ f ≤ 8 ∧ 16 ≤ s * n)) : mayG b p s n f = false := by unfold mayG; rw [decide_eq_false_iff_not]; exact h
/-- A geometry that may be, of small pages: R data bytes, m more bytes of a sector, W bytes of a sector, L raw bytes. -/
structure GOk (b p : Int) (s n f R m W L : Nat) : Prop where
  hb : 1 ≤ b ∧ b ≤ 256
  hp : 2 ≤ p ∧ p ≤ 64
  hs : 1 ≤ s ∧ s ≤ 8
  hn : 4 ≤ n ∧ n ≤ 64
  hf : 1 ≤ f ∧ f ≤ 8
  h4 : n % 4 = 0
  hR : s * n = R
  hR1 : 16 ≤ R ∧ R ≤ 64
  hm : (13 * f + 7) / 8 = m
  hW : n + m = W
  hL : s * W + 1 = L
theorem GOk.may {b p : Int} {s n f R m W L : Nat} (h : GOk b p s n f R m W L) : mayG b p s n f = true := by
  obtain ⟨hb, hp, hs, hn, hf, h4, hR, hR1, hm, hW, hL⟩ := h
  unfold mayG
  rw [decide_eq_true_iff, ← Int.natCast_mul, hR]
  omega
theorem GOk.m2 {b p : Int} {s n f R m W L : Nat} (h : GOk b p s n f R m W L) : 2 ≤ m ∧ m ≤ 13 := by have := h.hm; have := h.hf; omega
theorem GOk.W2 {b p : Int} {s n f R m W L : Nat} (h : GOk b p s n f R m W L) : 6 ≤ W ∧ W ≤ 77 := by have := h.m2; have := h.hn; have := h.hW; omega
theorem GOk.L2 {b p : Int} {s n f R m W L : Nat} (h : GOk b p s n f R m W L) : 7 ≤ L ∧ L ≤ 169 := by
  have h1 := h.m2; have h2 := h.hW; have h3 := h.hL; have h4 := h.hR; have h5 := h.hR1; have h6 := h.hs
  subst h2
  rw [Nat.mul_add, h4] at h3
  have h7 : 1 * 2 ≤ s * m := Nat.mul_le_mul h6.1 h1.1
  have h8 : s * m ≤ 8 * 13 := Nat.mul_le_mul h6.2 h1.2
  omega
/-- The sector i lies ahead of the mark. -/
theorem GOk.at_ {b p : Int} {s n f R m W L : Nat} (h : GOk b p s n f R m W L) {i : Nat} (hi : i < s) : i * W + W + 1 ≤ L := by
  have h3 := h.hL
  have : (i + 1) * W ≤ s * W := Nat.mul_le_mul_right W hi
  rw [Nat.add_mul] at this
  omega
theorem GOk.part {b p : Int} {s n f R m W L : Nat} (h : GOk b p s n f R m W L) {i : Nat} (hi : i < s) : i * n + n ≤ R := by
  have h3 := h.hR
  have : (i + 1) * n ≤ s * n := Nat.mul_le_mul_right n hi
  rw [Nat.add_mul] at this
  omega
/-- One that may be and has small pages. -/
theorem gok_of {b p s n f : Int} (h : mayG b p s n f = true) (hr : s * n ≤ 64) : ∃ (S N F : Nat), s = S ∧ n = N ∧ f = F ∧ GOk b p S N F (S * N) ((13 * F + 7) / 8) (N + (13 * F + 7) / 8) (S * (N + (13 * F + 7) / 8) + 1) := by
  unfold mayG at h
  rw [decide_eq_true_iff] at h
  obtain ⟨h1, h2, h3, h4, h5, h6, h7, h8, h9, h10, h11, h12⟩ := h
  obtain ⟨S, rfl⟩ := Int.eq_ofNat_of_zero_le (show 0 ≤ s by omega)
  obtain ⟨N, rfl⟩ := Int.eq_ofNat_of_zero_le (show 0 ≤ n by omega)
  obtain ⟨F, rfl⟩ := Int.eq_ofNat_of_zero_le (show 0 ≤ f by omega)
  rw [← Int.natCast_mul] at hr h12
  have hN : 1 * N ≤ S * N := Nat.mul_le_mul_right N (by omega)
  exact ⟨S, N, F, rfl, rfl, rfl, ⟨⟨h1, h2⟩, ⟨h3, h4⟩, by omega, by omega, by omega, by omega, rfl, by omega, rfl, rfl, rfl⟩⟩

/-- A geometry lies in the block g. -/
structure GBox (w : World) (g : Nat) (b p s n f : Int) : Prop where
  lt : g < w.heap.size
  c0 : w.cell? ⟨g, 0, none⟩ = some (.int .i64 b)
  c1 : w.cell? ⟨g, 1, none⟩ = some (.int .i64 p)
  c2 : w.cell? ⟨g, 2, none⟩ = some (.int .i64 s)
  c3 : w.cell? ⟨g, 3, none⟩ = some (.int .i64 n)
  c4 : w.cell? ⟨g, 4, none⟩ = some (.int .i64 f)
theorem GBox.below {w w' : World} {g B : Nat} {b p s n f : Int} (h : GBox w g b p s n f) (hb : Below B w w') (hB : w.heap.size ≤ B) : GBox w' g b p s n f := by
  have hlt := h.lt
  refine ⟨by have := hb.size; omega, ?_, ?_, ?_, ?_, ?_⟩
  · rw [hb.cell (by show g < B; omega)]; exact h.c0
  · rw [hb.cell (by show g < B; omega)]; exact h.c1
  · rw [hb.cell (by show g < B; omega)]; exact h.c2
  · rw [hb.cell (by show g < B; omega)]; exact h.c3
  · rw [hb.cell (by show g < B; omega)]; exact h.c4
theorem gbox_new (w : World) (T : TypeId) (b p s n f : Int) : GBox (w.alloc (.cells #[.int .i64 b, .int .i64 p, .int .i64 s, .int .i64 n, .int .i64 f] T)) w.heap.size b p s n f := by
  refine ⟨by simp, ?_, ?_, ?_, ?_, ?_⟩ <;> (rw [World.cell?_alloc_at _ _ _ _ rfl]; rfl)

theorem within_any (n a b : Int) (w : World) : Calls Tryz.prog 124 #[.int .i64 n, .int .i64 a, .int .i64 b] w fun e w' => e = .returned (.bool (withB n a b)) ∧ w = w' := by
  by_cases h : a ≤ n
  · go_enter Tryz.func124, Tryz.ntmps124
    go_wp2
    go_ret
    exact ⟨ret_bool (by unfold withB; simp [h]), rfl⟩
  · go_enter Tryz.func124, Tryz.ntmps124
    go_wp2
    go_ret
    exact ⟨ret_bool (by unfold withB; symm; rw [decide_eq_false_iff_not]; omega), rfl⟩
theorem room_any (b p f : Int) (s n R : Nat) (hR : s * n = R) (hs : s ≤ 8) (hn : n ≤ 512) (w : World) : Calls Tryz.prog 113 #[.agg #[.int .i64 b, .int .i64 p, .int .i64 ((s : Nat)), .int .i64 ((n : Nat)), .int .i64 f]] w fun e w' => e = .returned (.int .i64 (R : Int)) ∧ Below w.heap.size w w' := by
  have hsn : s * n ≤ 8 * 512 := Nat.mul_le_mul hs hn
  go_enter Tryz.func113, Tryz.ntmps113
  go_wp2
  go_ret
  exact ⟨ret_int (by rw [← hR]; exact (Int.natCast_mul s n).symm), below_one _ _⟩
set_option maxHeartbeats 800000 in
theorem eccMayBe_any (b p s n f : Int) (w : World) : Calls Tryz.prog 100 #[.agg #[.int .i64 b, .int .i64 p, .int .i64 s, .int .i64 n, .int .i64 f]] w fun e w' => e = .returned (.bool (mayG b p s n f)) ∧ Below w.heap.size w w' := by
  go_enter Tryz.func100, Tryz.ntmps100
  go_wp2_with fail
  refine (within_any b 1 256 _).mono ?_
  rintro e w' ⟨rfl, rfl⟩
  cases h1 : withB b 1 256
  · have hm : mayG b p s n f = false := mayG_no (fun h => withB_no h1 (by omega))
    go_wp2_with fail
    go_ret
    exact ⟨ret_bool hm.symm, below_one _ _⟩
  go_wp2_with fail
  refine (within_any p 2 64 _).mono ?_
  rintro e w' ⟨rfl, rfl⟩
  cases h2 : withB p 2 64
  · have hm : mayG b p s n f = false := mayG_no (fun h => withB_no h2 (by omega))
    go_wp2_with fail
    go_ret
    exact ⟨ret_bool hm.symm, below_one _ _⟩
  go_wp2_with fail
  refine (within_any s 1 8 _).mono ?_
  rintro e w' ⟨rfl, rfl⟩
  cases h3 : withB s 1 8
  · have hm : mayG b p s n f = false := mayG_no (fun h => withB_no h3 (by omega))
    go_wp2_with fail
    go_ret
    exact ⟨ret_bool hm.symm, below_one _ _⟩
  go_wp2_with fail
  refine (within_any n 4 512 _).mono ?_
  rintro e w' ⟨rfl, rfl⟩
  cases h4 : withB n 4 512
  · have hm : mayG b p s n f = false := mayG_no (fun h => withB_no h4 (by omega))
    go_wp2_with fail
    go_ret
    exact ⟨ret_bool hm.symm, below_one _ _⟩
  have k3 := withB_yes h3
  have k4 := withB_yes h4
  obtain ⟨s, rfl⟩ := Int.eq_ofNat_of_zero_le (show 0 ≤ s by omega)
  obtain ⟨n, rfl⟩ := Int.eq_ofNat_of_zero_le (show 0 ≤ n by omega)
  by_cases h4m : n % 4 = 0
  case neg =>
    have hm : mayG b p s n f = false := mayG_no (fun h => by have := h.2.2.2.2.2.2.2.2.1; omega)
    have hr : ¬ (n : Int) % 4 = 0 := by omega
    go_wp2_with fail
    go_ret
    exact ⟨ret_bool hm.symm, below_one _ _⟩
  have hr : (n : Int) % 4 = 0 := by omega
  go_wp2_with fail
  refine (within_any f 1 8 _).mono ?_
  rintro e w' ⟨rfl, rfl⟩
  cases h5 : withB f 1 8
  · have hm : mayG b p s n f = false := mayG_no (fun h => withB_no h5 (by omega))
    go_wp2_with fail
    go_ret
    exact ⟨ret_bool hm.symm, below_one _ _⟩
  have k1 := withB_yes h1
  have k2 := withB_yes h2
  have k5 := withB_yes h5
  have HM : Hid (mayG b p s n f = decide (16 ≤ s * n)) := by show _ = _; unfold mayG; rw [decide_eq_decide, ← Int.natCast_mul]; omega
  have hroom := room_any b p f s n (s * n) rfl (by omega) (by omega)
  generalize s * n = R at hroom HM
  go_wp2_with fail
  refine (hroom _).mono ?_
  rintro e w1 ⟨rfl, q1⟩
  go_wp2_with fail
  go_ret
  exact ⟨ret_bool (by rw [HM.out, decide_eq_decide]; omega), btrans (below_one _ _) q1⟩
theorem eccMore_any (hB : HBitsC) (b p s n : Int) (f m : Nat) (hm : (13 * f + 7) / 8 = m) (hf1 : 1 ≤ f) (hf8 : f ≤ 8) (w : World) : Calls Tryz.prog 133 #[.agg #[.int .i64 b, .int .i64 p, .int .i64 s, .int .i64 n, .int .i64 ((f : Nat))]] w fun e w' => e = .returned (.int .i64 (m : Int)) ∧ Below w.heap.size w w' := by
  have hbits := hB.yes f
  have hk : 13 * f ≤ 104 := by omega
  generalize 13 * f = k at hm hbits hk
  have HMM : Hid ((k + 7) / 8 = m) := hm
  clear hm
  go_enter Tryz.func133, Tryz.ntmps133
  go_wp2_with fail
  refine (hbits _ hf1 hf8).mono ?_
  rintro e w1 ⟨rfl, q1⟩
  go_wp2_with fail
  go_ret
  exact ⟨ret_int (by rw [← HMM.out]; omega), btrans (below_one _ _) q1⟩
set_option maxHeartbeats 800000 in
theorem rawBytes_any (hB : HBitsC) {b p : Int} {s n f R m W L : Nat} (G : GOk b p s n f R m W L) (w : World) : Calls Tryz.prog 119 #[.agg #[.int .i64 b, .int .i64 p, .int .i64 ((s : Nat)), .int .i64 ((n : Nat)), .int .i64 ((f : Nat))]] w fun e w' => e = .returned (.int .i64 (L : Int)) ∧ Below w.heap.size w w' := by
  have hmore := eccMore_any hB b p s n f m G.hm G.hf.1 G.hf.2
  have hW := G.hW
  have hL := G.hL
  have hW2 := G.W2
  have hs2 := G.hs
  have hL2 := G.L2
  clear G
  have HW : Hid (n + m = W) := hW
  obtain ⟨SW, hSW⟩ : ∃ SW, s * W = SW := ⟨_, rfl⟩
  rw [hSW] at hL
  have HSW : Hid (s * W = SW) := hSW
  have HL : Hid (SW + 1 = L) := hL
  clear hW hL hSW
  go_enter Tryz.func119, Tryz.ntmps119
  go_wp2_with fail
  have gb := gbox_new w 23 b p s n f
  have q1 := below_one w (.cells #[.int .i64 b, .int .i64 p, .int .i64 s, .int .i64 n, .int .i64 f] 23)
  generalize w.alloc (.cells #[.int .i64 b, .int .i64 p, .int .i64 s, .int .i64 n, .int .i64 f] 23) = w0 at *
  generalize hgg : w.heap.size = g at gb
  go_wp2_with fail
  refine held_begin (by kernel_rfl) ?_
  refine held_reads (rs := [0, 1, 2, 3, 4]) (fuel := 5) (by kernel_rfl) (fun c d v a w h => by cases d <;> exact h) (by kernel_rfl) (Since.drew _) (fun K hK => ?_)
  refine calm_do (.pointer (some ⟨g, 2, none⟩)) rfl (by rfl) (fun w' hw' => ?_) ?_
  · skip
    go_simp
  go_simp
  refine calm_do (.int .i64 s) rfl (by rfl) (fun w' hw' => ?_) ?_
  · have gb' := gb.below hw' (Nat.le_refl _)
    obtain ⟨_, c0, c1, c2, c3, c4⟩ := gb'
    go_simp
  go_simp
  refine calm_do (.pointer (some ⟨g, 3, none⟩)) rfl (by rfl) (fun w' hw' => ?_) ?_
  · skip
    go_simp
  go_simp
  refine calm_do (.int .i64 n) rfl (by rfl) (fun w' hw' => ?_) ?_
  · have gb' := gb.below hw' (Nat.le_refl _)
    obtain ⟨_, c0, c1, c2, c3, c4⟩ := gb'
    go_simp
  go_simp
  refine calm_do (.agg #[.int .i64 b, .int .i64 p, .int .i64 s, .int .i64 n, .int .i64 f]) rfl (by rfl) (fun w' hw' => ?_) ?_
  · have gb' := gb.below hw' (Nat.le_refl _)
    obtain ⟨_, c0, c1, c2, c3, c4⟩ := gb'
    go_simp
  go_simp
  refine calm_nil (hK.out _ ?_)
  clear hK K
  refine held_call (i := 5) (fuel := 4) (by kernel_rfl) rfl (by rfl) (fun K hK => ?_)
  go_simp
  have qd := Since.drew w0
  replace gb := gb.below qd (Nat.le_refl _)
  replace q1 := btrans q1 qd
  clear qd
  refine (hmore _).mono ?_
  rintro e w1 ⟨rfl, qq0⟩
  refine hK _ _ (Since.trans (Since.drew _) qq0) ?_
  have qq : Since _ _ := qq0
  clear hK K qq0
  replace gb := gb.below qq (Nat.le_refl _)
  replace q1 := btrans q1 qq
  clear qq
  refine held_reads (rs := [6, 7, 8, 9]) (fuel := 0) (by kernel_rfl) (fun c d v a w h => by cases d <;> exact h) (by kernel_rfl) (Since.refl _) (fun K hK => ?_)
  go_simp
  refine calm_do (.int .i64 W) rfl (by rfl) (fun w' hw' => ?_) ?_
  · skip
    go_simp
    rw [IntKind.wrap_i64]
    have := HW.out
    omega
  go_simp
  refine calm_do (.int .i64 SW) rfl (by rfl) (fun w' hw' => ?_) ?_
  · skip
    go_simp
    rw [← Int.natCast_mul, HSW.out, IntKind.wrap_i64]
    have := HL.out
    omega
  go_simp
  refine calm_do (.int .i64 L) rfl (by rfl) (fun w' hw' => ?_) ?_
  · skip
    go_simp
    rw [IntKind.wrap_i64]
    have := HL.out
    omega
  go_simp
  refine calm_assign _ rfl (by rfl) rfl ?_
  go_simp
  refine calm_nil (hK.out _ ?_)
  clear hK K
  refine wpAnyH_done (by kernel_rfl) ?_ _
  go_wp2
  go_ret
  exact ⟨rfl, q1⟩
theorem eccCheck_yes (b p s n f : Int) (w : World) (hm : mayG b p s n f = true) : Calls Tryz.prog 64 #[.agg #[.int .i64 b, .int .i64 p, .int .i64 s, .int .i64 n, .int .i64 f]] w fun e w' => e = .returned (.int .i64 0) ∧ Below w.heap.size w w' := by
  go_enter Tryz.func64, Tryz.ntmps64
  go_wp2_with fail
  refine (eccMayBe_any b p s n f _).mono ?_
  rintro e w1 ⟨rfl, q1⟩
  rw [hm]
  go_wp2_with fail
  go_ret
  exact ⟨rfl, btrans (below_one _ _) q1⟩
theorem eccRoom_yes {b p : Int} {s n f R m W L : Nat} (G : GOk b p s n f R m W L) (w : World) : Calls Tryz.prog 114 #[.agg #[.int .i64 b, .int .i64 p, .int .i64 ((s : Nat)), .int .i64 ((n : Nat)), .int .i64 ((f : Nat))]] w fun e w' => e = .returned (.tuple #[.int .i64 (R : Int), .int .i64 0]) ∧ Below w.heap.size w w' := by
  have HM : Hid (mayG b p s n f = true) := G.may
  have hroom := room_any b p f s n R G.hR G.hs.2 (by have := G.hn; omega)
  go_enter Tryz.func114, Tryz.ntmps114
  go_wp2_with fail
  refine (eccMayBe_any b p s n f _).mono ?_
  rintro e w1 ⟨rfl, q1⟩
  rw [HM.out]
  obtain ⟨_, c0, c1, c2, c3, c4⟩ := (gbox_new w 23 b p s n f).below q1 (Nat.le_refl _)
  go_wp2_with fail
  refine (hroom _).mono ?_
  rintro e w2 ⟨rfl, q2⟩
  go_wp2_with fail
  go_ret2
  exact ⟨rfl, btrans (btrans (below_one _ _) q1) q2⟩
theorem eccRaw_yes (hB : HBitsC) {b p : Int} {s n f R m W L : Nat} (G : GOk b p s n f R m W L) (w : World) : Calls Tryz.prog 107 #[.agg #[.int .i64 b, .int .i64 p, .int .i64 ((s : Nat)), .int .i64 ((n : Nat)), .int .i64 ((f : Nat))]] w fun e w' => e = .returned (.tuple #[.int .i64 (L : Int), .int .i64 0]) ∧ Below w.heap.size w w' := by
  have HM : Hid (mayG b p s n f = true) := G.may
  have hraw := rawBytes_any hB G
  go_enter Tryz.func107, Tryz.ntmps107
  go_wp2_with fail
  refine (eccMayBe_any b p s n f _).mono ?_
  rintro e w1 ⟨rfl, q1⟩
  rw [HM.out]
  obtain ⟨_, c0, c1, c2, c3, c4⟩ := (gbox_new w 23 b p s n f).below q1 (Nat.le_refl _)
  go_wp2_with fail
  refine (hraw _).mono ?_
  rintro e w2 ⟨rfl, q2⟩
  go_wp2_with fail
  go_ret2
  exact ⟨rfl, btrans (btrans (below_one _ _) q1) q2⟩

end Go.Proofs.YtgamakejaknagaaGreat

/-
  The code of layer 6 (ecc), as it landed: cut. (Written by tools/gen/ecc_code.py.)
-/
namespace Go.Proofs.YtgamakejaknagaaGreat
open Go.RowKit
set_option linter.unusedVariables false
set_option maxRecDepth 8192

set_option maxHeartbeats 1600000 in
theorem cut_raw (hB : HBitsC) {b p : Int} {s n f R m W L : Nat} (G : GOk b p s n f R m W L) {i : Nat} (hi : i < s) (rb off len cap : Nat) (hcap : L ≤ cap) (hmax : cap ≤ maxLen) (F M T : Nat) (hFF : i * W = F) (hM : F + n = M) (hT : M + m = T) (w : World) :
    Calls Tryz.prog 121 #[.agg #[.int .i64 b, .int .i64 p, .int .i64 ((s : Nat)), .int .i64 ((n : Nat)), .int .i64 ((f : Nat))], .slice (some ⟨rb, off, none⟩) len cap, .int .i64 i] w fun e w' => e = .returned (.tuple #[.slice (some ⟨rb, off + F, none⟩) (M - F) (M - F), .slice (some ⟨rb, off + M, none⟩) (T - M) (T - M)]) ∧ Below w.heap.size w w' := by
  have hmore := eccMore_any hB b p s n f m G.hm G.hf.1 G.hf.2
  have hW2 := G.W2
  have hs2 := G.hs
  have hn2 := G.hn
  have hm2 := G.m2
  have hat := G.at_ hi
  have hL2 := G.L2
  have HW : Hid (n + m = W) := G.hW
  clear G
  have HFF : Hid (i * W = F) := hFF
  have hF : T + 1 ≤ L := by have := HW.out; have := HFF.out; omega
  clear hFF hat
  have HMM : Hid (F + n = M) := hM
  have HTT : Hid (M + m = T) := hT
  have hFM : F < M := by omega
  have hMT : M < T := by omega
  clear hM hT
  go_enter Tryz.func121, Tryz.ntmps121
  go_wp2_with fail
  have gb := gbox_new w 23 b p s n f
  have q1 := below_one w (.cells #[.int .i64 b, .int .i64 p, .int .i64 s, .int .i64 n, .int .i64 f] 23)
  generalize w.alloc (.cells #[.int .i64 b, .int .i64 p, .int .i64 s, .int .i64 n, .int .i64 f] 23) = w0 at *
  generalize hgg : w.heap.size = g at gb
  go_wp2_with fail
  refine held_begin (by kernel_rfl) ?_
  refine held_reads (rs := [0, 1, 2, 3]) (fuel := 4) (by kernel_rfl) (fun c d v a w h => by cases d <;> exact h) (by kernel_rfl) (Since.drew _) (fun K hK => ?_)
  refine calm_move _ rfl (by rfl) rfl ?_
  go_simp
  refine calm_do (.pointer (some ⟨g, 3, none⟩)) rfl (by rfl) (fun w' hw' => ?_) ?_
  · skip
    go_simp
  go_simp
  refine calm_do (.int .i64 n) rfl (by rfl) (fun w' hw' => ?_) ?_
  · have gb' := gb.below hw' (Nat.le_refl _)
    obtain ⟨_, c0, c1, c2, c3, c4⟩ := gb'
    go_simp
  go_simp
  refine calm_do (.agg #[.int .i64 b, .int .i64 p, .int .i64 s, .int .i64 n, .int .i64 f]) rfl (by rfl) (fun w' hw' => ?_) ?_
  · have gb' := gb.below hw' (Nat.le_refl _)
    obtain ⟨_, c0, c1, c2, c3, c4⟩ := gb'
    go_simp
  go_simp
  refine calm_nil (hK.out _ ?_)
  clear hK K
  refine held_call (i := 4) (fuel := 3) (by kernel_rfl) rfl (by rfl) (fun K hK => ?_)
  go_simp
  have qd := Since.drew w0
  replace gb := gb.below qd (Nat.le_refl _)
  replace q1 := btrans q1 qd
  clear qd
  refine (hmore _).mono ?_
  rintro e w1 ⟨rfl, qq0⟩
  refine hK _ _ (Since.trans (Since.drew _) qq0) ?_
  have qq : Since _ _ := qq0
  clear hK K qq0
  replace gb := gb.below qq (Nat.le_refl _)
  replace q1 := btrans q1 qq
  clear qq
  refine held_reads (rs := [5, 6, 7]) (fuel := 0) (by kernel_rfl) (fun c d v a w h => by cases d <;> exact h) (by kernel_rfl) (Since.refl _) (fun K hK => ?_)
  go_simp
  refine calm_do (.int .i64 W) rfl (by rfl) (fun w' hw' => ?_) ?_
  · skip
    go_simp
    rw [IntKind.wrap_i64]
    have := HW.out
    omega
  go_simp
  refine calm_do (.int .i64 F) rfl (by rfl) (fun w' hw' => ?_) ?_
  · skip
    go_simp
    rw [← Int.natCast_mul, HFF.out, IntKind.wrap_i64]
    omega
  go_simp
  refine calm_assign _ rfl (by rfl) rfl ?_
  go_simp
  refine calm_nil (hK.out _ ?_)
  clear hK K
  refine wpAnyH_done (by kernel_rfl) ?_ _
  have u1 : IntKind.i64.wrap ((F : Int) + (n : Int)) = (M : Int) := by rw [IntKind.wrap_i64]; have := HMM.out; omega
  have u2 : IntKind.i64.wrap ((M : Int) + (m : Int)) = (T : Int) := by rw [IntKind.wrap_i64]; have := HTT.out; omega
  have gb1 := gb
  obtain ⟨_, c0, c1, c2, c3, c4⟩ := gb1
  have v1 : (F : Int) + (n : Int) = (M : Int) := by have := HMM.out; omega
  have v2 : (M : Int) + (m : Int) = (T : Int) := by have := HTT.out; omega
  go_wp2_with fail
  refine (hmore _).mono ?_
  rintro e w2 ⟨rfl, q2⟩
  replace q1 := btrans q1 q2
  clear c0 c1 c2 c3 c4 q2 gb hmore
  have e1 : (F : Int) ≤ (M : Int) := by omega
  have e2 : (M : Int) ≤ (T : Int) := by omega
  have e3 : (T : Int) ≤ (cap : Int) := by omega
  have e4 : ¬ M = F := by omega
  have e5 : ¬ T = M := by omega
  have e6 : (M : Int) ≤ (cap : Int) := by omega
  go_wp2_with fail
  go_region
  all_goals (go_wp2; go_ret2; exact ⟨rfl, q1.drew⟩)
theorem cut_any (hB : HBitsC) {b p : Int} {s n f R m W L : Nat} (G : GOk b p s n f R m W L) {i : Nat} (hi : i < s) (rb off len cap : Nat) (hcap : L ≤ cap) (hmax : cap ≤ maxLen) (w : World) :
    Calls Tryz.prog 121 #[.agg #[.int .i64 b, .int .i64 p, .int .i64 ((s : Nat)), .int .i64 ((n : Nat)), .int .i64 ((f : Nat))], .slice (some ⟨rb, off, none⟩) len cap, .int .i64 i] w fun e w' => e = .returned (.tuple #[.slice (some ⟨rb, off + i * W, none⟩) n n, .slice (some ⟨rb, off + i * W + n, none⟩) m m]) ∧ Below w.heap.size w w' := by
  refine (cut_raw hB G hi rb off len cap hcap hmax (i * W) (i * W + n) (i * W + n + m) rfl rfl rfl w).mono ?_
  rintro e w1 ⟨h, q⟩
  rw [Nat.add_sub_cancel_left, Nat.add_sub_cancel_left, ← Nat.add_assoc] at h
  exact ⟨h, q⟩

end Go.Proofs.YtgamakejaknagaaGreat

/-
  The code of layer 6 (ecc), as it landed: blank, sector.
-/
namespace Go.Proofs.YtgamakejaknagaaGreat
open Go.RowKit
set_option linter.unusedVariables false
set_option maxRecDepth 8192

theorem block_new (w : World) (C : Array Value) (T : TypeId) : (w.alloc (.cells C T)).heap[w.heap.size]? = some (.cells C T (0, 0)) := World.alloc_heap_new w _
theorem lt_of_block {w : World} {g : Nat} {o : Obj} (h : w.heap[g]? = some o) : g < w.heap.size := by
  rcases Nat.lt_or_ge g w.heap.size with h' | h'
  · exact h'
  · rw [Array.getElem?_eq_none h'] at h; cases h
theorem block_below {w w' : World} {g B : Nat} {o : Obj} (h : w.heap[g]? = some o) (hb : Below B w w') (hg : g < B) : w'.heap[g]? = some o := by rw [hb.block g hg]; exact h
theorem cell_of_blk {w : World} {g : Nat} {cs : Array Value} {t : TypeId} {fr : Nat × Nat} (h : w.heap[g]? = some (.cells cs t fr)) (i : Nat) : w.cell? ⟨g, i, none⟩ = cs[i]? := by simp [World.cell?, h]
theorem unfrozen_of_blk {w : World} {g : Nat} {cs : Array Value} {t : TypeId} (h : w.heap[g]? = some (.cells cs t (0, 0))) (i : Nat) : w.frozen? ⟨g, i, none⟩ = false := by simp [World.frozen?, h]

theorem block_set {w : World} {g i : Nat} {cs : Array Value} {t : TypeId} {fr : Nat × Nat} (h : w.heap[g]? = some (.cells cs t fr)) (v : Value) : (w.setCell ⟨g, i, none⟩ v).heap[g]? = some (.cells (cs.setIfInBounds i v) t fr) := by
  rw [setCell_eq_setRow w g i cs t fr v h]
  exact setRow_heap w g _ _ t _ h
/-- A row of one kind does not lie in a block that has no such cells. -/
theorem Row.apart {k : IntKind} {w : World} {a : Option Addr} {len cap : Nat} {z : List Int} (h : Row k w a len cap z) {g : Nat} {cs : Array Value} {t : TypeId} {fr : Nat × Nat} (hg : w.heap[g]? = some (.cells cs t fr)) (hk : ∀ (i : Nat) (x : Int), cs[i]? ≠ some (Value.int k x)) (h0 : 0 < len) :
    ∀ b off, a = some ⟨b, off, none⟩ → b ≠ g := by
  rintro b off rfl rfl
  obtain ⟨b', off', he, hbs, hcell⟩ := h.hcell h0
  simp only [Option.some.injEq, Addr.mk.injEq, and_true] at he
  obtain ⟨rfl, rfl⟩ := he
  have := hcell 0 h0
  rw [cell_of_blk hg] at this
  exact hk _ _ this
theorem Row.setOther {k : IntKind} {w : World} {a : Option Addr} {len cap : Nat} {z : List Int} (h : Row k w a len cap z) (g i : Nat) (v : Value) (hne : 0 < len → ∀ b off, a = some ⟨b, off, none⟩ → b ≠ g) : Row k (w.setCell ⟨g, i, none⟩ v) a len cap z := by
  refine ⟨h.hlen, h.hcap, h.hmax, h.hnil, fun h0 => ?_⟩
  obtain ⟨b, off, rfl, hbs, hcell⟩ := h.hcell h0
  refine ⟨b, off, rfl, by simpa using hbs, fun j hj => ?_⟩
  rw [World.cell?_setCell_far w _ _ v (fun e => hne h0 b off rfl e.symm)]
  exact hcell j hj
/-- Where a block of three cells is filled. -/
theorem Row.set3 {k : IntKind} {w : World} {a : Option Addr} {len cap : Nat} {z : List Int} (h : Row k w a len cap z) (g i j l : Nat) (u v x : Value) (hne : 0 < len → ∀ b off, a = some ⟨b, off, none⟩ → b ≠ g) : Row k (((w.setCell ⟨g, i, none⟩ u).setCell ⟨g, j, none⟩ v).setCell ⟨g, l, none⟩ x) a len cap z :=
  ((h.setOther g i u hne).setOther g j v hne).setOther g l x hne

set_option maxHeartbeats 800000 in
theorem blank_not {b p : Int} {s n f R m W L : Nat} (G : GOk b p s n f R m W L) (rb off cap : Nat) (z : List Int) (w : World) (hr : Row .u8 w (some ⟨rb, off, none⟩) L cap z) (hz : IsB z) (hlast : z[L - 1]?.getD 0 ≠ 255) :
    Calls Tryz.prog 120 #[.agg #[.int .i64 b, .int .i64 p, .int .i64 ((s : Nat)), .int .i64 ((n : Nat)), .int .i64 ((f : Nat))], .slice (some ⟨rb, off, none⟩) L cap] w fun e w' => e = .returned (.bool false) ∧ Below w.heap.size w w' := by
  have hcap := hr.hcap
  have hmax := hr.hmax
  have hL2 := G.L2
  obtain ⟨b', off', he, hbs, hcell⟩ := hr.hcell (by omega)
  simp only [Option.some.injEq, Addr.mk.injEq, and_true] at he
  obtain ⟨rfl, rfl⟩ := he
  have hc := hcell (L - 1) (by omega)
  clear hcell
  have hc0 := (below_one w (.cells #[.int .i64 b, .int .i64 p, .int .i64 s, .int .i64 n, .int .i64 f] 23)).cell (p := ⟨rb, off + (L - 1), none⟩) hbs
  rw [hc] at hc0
  have u1 : IntKind.i64.wrap ((L : Int) - 1) = ((L - 1 : Nat) : Int) := by rw [IntKind.wrap_i64]; unfold maxLen at hmax; omega
  have u2 : (L : Int) - 1 = ((L - 1 : Nat) : Int) := by omega
  clear G hc
  generalize z[L - 1]?.getD 0 = zl at *
  have hne : (zl != 255) = true := by simpa using hlast
  have hne2 : ¬ zl = 255 := hlast
  generalize L - 1 = L1 at *
  go_enter Tryz.func120, Tryz.ntmps120
  go_wp2_with fail
  go_ret
  exact ⟨rfl, below_one _ _⟩
set_option maxHeartbeats 1600000 in
theorem blank_any (hB : HBitsC) {b p : Int} {s n f R m W L : Nat} (G : GOk b p s n f R m W L) (rb off cap : Nat) (z : List Int) (w : World) (hr : Row .u8 w (some ⟨rb, off, none⟩) L cap z) (hz : IsB z) (hlast : z[L - 1]?.getD 0 = 255) :
    Calls Tryz.prog 120 #[.agg #[.int .i64 b, .int .i64 p, .int .i64 ((s : Nat)), .int .i64 ((n : Nat)), .int .i64 ((f : Nat))], .slice (some ⟨rb, off, none⟩) L cap] w fun e w' => e = .returned (.bool (blankTo f z W s)) ∧ Below w.heap.size w w' := by
  have hcap := hr.hcap
  have hmax := hr.hmax
  have HL : Hid (z.length = L) := hr.hlen
  have hL2 := G.L2
  have hs2 := G.hs
  have hn2 := G.hn
  have hf2 := G.hf
  have hm2 := G.m2
  have HW : Hid (n + m = W) := G.hW
  obtain ⟨b', off', he, hbs, hcell⟩ := hr.hcell (by omega)
  simp only [Option.some.injEq, Addr.mk.injEq, and_true] at he
  obtain ⟨rfl, rfl⟩ := he
  have hc := hcell (L - 1) (by omega)
  rw [hlast] at hc
  clear hcell hlast
  have hc0 := (below_one w (.cells #[.int .i64 b, .int .i64 p, .int .i64 s, .int .i64 n, .int .i64 f] 23)).cell (p := ⟨rb, off + (L - 1), none⟩) hbs
  rw [hc] at hc0
  have u1 : IntKind.i64.wrap ((L : Int) - 1) = ((L - 1 : Nat) : Int) := by rw [IntKind.wrap_i64]; unfold maxLen at hmax; omega
  have u2 : (L : Int) - 1 = ((L - 1 : Nat) : Int) := by omega
  have hcut : ∀ i, i < s → ∀ w, _ := fun i hi => cut_any hB G hi rb off L cap hcap hmax
  have HAT : Hid (∀ i, i < s → i * W + n + m + 1 ≤ L) := fun i hi => by have := G.at_ hi; have := HW.out; omega
  have HNOU : Hid (∀ i, _ = _) := fun i => nou_halves z n m W i HW.out
  generalize hLL : L - 1 = L1 at *
  clear G hc
  go_enter Tryz.func120, Tryz.ntmps120
  go_wp2_with fail
  have gb := gbox_new w 23 b p s n f
  have q0 := below_one w (.cells #[.int .i64 b, .int .i64 p, .int .i64 s, .int .i64 n, .int .i64 f] 23)
  generalize w.alloc (.cells #[.int .i64 b, .int .i64 p, .int .i64 s, .int .i64 n, .int .i64 f] 23) = w0 at *
  generalize hgg : w.heap.size = g at gb
  replace hr := hr.below q0 (Nat.le_refl _)
  clear hc0 hbs u1 u2
  go_loopw [18] (fun y wr => ∃ i : Nat, i ≤ s ∧ y = .int .i64 i ∧ blankTo f z W i = true ∧ Below w0.heap.size w0 wr) (fun y _ => s - (intOf y).toNat)
  case atStart => exact ⟨0, Nat.zero_le _, rfl, rfl, Below.refl _ _⟩
  case round =>
    obtain ⟨i, hi, rfl, hbl, q⟩ := hrel
    have HBL : Hid (blankTo f z W i = true) := hbl
    clear hbl
    by_cases hlt : i < s
    · have gb1 := gb.below q (Nat.le_refl _)
      obtain ⟨_, c0, c1, c2, c3, c4⟩ := gb1
      have u5 : (i : Int) < (s : Int) := by omega
      have hct := hcut i hlt
      have hat := HAT.out i hlt
      have HN := HNOU.out i
      go_wp2_with fail
      refine (hct _).mono ?_
      rintro e w1 ⟨rfl, q1⟩
      replace q := btrans q q1
      clear q1 c0 c1 c2 c3 c4 hct
      have hr1 := hr.below q (Nat.le_refl _)
      have ra := row_part hr1 (i * W) n n (by omega) (Nat.le_refl _) (by unfold maxLen; omega)
      have rb' := row_part hr1 (i * W + n) m m (by omega) (Nat.le_refl _) (by unfold maxLen; omega)
      have ba := isB_part hz (i * W) n
      have bb := isB_part hz (i * W + n) m
      have o1 := onesTo_bd (part z (i * W) n) (8 * n)
      have o2 := onesTo_bd (part z (i * W + n) m) (8 * m)
      have oa := ones_any _ _ _ _ _ ra ba (by omega)
      have ob := ones_any _ _ _ _ _ rb' bb (by omega)
      rw [← Nat.add_assoc] at ob
      have HN2 : Hid _ := HN
      clear HN
      clear ra rb' ba bb
      generalize onesTo (part z (i * W) n) (8 * n) = oA at *
      generalize onesTo (part z (i * W + n) m) (8 * m) = oB at *
      have v1 : IntKind.i64.wrap (8 * ((n : Int) + (m : Int))) = 8 * ((n : Int) + (m : Int)) := by rw [IntKind.wrap_i64]; omega
      go_wp2_with fail
      refine oa.mono ?_
      rintro e w' ⟨rfl, rfl⟩
      go_wp2_with fail
      refine ob.mono ?_
      rintro e w' ⟨rfl, rfl⟩
      clear oa ob
      obtain ⟨_, c0, c1, c2, c3, c4⟩ := gb.below q (Nat.le_refl _)
      by_cases hbig : 8 * ((n : Int) + (m : Int)) - oA - oB ≤ (f : Int)
      · have HNX : Hid (blankTo f z W (i + 1) = true) := by show _ = _; unfold blankTo; rw [HBL.out, HN2.out]; simp; omega
        have v2 : ¬ (f : Int) < 8 * ((n : Int) + (m : Int)) - oA - oB := by omega
        go_wp2_with fail
        go_roundw
        case rel => exact ⟨i + 1, by omega, by go_num, HNX.out, q⟩
        case measure => simp [intOf]; omega
      · have HNX : Hid (blankTo f z W s = false) := blankTo_no hlt (by rw [HN2.out]; exact hbig)
        have v2 : (f : Int) < 8 * ((n : Int) + (m : Int)) - oA - oB := by omega
        go_wp2_with fail
        go_ret
        exact ⟨ret_bool HNX.out.symm, btrans q0 q⟩
    · have e : i = s := by omega
      subst e
      go_wp2_with fail
      go_ret
      exact ⟨ret_bool HBL.out.symm, btrans q0 q⟩

theorem noU8 : ∀ (i : Nat) (x : Int), (#[Value.slice none 0 0, .int .i64 0, .int .i64 0] : Array Value)[i]? ≠ some (Value.int .u8 x) := by
  intro i x h
  rcases (show i = 0 ∨ i = 1 ∨ i = 2 ∨ 3 ≤ i by omega) with rfl | rfl | rfl | h3
  · simp at h
  · simp at h
  · simp at h
  · rw [Array.getElem?_eq_none (by simpa using h3)] at h; cases h
set_option maxHeartbeats 800000 in
theorem sector_any (hD : HDecC) (t : Nat) (a c : Option Addr) (len cap len' cap' : Nat) (x m : List Int) (w : World) (rx : Row .u8 w a len cap x) (bx : IsB x) (rm : Row .u8 w c len' cap' m) (bm : IsB m) (hl : len ≤ 100) (hl' : len' ≤ 100) (hmy : mayB t len (len' : Nat) = true) :
    Calls Tryz.prog 122 #[.int .i64 t, .slice a len cap, .slice c len' cap'] w fun e w' => ∃ (s : Sec) (av : Option Addr) (cv : Nat), IsSec t x m s ∧ e = .returned (.agg #[.slice av s.d.length cv, .int .i64 s.n, .int .i64 s.e]) ∧ Row .u8 w' av s.d.length cv s.d ∧ Below w.heap.size w w' := by
  go_enter Tryz.func122, Tryz.ntmps122
  go_wp2_with fail
  have q0 := below_one w (.cells #[.slice none 0 0, .int .i64 0, .int .i64 0] 157)
  have bx0 := block_new w #[.slice none 0 0, .int .i64 0, .int .i64 0] 157
  generalize w.alloc (.cells #[.slice none 0 0, .int .i64 0, .int .i64 0] 157) = w0 at *
  generalize hgg : w.heap.size = g at bx0
  refine (hD.yes t _ _ _ _ _ _ x m _ (rx.below q0 (Nat.le_refl _)) bx (rm.below q0 (Nat.le_refl _)) bm hl hl' hmy).mono ?_
  have hg0 : g < w0.heap.size := lt_of_block bx0
  rintro e w1 (⟨d, k, nn, hdec, a1, cp1, b1, cq1, rfl, rd, rk, qq⟩ | ⟨hno, a1, cp1, b1, cq1, rfl, rd, rk, qq⟩)
  · have bx1 := block_below bx0 qq hg0
    have c0 := cell_of_blk bx1 0
    have c1 := cell_of_blk bx1 1
    have c2 := cell_of_blk bx1 2
    have f0 := unfrozen_of_blk bx1 0
    have f1 := unfrozen_of_blk bx1 1
    have f2 := unfrozen_of_blk bx1 2
    clear bx0 hD
    have HIS : Hid (IsSec t x m ⟨d, nn, 0⟩) := .inl ⟨rfl, k, hdec⟩
    have ne := rd.apart bx1 noU8
    have HRD : Hid _ := rd.set3 g 0 1 2 (.slice a1 d.length cp1) (.int .i64 (nn : Int)) (.int .i64 0) ne
    have HBB : Hid (Below w.heap.size w (((w1.setCell ⟨g, 0, none⟩ (.slice a1 d.length cp1)).setCell ⟨g, 1, none⟩ (.int .i64 (nn : Int))).setCell ⟨g, 2, none⟩ (.int .i64 0))) := (((btrans q0 qq).setCell (show w.heap.size ≤ g by omega) _).setCell (show w.heap.size ≤ g by omega) _).setCell (show w.heap.size ≤ g by omega) _
    have bx2 := block_set (i := 2) (block_set (i := 1) (block_set (i := 0) bx1 (.slice a1 d.length cp1)) (.int .i64 (nn : Int))) (.int .i64 0)
    clear rd rk qq hdec ne
    go_wp2_with fail
    clear bx1 c0 c1 c2 f0 f1 f2
    generalize ((w1.setCell ⟨g, 0, none⟩ (.slice a1 d.length cp1)).setCell ⟨g, 1, none⟩ (.int .i64 (nn : Int))).setCell ⟨g, 2, none⟩ (.int .i64 0) = w2 at *
    have c0 : w2.cell? ⟨g, 0, none⟩ = some (.slice a1 d.length cp1) := cell_of_blk bx2 0
    have c1 : w2.cell? ⟨g, 1, none⟩ = some (.int .i64 (nn : Int)) := cell_of_blk bx2 1
    have c2 : w2.cell? ⟨g, 2, none⟩ = some (.int .i64 0) := cell_of_blk bx2 2
    refine bodyPost_ret (v := .agg #[.slice a1 d.length cp1, .int .i64 (nn : Int), .int .i64 0]) (by simp [results, Tryz.results122, go_sem, c0, c1, c2]) rfl ?_
    exact ⟨⟨d, nn, 0⟩, a1, cp1, HIS.out, rfl, HRD.out, HBB.out⟩
  · have bx1 := block_below bx0 qq hg0
    have c0 := cell_of_blk bx1 0
    have c1 := cell_of_blk bx1 1
    have c2 := cell_of_blk bx1 2
    have f0 := unfrozen_of_blk bx1 0
    have f1 := unfrozen_of_blk bx1 1
    have f2 := unfrozen_of_blk bx1 2
    clear bx0 hD
    have HIS : Hid (IsSec t x m ⟨[], 0, 50⟩) := .inr ⟨rfl, rfl, rfl, hno⟩
    rw [show ([] : List Int).length = 0 from rfl] at rd rk ⊢
    have HRD : Hid _ := rd.set3 g 0 1 2 (.slice a1 0 cp1) (.int .i64 0) (.int .i64 50) (fun h => absurd h (by omega))
    have HBB : Hid (Below w.heap.size w (((w1.setCell ⟨g, 0, none⟩ (.slice a1 0 cp1)).setCell ⟨g, 1, none⟩ (.int .i64 0)).setCell ⟨g, 2, none⟩ (.int .i64 50))) := (((btrans q0 qq).setCell (show w.heap.size ≤ g by omega) _).setCell (show w.heap.size ≤ g by omega) _).setCell (show w.heap.size ≤ g by omega) _
    have bx2 := block_set (i := 2) (block_set (i := 1) (block_set (i := 0) bx1 (.slice a1 0 cp1)) (.int .i64 0)) (.int .i64 50)
    clear rd rk qq hno
    go_wp2_with fail
    clear bx1 c0 c1 c2 f0 f1 f2
    generalize ((w1.setCell ⟨g, 0, none⟩ (.slice a1 0 cp1)).setCell ⟨g, 1, none⟩ (.int .i64 0)).setCell ⟨g, 2, none⟩ (.int .i64 50) = w2 at *
    have c0 : w2.cell? ⟨g, 0, none⟩ = some (.slice a1 0 cp1) := cell_of_blk bx2 0
    have c1 : w2.cell? ⟨g, 1, none⟩ = some (.int .i64 0) := cell_of_blk bx2 1
    have c2 : w2.cell? ⟨g, 2, none⟩ = some (.int .i64 50) := cell_of_blk bx2 2
    refine bodyPost_ret (v := .agg #[.slice a1 0 cp1, .int .i64 0, .int .i64 50]) (by simp [results, Tryz.results122, go_sem, c0, c1, c2]) rfl ?_
    exact ⟨⟨[], 0, 50⟩, a1, cp1, HIS.out, rfl, HRD.out, HBB.out⟩

end Go.Proofs.YtgamakejaknagaaGreat
