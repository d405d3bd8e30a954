/-
  The code of layer 4 (bpoly), as it landed: Add, Mul, Mod return what the face asks.
-/
import Derived.Test.YtjiaomkjebbkpabBpolyCode
namespace Go.Proofs.Ytjiaomkjebbkpab
open Go.RowKit
set_option linter.unusedVariables false

/-- A front of what a call owns is its own. -/
theorem owns_take {w : World} {base g n cap m : Nat} {e : TypeId} {k : IntKind} {zs : List Int} (h : w.ownsRow base e 1 (.slice (some ⟨g, 0, none⟩) n cap) n (zs.map (Value.int k))) (hm : m ≤ n) :
    w.ownsRow base e 1 (.slice (some ⟨g, 0, none⟩) m cap) m ((zs.take m).map (Value.int k)) := by
  have hl : zs.length = n := by have := h.1; simpa using this
  refine ⟨by simp; omega, ?_⟩
  rcases h.2 with ⟨h', _⟩ | ⟨g', cap', cur, h', hb, hg, hnc, hcm, hcs, htake⟩
  · simp at h'
  · simp only [Value.slice.injEq, Option.some.injEq, Addr.mk.injEq, and_true, true_and] at h'
    obtain ⟨rfl, rfl⟩ := h'
    refine .inr ⟨_, _, cur, rfl, hb, hg, by omega, hcm, hcs, ?_⟩
    have e1 := congrArg (fun l => l.take m) htake
    simp only [List.take_take, Nat.mul_one] at e1 ⊢
    rw [Nat.min_eq_left hm] at e1
    rw [e1, List.map_take]

/-- A call hands back bytes of its own. -/
def Owns (T : TypeId) (w : World) (z : List Int) (e : Ending) (w' : World) : Prop :=
  ∃ g cap, w.heap.size ≤ g ∧ e = .returned (.slice (some ⟨g, 0, none⟩) z.length cap) ∧ w'.ownsRow w.heap.size T 1 (.slice (some ⟨g, 0, none⟩) z.length cap) z.length (z.map (Value.int .u8)) ∧ Below w.heap.size w w'
theorem Owns.gives {T : TypeId} {w : World} {z : List Int} {e : Ending} {w' : World} (h : Owns T w z e w') : Gives w z e w' := by
  obtain ⟨g, cap, hg, rfl, hown, hb⟩ := h
  obtain ⟨a, cp, hv, hrow⟩ := row_of_owns hown
  simp only [Value.slice.injEq, true_and] at hv
  obtain ⟨rfl, rfl⟩ := hv
  exact ⟨_, _, rfl, hrow, hb⟩
/-- The front of an owned row that is its normal bytes. -/
theorem owns_nb {w : World} {base g n cap : Nat} {e : TypeId} {zs : List Int} (h : w.ownsRow base e 1 (.slice (some ⟨g, 0, none⟩) n cap) n (zs.map (Value.int .u8))) (hb : IsB zs) :
    w.ownsRow base e 1 (.slice (some ⟨g, 0, none⟩) (nb (bts zs)).length cap) (nb (bts zs)).length ((nb (bts zs)).map (Value.int .u8)) := by
  have hl : zs.length = n := by have := h.1; simpa using this
  have := owns_take h (show (nb (bts zs)).length ≤ n by have := bnb_len_le zs; omega)
  rwa [take_nb hb] at this
theorem isB_of_row {w : World} {base g n cap : Nat} {e : TypeId} {zs : List Int} (h : w.ownsRow base e 1 (.slice (some ⟨g, 0, none⟩) n cap) n (zs.map (Value.int .u8))) : Row .u8 w (some ⟨g, 0, none⟩) n cap zs := by
  obtain ⟨a, cp, hv, hrow⟩ := row_of_owns h
  simp only [Value.slice.injEq, true_and] at hv
  obtain ⟨rfl, rfl⟩ := hv
  exact hrow
theorem bts_zeros (n : Nat) : Eqv (bts (List.replicate n 0)) [] := fun i => by rw [cf_bts, bitI_zeros]; rfl
theorem mul_xs0 (q : List Nat) (hq : IsP q) : Eqv (mulL q (xs 0)) q := fun i => by rw [cf_mul_xs q 0 i hq, if_pos (Nat.zero_le _), Nat.sub_zero]
theorem norm_bts_le (z : List Int) : (norm (bts z)).length ≤ 8 * z.length := by have := norm_length_le (bts z); rwa [length_bts] at this

/-- The bytes of a sum, laid one by one. -/
theorem add_plain {x y : List Int} {n : Nat} (hx : IsB x) (hy : IsB y) (h1 : x.length ≤ n) (h2 : y.length ≤ n) :
    Eqv (bts (raiseTo (raiseTo (List.replicate n 0) x 0 x.length) y 0 y.length)) (addL (bts x) (bts y)) := by
  have n1 := norm_bts_le x
  have n2 := norm_bts_le y
  have e1 := raise_all (isB_zeros n) hx 0 (by simp; omega) (by simp; omega)
  have hb := isB_raiseTo (isB_zeros n) hx 0 x.length
  have e2 := raise_all hb hy 0 (by rw [length_raiseTo]; simp; omega) (by rw [length_raiseTo]; simp; omega)
  refine e2.trans (eqv_addL (e1.trans ?_) (mul_xs0 _ (is01_bts y).isP))
  exact (eqv_addL (bts_zeros n) (mul_xs0 _ (is01_bts x).isP)).trans fun i => by rw [cf_addL]; show 0 ^^^ _ = _; rw [Nat.zero_xor]
set_option maxHeartbeats 1600000 in
set_option maxRecDepth 100000 in
theorem badd_own (a c : Option Addr) (len cap len' cap' : Nat) (x y : List Int) (w : World) (hr : Row .u8 w a len cap x) (hr' : Row .u8 w c len' cap' y) (hx : IsB x) (hy : IsB y) (hsm : len ≤ 500) (hsm' : len' ≤ 500) :
    Calls Try.prog 22 #[.slice a len cap, .slice c len' cap'] w (Owns 5 w (nb (addL (bts x) (bts y)))) := by
  obtain ⟨i0, hi0, hz0, hz1, hz2⟩ := info_parts Try.info5
  have HL : Hid (x.length = len) := hr.hlen
  have HL' : Hid (y.length = len') := hr'.hlen
  have hNX : (norm (bts x)).length ≤ 8 * len := by have := norm_bts_le x; have := HL.out; omega
  have hNY : (norm (bts y)).length ≤ 8 * len' := by have := norm_bts_le y; have := HL'.out; omega
  have HN : ∃ n : Nat, ((n = len ∧ (len' : Int) ≤ (len : Int)) ∨ (n = len' ∧ (len : Int) < (len' : Int))) ∧ len ≤ n ∧ len' ≤ n ∧ n ≤ 500 := by
    rcases Nat.lt_or_ge len len' with h | h
    · exact ⟨len', .inr ⟨rfl, by omega⟩, by omega, Nat.le_refl _, hsm'⟩
    · exact ⟨len, .inl ⟨rfl, by omega⟩, Nat.le_refl _, h, hsm⟩
  obtain ⟨n, hn, hn1, hn2, hn3⟩ := HN
  have HE : Hid (Eqv (bts (raiseTo (raiseTo (List.replicate n 0) x 0 len) y 0 len')) (addL (bts x) (bts y))) := by
    have := add_plain hx hy (n := n) (by rw [HL.out]; exact hn1) (by rw [HL'.out]; exact hn2)
    rwa [HL.out, HL'.out] at this
  have HB : Hid (IsB (raiseTo (raiseTo (List.replicate n 0) x 0 len) y 0 len')) := isB_raiseTo (isB_raiseTo (isB_zeros n) hx 0 len) hy 0 len'
  have HB1 : Hid (IsB (raiseTo (List.replicate n 0) x 0 len)) := isB_raiseTo (isB_zeros n) hx 0 len
  have hmax : n ≤ maxLen := by unfold maxLen; omega
  have hmk : ∀ w1 : World, w1.ownsRow w.heap.size 5 1 (.slice (some ⟨w.heap.size, 0, none⟩) n n) n (madeCells (Value.int IntKind.u8 0).cells (n * 1)).toList → w.grownBy w1 none →
      w1.ownsRow w.heap.size 5 1 (.slice (some ⟨w.heap.size, 0, none⟩) n n) n ((List.replicate n 0).map (Value.int .u8)) ∧ Below w.heap.size w w1 := fun w1 h1 h2 => by
    rw [made_ints] at h1
    exact ⟨h1, (Below.refl _ _).grown h2 (Nat.le_refl _) (by simp)⟩
  rcases hn with ⟨rfl, hle⟩ | ⟨rfl, hle⟩
  all_goals
    go_enter Try.func22, Try.ntmps22
    go_wp2_with (at_make; refine wpList_make_full _ rfl _ _ 22 rfl w.heap.size 5 i0 (.int .u8 0) 1 Try.underlying22 hi0 hz0 hz1 _ _ _ _ _ rfl rfl rfl rfl (by rw [hz2]; omega) hmax (Nat.le_refl _) ?_; intro w1 hown1 hgrow1)
    obtain ⟨hown2, hb2⟩ := hmk w1 hown1 hgrow1
    clear hmk hown1 hgrow1
    refine (raised_any w w.heap.size w.heap.size _ _ a _ cap (List.replicate _ 0) x 0 _ (Nat.le_refl _) (Nat.le_refl _) hown2 hb2 (isB_zeros _) hr hx (by omega) (by omega) (by omega) (by omega)).mono ?_
    rintro e w2 ⟨⟨v, rfl⟩, hown3, hb3⟩
    clear hown2 hb2
    go_wp2_with fail
    refine (raised_any w w.heap.size w.heap.size _ _ c _ cap' _ y 0 _ (Nat.le_refl _) (Nat.le_refl _) hown3 hb3 HB1.out hr' hy (by omega) (by omega) (by omega) (by omega)).mono ?_
    rintro e w3 ⟨⟨v, rfl⟩, hown4, hb4⟩
    clear hown3 hb3
    have hown5 := owns_nb hown4 HB.out
    rw [nb_ext HE.out] at hown5
    have hrow4 := isB_of_row hown4
    go_wp2_with fail
    refine (bnormal_any _ _ _ _ _ hrow4 HB.out (by omega)).mono ?_
    rintro e w4 ⟨rfl, rfl⟩
    rw [nb_ext HE.out]
    go_wp2_with fail
    go_ret
    exact ⟨_, _, Nat.le_refl _, rfl, hown5, hb4⟩
theorem baddC : BAddC := fun a c len cap len' cap' x y w hr hr' hx hy h1 h2 => (badd_own a c len cap len' cap' x y w hr hr' hx hy h1 h2).mono fun e w' h => h.gives

end Go.Proofs.Ytjiaomkjebbkpab
