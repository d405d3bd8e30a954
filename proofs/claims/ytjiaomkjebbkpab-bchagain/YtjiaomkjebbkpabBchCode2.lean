/-
  The code of layer 5 (bch), as it landed: raised, below, rest, Bits, Encode return what the face asks.
-/
import Derived.Test.YtjiaomkjebbkpabBchCode
namespace Go.Proofs.Ytjiaomkjebbkpab
open Go.RowKit
set_option linter.unusedVariables false

set_option maxHeartbeats 1600000 in
set_option maxRecDepth 100000 in
theorem raised_bch (t : Nat) (a : Option Addr) (len cap : Nat) (x : List Int) (w : World) (hr : Row .u8 w a len cap x) (hx : IsB x) (ht : t ≤ 8) (hsm : len ≤ 400) :
    Calls Try.prog 21 #[.int .i64 t, .slice a len cap] w fun e w' => ∃ z, Raised t x z ∧ Gives w z e w' := by
  obtain ⟨i0, hi0, hz0, hz1, hz2⟩ := info_parts Try.info5
  have HR : Hid (Raised t x (nb (mulL (bts (turnI (List.replicate (13 * t / 8 + 1) 0) [((13 * t : Nat) : Int)])) (bts x)))) := raised_nb t (13 * t / 8 + 1) x (by omega)
  have e1 : IntKind.i64.wrap (13 * (t : Int)) = ((13 * t : Nat) : Int) := by rw [IntKind.wrap_i64]; omega
  have e2 : ((13 * t : Nat) : Int).tdiv 8 = ((13 * t / 8 : Nat) : Int) := by rw [Int.tdiv_eq_ediv_of_nonneg (by omega)]; omega
  have hIN : Hid (inB (13 * t / 8 + 1) [((13 * t : Nat) : Int)] = true) := by
    show _ = _
    rw [inB_iff]
    intro p hp
    simp at hp
    subst hp
    omega
  have HWF : Hid (∀ n ∈ [((13 * t : Nat) : Int)], (Lit.int .i64 n).wf = true) := by
    intro n hn
    simp at hn
    subst hn
    simp [Lit.wf, IntKind.min, IntKind.max, IntKind.signed, IntKind.bits]
    omega
  have hn1 : 13 * t / 8 + 1 ≤ 20 := by omega
  generalize hs : 13 * t = s at *
  have e3 : IntKind.i64.wrap (((s / 8 : Nat) : Int) + 1) = ((s / 8 + 1 : Nat) : Int) := by rw [IntKind.wrap_i64]; omega
  have e4 : ((s / 8 : Nat) : Int) + 1 = ((s / 8 + 1 : Nat) : Int) := by omega
  have e0 : 13 * (t : Int) = (s : Int) := by omega
  have hs8 : s ≤ 104 := by omega
  have HSE : Hid (13 * t = s) := hs
  clear hs
  generalize hN : s / 8 + 1 = n at *
  have hmax : n ≤ maxLen := by unfold maxLen; omega
  have hmk : ∀ w1 : World, w1.ownsRow w.heap.size 5 1 (.slice (some ⟨w.heap.size, 0, none⟩) n n) n (madeCells (Value.int IntKind.u8 0).cells (n * 1)).toList → w.grownBy w1 none →
      Row .u8 w1 (some ⟨w.heap.size, 0, none⟩) n n (List.replicate n 0) ∧ Below w.heap.size w w1 := fun w1 h1 h2 => by
    rw [made_ints] at h1
    exact ⟨isB_of_row h1, (Below.refl _ _).grown h2 (Nat.le_refl _) (by simp)⟩
  have HNN : Hid (s / 8 + 1 = n) := hN
  clear hN
  have hzb := isB_zeros n
  have HZL : Hid ((turnI (List.replicate n 0) [(s : Int)]).length = n) := by show _ = _; rw [length_turnI]; simp
  have hTB : IsB (turnI (List.replicate n 0) [(s : Int)]) := isB_turnI hzb _
  go_enter Try.func21, Try.ntmps21
  go_wp2_with (at_make; refine wpList_make_full _ rfl _ _ 22 rfl w.heap.size 5 i0 (.int .u8 0) 1 Try.underlying22 hi0 hz0 hz1 _ _ _ _ n rfl rfl (by omega) (by omega) (by rw [hz2]; omega) hmax (by omega) ?_; intro w1 hown1 hgrow1)
  obtain ⟨hrow1, hb1⟩ := hmk w1 hown1 hgrow1
  clear hmk hown1 hgrow1
  have hrow2 := hrow1.below (below_one w1 (Obj.cells #[.int .i64 (s : Int)] 3)) (Nat.le_refl _)
  have hrow3 := row_new .i64 w1 3 w1.heap.size rfl [(s : Int)] 1 rfl (by decide) #[.int .i64 (s : Int)] rfl
  refine (turn_any _ _ _ _ _ _ _ [(s : Int)] _ hrow2 hzb hrow3 HWF.out (by omega)).mono ?_
  rintro e w2 ⟨hb2, h2⟩
  rcases h2 with ⟨_, rfl, hown2⟩ | ⟨hf, _⟩
  case inr => exact absurd hf (by rw [hIN.out]; simp)
  have hrow4 := isB_of_row hown2
  have hB : Below w.heap.size w w2 := btrans (btrans hb1 (below_one _ _)) hb2
  have hr2 := hr.below hB (Nat.le_refl _)
  clear hown2 hrow1 hrow2 hrow3 hb1 hb2
  generalize (w1.alloc (Obj.cells #[Value.int .i64 (s : Int)] 3)).heap.size = g2 at *
  go_wp2_with fail
  refine (bmulC _ _ _ _ _ _ _ _ _ hrow4 hr2 hTB hx (by omega) (by omega)).mono ?_
  rintro e w3 ⟨a3, cp3, rfl, hrow5, hb5⟩
  go_wp2_with fail
  go_ret
  exact ⟨_, HR.out, a3, cp3, rfl, hrow5, btrans hB hb5⟩

theorem isMod_gen {t : Nat} {z : List Int} {p r : List Nat} (hp : Eqv (bts z) p) (h : IsMod (bts z) (bts (pk (genTo t))) r) : IsMod p (genTo t) r :=
  h.eqv hp (bts_pk (is01_genTo t)) (is01_bts _) (is01_genTo t) (Eqv.refl _) h.hr
set_option maxHeartbeats 800000 in
set_option maxRecDepth 100000 in
theorem rest_any (t : Nat) (a : Option Addr) (len cap : Nat) (z : List Int) (w : World) (hr : Row .u8 w a len cap z) (hz : IsB z) (h1 : 1 ≤ t) (ht : t ≤ 8) (hsm : len ≤ 500) :
    Calls Try.prog 20 #[.int .i64 t, .slice a len cap] w fun e w' => ∃ r, IsMod (bts z) (genTo t) r ∧ Gives w (nb r) e w' := by
  have HNE : Hid (norm (bts (pk (genTo t))) ≠ []) := by
    rw [gen_norm]
    intro e
    have := length_genTo t ht
    rw [e] at this
    simp at this
  have hl := bgen_len t ht
  have hB := isB_pk (is01_genTo t)
  have HMG : Hid (∀ r, IsMod (bts z) (bts (pk (genTo t))) r → IsMod (bts z) (genTo t) r) := fun r h => isMod_gen (Eqv.refl _) h
  have hgen := bgenC.yes t w h1 ht
  generalize pk (genTo t) = g at *
  go_enter Try.func20, Try.ntmps20
  go_wp2_with fail
  refine hgen.mono ?_
  rintro e w1 ⟨a1, cp1, rfl, hrow1, hb1⟩
  have hr1 := hr.below hb1 (Nat.le_refl _)
  go_wp2_with fail
  refine (bmodC.yes _ _ _ _ _ _ z g _ hr1 hrow1 hz hB hsm (by omega) HNE.out).mono ?_
  rintro e w2 ⟨r, hm, a2, cp2, rfl, hrow2, hb2⟩
  have HM : Hid _ := HMG.out r hm
  clear hm
  go_wp2_with fail
  go_ret
  exact ⟨r, HM.out, a2, cp2, rfl, hrow2, btrans hb1 hb2⟩

end Go.Proofs.Ytjiaomkjebbkpab
