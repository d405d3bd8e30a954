/-
  Layer 3's reference, Mul: the product's normal list; nothing old turns.
-/
import Derived.Test.YtmkjgacimbfblaaPolyRef
namespace Go.Proofs.Ytmkjgacimbfblaa
open Go.RowKit
set_option linter.unusedVariables false

set_option maxHeartbeats 3200000 in
set_option maxRecDepth 100000 in
theorem refMulP_any (a c : Option Addr) (len cap len' cap' : Nat) (p q : List Nat) (w : World) (hr : Row .i64 w a len cap (ints p)) (hp : IsP p) (hr' : Row .i64 w c len' cap' (ints q)) (hq : IsP q) (hsm : len ≤ 10000) (hsm' : len' ≤ 10000) :
    Calls Try.prog 23 #[.slice a len cap, .slice c len' cap'] w fun e w' => ∃ v, e = .returned v ∧ w'.ownsRow w.heap.size 3 1 v (norm (mulL p q)).length ((ints (norm (mulL p q))).map (Value.int .i64)) ∧ Below w.heap.size w w' := by
  obtain ⟨i0, hi0, hz0, hz1, hz2⟩ := info_parts Try.info3
  have HL : Hid (p.length = len) := by have := hr.hlen; rwa [length_ints] at this
  have HL' : Hid (q.length = len') := by have := hr'.hlen; rwa [length_ints] at this
  have hmx : len + len' ≤ maxLen := by unfold maxLen; omega
  have hmk : ∀ w1 : World, w1.ownsRow w.heap.size 3 1 (.slice (some ⟨w.heap.size, 0, none⟩) (len + len') (len + len')) (len + len') (madeCells (Value.int IntKind.i64 0).cells ((len + len') * 1)).toList → w.grownBy w1 none →
      w1.ownsRow w.heap.size 3 1 (.slice (some ⟨w.heap.size, 0, none⟩) (len + len') (len + len')) (len + len') ((ints (mulTo p q 0 0)).map (Value.int .i64)) ∧ Below w.heap.size w w1 := fun w1 h1 h2 => by
    refine ⟨?_, (Below.refl _ _).grown h2 (Nat.le_refl _) (by simp)⟩
    rw [made_ints] at h1
    rw [mulTo_zero, HL.out, HL'.out]
    simpa [ints] using h1
  have HS : Hid (∀ i k, i < len → k < len' → mulTo p q i (k + 1) = (mulTo p q i k).set (i + k) (cf (mulTo p q i k) (i + k) ^^^ gmul (cf p i) (cf q k))) := fun i k hi hk => mulTo_step p q i k (by have := HL.out; have := HL'.out; omega)
  have HR : Hid (∀ i, i < len → mulTo p q i len' = mulTo p q (i + 1) 0) := fun i hi => by have := mulTo_row p q i hp hq (by have := HL.out; omega); rwa [HL'.out] at this
  have HE : Hid (norm (mulTo p q len 0) = norm (mulL p q)) := by show _ = _; have := mulTo_end p q; rwa [HL.out] at this
  go_enter Try.func23, Try.ntmps23
  go_wp2_with (at_make; refine wpList_make_full _ rfl _ _ 22 rfl w.heap.size 3 i0 (.int .i64 0) 1 Try.underlying22 hi0 hz0 hz1 _ _ _ _ (len + len') rfl rfl (by omega) (by omega) (by rw [hz2]; omega) hmx (Nat.le_refl _) ?_; intro w1 hown1 hgrow1)
  obtain ⟨hown2, hb2⟩ := hmk w1 hown1 hgrow1
  clear hmk hown1 hgrow1
  go_loopw [6] (fun y wr => ∃ i : Nat, i ≤ len ∧ y = .int .i64 i ∧ wr.ownsRow w.heap.size 3 1 (.slice (some ⟨w.heap.size, 0, none⟩) (len + len') (len + len')) (len + len') ((ints (mulTo p q i 0)).map (Value.int .i64)) ∧ Below w.heap.size w wr) (fun y _ => len - (intOf y).toNat)
  case atStart => exact ⟨0, Nat.zero_le _, rfl, hown2, hb2⟩
  case round =>
    clear hown2 hb2
    obtain ⟨i, hi, rfl, hown, hnx⟩ := hrel
    by_cases hlt : i < len
    · go_wp2
      go_loopw [7] (fun y wr => ∃ k : Nat, k ≤ len' ∧ y = .int .i64 k ∧ wr.ownsRow w.heap.size 3 1 (.slice (some ⟨w.heap.size, 0, none⟩) (len + len') (len + len')) (len + len') ((ints (mulTo p q i k)).map (Value.int .i64)) ∧ Below w.heap.size w wr) (fun y _ => len' - (intOf y).toNat)
      case atStart => exact ⟨0, Nat.zero_le _, rfl, hown, hnx⟩
      case round =>
        clear hown hnx
        obtain ⟨k, hk, rfl, hown, hnx⟩ := hrel
        by_cases hlt2 : k < len'
        · have hrr := hr.below hnx (Nat.le_refl _)
          have hrr' := hr'.below hnx (Nat.le_refl _)
          obtain ⟨b, off, rfl, hbs, hcell⟩ := hrr.hcell (by omega)
          obtain ⟨b', off', rfl, hbs', hcell'⟩ := hrr'.hcell (by omega)
          have hc1 := hcell i hlt
          have hc2 := hcell' k hlt2
          rw [ints_get] at hc1 hc2
          have hcl := owned_cell hown (i + k) (by omega)
          have hfz := hown.frozenAt (i + k)
          rw [ints_get] at hcl
          have c1 := cf_lt hp i
          have c2 := cf_lt hq k
          have c3 := gmul_lt (cf p i) (cf q k) c1
          have c4 := cf_lt (isP_mulTo (q := q) hp i k) (i + k)
          have hii : (i : Int) < (len : Int) := by omega
          have hkk : (k : Int) < (len' : Int) := by omega
          have hik : (i : Int) + (k : Int) < (len : Int) + (len' : Int) := by omega
          have hik0 : (0 : Int) ≤ (i : Int) + (k : Int) := by omega
          have hik2 : (i : Int) + (k : Int) < ((len + len' : Nat) : Int) := by omega
          have hik3 : i + k < len + len' := by omega
          have hwr : IntKind.i64.wrap ((i : Int) + (k : Int)) = (i : Int) + (k : Int) := by rw [IntKind.wrap_i64]; omega
          have hto : ((i : Int) + (k : Int)).toNat = i + k := by omega
          have R := owned_set (q := i + k) (x := ((cf (mulTo p q i k) (i + k) ^^^ gmul (cf p i) (cf q k) : Nat) : Int)) (Nat.le_refl _) hown hnx
          have HE2 : Hid ((ints (mulTo p q i k)).set (i + k) ((cf (mulTo p q i k) (i + k) ^^^ gmul (cf p i) (cf q k) : Nat) : Int) = ints (mulTo p q i (k + 1))) := by
            show _ = _
            rw [HS.out i k hlt hlt2]
            unfold ints
            rw [List.map_set]
          rw [HE2.out] at R
          have R' := And.intro R.1.drew R.2.drew
          have HRR : Hid _ := R'
          clear R R' hown hnx hcell hcell' hrr hrr'
          generalize cf (mulTo p q i k) (i + k) = x at *
          go_wp2
          go_region_with (first
            | (go_at_call 28; refine (refMul_any (cf p i) (cf q k) _ c1 c2).mono ?_; rintro e w' ⟨rfl, rfl⟩)
            | (go_at_call 27; refine (sum_any x (gmul (cf p i) (cf q k)) _ (by omega) (by omega)).mono ?_; rintro e w' ⟨rfl, rfl⟩))
          all_goals
            go_wp2
            go_roundw
            case rel => exact ⟨k + 1, by omega, by go_num, HRR.out.1, HRR.out.2⟩
            case measure => simp [intOf]; omega
        · have e : k = len' := by omega
          subst e
          rw [HR.out i hlt] at hown
          go_wp2
          go_roundw
          case rel => exact ⟨i + 1, by omega, by go_num, hown, hnx⟩
          case measure => simp [intOf]; omega
    · have e : i = len := by omega
      subst e
      obtain ⟨a5, cp5, hv5, hrow5⟩ := row_of_owns hown
      simp only [Value.slice.injEq, true_and] at hv5
      obtain ⟨rfl, rfl⟩ := hv5
      have hsz := hnx.size
      go_wp2_with fail
      refine (refNorm_any _ _ _ (mulTo p q _ 0) _ hrow5 (by omega)).mono ?_
      rintro e w2 ⟨v, rfl, hown2, hb2⟩
      rw [HE.out] at hown2
      go_wp2
      go_ret
      exact ⟨_, rfl, owns_base hown2 hsz, hnx.trans (hb2.mono hsz)⟩

end Go.Proofs.Ytmkjgacimbfblaa
