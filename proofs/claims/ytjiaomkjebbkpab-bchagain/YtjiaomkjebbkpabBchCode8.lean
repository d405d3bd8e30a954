/-
  The code of layer 5 (bch), as it landed: parted returns what it should.
-/
import Derived.Test.YtjiaomkjebbkpabBchCode7
namespace Go.Proofs.Ytjiaomkjebbkpab
open Go.RowKit
set_option linter.unusedVariables false

/-- The places of data, lessened one by one. -/
def partL (P : List Nat) (f c k : Nat) : List Nat := (List.range P.length).map fun j => if c ≤ j ∧ j < c + k then cf P j - f else cf P j
theorem length_partL (P : List Nat) (f c k : Nat) : (partL P f c k).length = P.length := by simp [partL]
theorem partL_zero (P : List Nat) (f c : Nat) : partL P f c 0 = P := eq_of_cf (length_partL _ _ _ _) fun i hi => by
  rw [length_partL] at hi
  unfold partL
  rw [cf_map_range _ _ _ hi, if_neg (by omega)]
theorem cf_partL (P : List Nat) (f c k : Nat) (h : c + k < P.length) : cf (partL P f c k) (c + k) = cf P (c + k) := by
  unfold partL
  rw [cf_map_range _ _ _ h, if_neg (by omega)]
theorem partL_succ (P : List Nat) (f c k : Nat) (h : c + k < P.length) : partL P f c (k + 1) = (partL P f c k).set (c + k) (cf P (c + k) - f) := by
  apply eq_of_cf (by simp [length_partL])
  intro i hi
  rw [length_partL] at hi
  rw [cf_set _ _ _ _ (by rw [length_partL]; exact h)]
  unfold partL
  rw [cf_map_range _ _ _ hi, cf_map_range _ _ _ hi]
  by_cases e : i = c + k
  · subst e; rw [if_pos (by omega), if_pos rfl]
  · rw [if_neg e]
    by_cases h1 : c ≤ i ∧ i < c + k
    · rw [if_pos h1, if_pos (by omega)]
    · rw [if_neg h1, if_neg (by omega)]
theorem partL_low (P : List Nat) (f c k i : Nat) (h : i < c) (hl : c ≤ P.length) : cf (partL P f c k) i = cf (P.take c) i := by
  unfold partL
  rw [cf_map_range _ _ _ (by omega), if_neg (by omega)]
  unfold cf
  rw [List.getElem?_take, if_pos h]
theorem partL_high (P : List Nat) (f c i : Nat) (h : c + i < P.length) : cf (partL P f c (P.length - c)) (c + i) = cf (lessL f (P.drop c)) i := by
  unfold partL
  rw [cf_map_range _ _ _ h, if_pos (by omega)]
  unfold lessL cf
  rw [List.getElem?_map, List.getElem?_drop, List.getElem?_eq_getElem h]
  rfl
theorem high_ge {P : List Nat} {f : Nat} (hs : P.Pairwise (· < ·)) (j : Nat) (h1 : lowCount P f ≤ j) (h2 : j < P.length) : f ≤ cf P j := by
  obtain ⟨_, e2, _⟩ := low_count P f hs
  have hm : cf P j ∈ P.drop (lowCount P f) := by
    have h3 : j - lowCount P f < (P.drop (lowCount P f)).length := by rw [List.length_drop]; omega
    have h4 := List.getElem_mem h3
    have h5 : (P.drop (lowCount P f))[j - lowCount P f]? = P[j]? := by rw [List.getElem?_drop, show lowCount P f + (j - lowCount P f) = j from by omega]
    unfold cf
    rw [← h5, List.getElem?_eq_getElem h3]
    exact h4
  rw [e2] at hm
  have := (List.mem_filter.1 hm).2
  simp at this
  omega
/-- A part of an owned row, as a row. -/
theorem part_row {w : World} {B g n cap : Nat} {T : TypeId} {Q R : List Nat} (h : w.ownsRow B T 1 (.slice (some ⟨g, 0, none⟩) n cap) n ((ints Q).map (Value.int .i64))) (off len : Nat) (hl : off + len ≤ n) (hR : R.length = len) (he : ∀ i, i < len → cf Q (off + i) = cf R i) (hm : n ≤ 1000000) :
    Row .i64 w (some ⟨g, off, none⟩) len len (ints R) := by
  refine ⟨by rw [length_ints]; exact hR, Nat.le_refl _, by unfold maxLen; omega, by simp, fun h0 => ?_⟩
  have hc0 := owned_cell h off (by omega)
  refine ⟨g, off, rfl, lt_of_cell hc0, fun i hi => ?_⟩
  rw [owned_cell h (off + i) (by omega), ints_get, ints_get, he i hi]
theorem empty_row (w : World) (a : Option Addr) (cap : Nat) (hc : cap ≤ maxLen) (hn : a = none → cap = 0) : Row .i64 w a 0 cap (ints []) := ⟨rfl, Nat.zero_le _, hc, hn, fun h => absurd h (by omega)⟩

/-- What parted hands back. -/
def Parts (w0 : World) (B : Nat) (p q : List Nat) (e : Ending) (w' : World) : Prop :=
  ∃ a c b d, e = .returned (.tuple #[.slice a p.length c, .slice b q.length d]) ∧ Row .i64 w' a p.length c (ints p) ∧ Row .i64 w' b q.length d (ints q) ∧ Below B w0 w'
set_option maxHeartbeats 1600000 in
set_option maxRecDepth 100000 in
theorem parted_any (w0 : World) (B : Nat) (ao : Option Addr) (m cp f : Nat) (P : List Nat) (w : World) (hown : w.ownsRow B 3 1 (.slice ao m cp) m ((ints P).map (Value.int .i64))) (hs : P.Pairwise (· < ·)) (hP : ∀ q ∈ P, q ≤ 100000) (hm : m ≤ 10000) (hf : f ≤ 10000) (hb : Below B w0 w) :
    Calls Try.prog 16 #[.slice ao m cp, .int .i64 f] w (Parts w0 B (P.take (lowCount P f)) (lessL f (P.drop (lowCount P f)))) := by
  have HL : Hid (P.length = m) := by show _ = _; have := hown.1; simpa [length_ints] using this
  have HC : Hid (lowCount P f ≤ m) := by have := (low_count P f hs).2.2; rwa [HL.out] at this
  have hrow : Row .i64 w ao m cp (ints P) := by
    obtain ⟨a', c', hv, hr⟩ := row_of_owns hown
    simp only [Value.slice.injEq, true_and] at hv
    obtain ⟨rfl, rfl⟩ := hv
    exact hr
  have HSHAPE : Hid ((ao = none ∧ cp = 0 ∧ m = 0) ∨ ∃ g, ao = some ⟨g, 0, none⟩ ∧ B ≤ g) := by
    rcases hown.2 with ⟨h1, h2⟩ | ⟨g, cap, cur, h1, h2, _⟩
    · simp only [Value.slice.injEq] at h1
      exact .inl ⟨h1.1, h1.2.2, h2⟩
    · simp only [Value.slice.injEq] at h1
      exact .inr ⟨g, h1.1, h2⟩
  have hcap := hrow.hcap
  have hmax := hrow.hmax
  unfold maxLen at hmax
  have HEX : Hid (∀ k, k ≤ m → (∀ j, j < k → cf P j < f) → ¬ (k < m ∧ cf P k < f) → k = lowCount P f) := fun k hk hlow hno => by
    by_cases h : k < m
    · exact low_end P f k (by rw [HL.out]; exact h) hlow (fun hh => hno ⟨h, hh⟩)
    · have e : k = m := by omega
      rw [low_all P f fun j hj => hlow j (by rw [HL.out] at hj; omega), HL.out, e]
  go_enter Try.func16, Try.ntmps16
  go_wp2
  go_loop [6] (fun y => ∃ k : Nat, k ≤ m ∧ y = .int .i64 k ∧ ∀ j, j < k → cf P j < f) (fun y => m - (intOf y).toNat)
  case atStart => exact ⟨0, Nat.zero_le _, rfl, fun j hj => absurd hj (by omega)⟩
  case round =>
    obtain ⟨k, hk, rfl, hlow0⟩ := hrel
    have HLOW : Hid (∀ j, j < k → cf P j < f) := hlow0
    clear hlow0
    by_cases hin : k < m ∧ cf P k < f
    · obtain ⟨b, off, rfl, hbs, hcell⟩ := hrow.hcell (by omega)
      have hc1 := hcell k hin.1
      rw [ints_get] at hc1
      clear hcell
      have u1 : (k : Int) < (m : Int) := by omega
      have u2 : (cf P k : Int) < (f : Int) := by omega
      have HIN : Hid (cf P k < f) := hin.2
      clear hin
      go_wp2
      go_round
      case rel =>
        refine ⟨k + 1, by omega, by go_num, fun j hj => ?_⟩
        by_cases e : j = k
        · subst e; exact HIN.out
        · exact HLOW.out j (by omega)
      case measure => simp [intOf]; omega
    · have HCK : Hid (k = lowCount P f) := HEX.out k hk HLOW.out hin
      clear HEX HLOW
      by_cases hkm : k < m
      · have hge : ¬ cf P k < f := fun h => hin ⟨hkm, h⟩
        clear hin
        rcases HSHAPE.out with ⟨_, _, h⟩ | ⟨g, rfl, hgB⟩
        · omega
        obtain ⟨b, off, he, hbs, hcell⟩ := hrow.hcell (by omega)
        simp only [Option.some.injEq, Addr.mk.injEq, and_true] at he
        obtain ⟨rfl, rfl⟩ := he
        have hc1 := hcell k hkm
        rw [ints_get, Nat.zero_add] at hc1
        clear hcell
        have u1 : (k : Int) < (m : Int) := by omega
        have u2 : ¬ (cf P k : Int) < (f : Int) := by omega
        go_wp2
        go_region
        clear hc1 u2 hge hbs hrow
        have HD : Hid (m - k = P.length - k) := by show _ = _; rw [HL.out]
        have HGE : Hid (∀ i, k + i < m → f ≤ cf P (k + i)) := fun i hi => high_ge hs (k + i) (by have := HCK.out; omega) (by rw [HL.out]; exact hi)
        have HBD : Hid (∀ i, k + i < m → cf P (k + i) ≤ 100000) := fun i hi => hP _ (by unfold cf; rw [List.getElem?_eq_getElem (show k + i < P.length by rw [HL.out]; exact hi)]; exact List.getElem_mem _)
        have HFIN : Hid (∀ wr : World, wr.ownsRow B 3 1 (.slice (some ⟨g, 0, none⟩) m cp) m ((ints (partL P f k (m - k))).map (Value.int .i64)) → Below B w0 wr → Parts w0 B (P.take (lowCount P f)) (lessL f (P.drop (lowCount P f))) (.returned (.tuple #[.slice (some ⟨g, 0, none⟩) k k, .slice (some ⟨g, k, none⟩) (m - k) (m - k)])) wr) := fun wr ho hb => by
          rw [← HCK.out]
          have l1 : (P.take k).length = k := by rw [List.length_take, HL.out]; omega
          have l2 : (lessL f (P.drop k)).length = m - k := by unfold lessL; rw [List.length_map, List.length_drop, HL.out]
          refine ⟨some ⟨g, 0, none⟩, k, some ⟨g, k, none⟩, m - k, by rw [l1, l2], ?_, ?_, hb⟩
          · rw [l1]
            exact part_row ho 0 k (by omega) l1 (fun i hi => by rw [Nat.zero_add, partL_low P f k _ i hi (by rw [HL.out]; omega)]) (by omega)
          · rw [l2]
            exact part_row ho k (m - k) (by omega) l2 (fun i hi => by rw [HD.out, partL_high P f k i (by rw [HL.out]; omega)]) (by omega)
        have HS : Hid (∀ i, k + i < m → partL P f k (i + 1) = (partL P f k i).set (k + i) (cf P (k + i) - f) ∧ cf (partL P f k i) (k + i) = cf P (k + i)) := fun i hi => ⟨partL_succ P f k i (by rw [HL.out]; exact hi), cf_partL P f k i (by rw [HL.out]; exact hi)⟩
        have hown0 : w.ownsRow B 3 1 (.slice (some ⟨g, 0, none⟩) m cp) m ((ints (partL P f k 0)).map (Value.int .i64)) := by rw [partL_zero]; exact hown
        clear hown hs hP HSHAPE
        go_wp2
        go_loopw [35] (fun y wr => ∃ i : Nat, i ≤ m - k ∧ y = .int .i64 i ∧ wr.ownsRow B 3 1 (.slice (some ⟨g, 0, none⟩) m cp) m ((ints (partL P f k i)).map (Value.int .i64)) ∧ Below B w0 wr) (fun y _ => m - k - (intOf y).toNat)
        case atStart => exact ⟨0, Nat.zero_le _, rfl, hown0.drew, hb.drew⟩
        case round =>
          clear hown0 hb
          obtain ⟨i, hi, rfl, ho, hb⟩ := hrel
          by_cases hlt : i < m - k
          · obtain ⟨hS1, hS2⟩ := HS.out i (by omega)
            have hcl := owned_cell ho (k + i) (by omega)
            have hfz := ho.frozenAt (k + i)
            rw [ints_get, hS2] at hcl
            have hge := HGE.out i (by omega)
            have hbd := HBD.out i (by omega)
            have R := owned_set (q := k + i) (x := ((cf P (k + i) - f : Nat) : Int)) hgB ho hb
            rw [ints_set, ← hS1] at R
            have HR : Hid _ := R
            clear R hS1 hS2 ho hb HFIN HS HGE HBD
            generalize cf P (k + i) = x at *
            have v1 : IntKind.i64.wrap ((x : Int) - (f : Int)) = ((x - f : Nat) : Int) := by rw [IntKind.wrap_i64]; omega
            have v2 : (x : Int) - (f : Int) = ((x - f : Nat) : Int) := by omega
            have v3 : (i : Int) < ((m - k : Nat) : Int) := by omega
            have v4 : (i : Int) < (m : Int) - (k : Int) := by omega
            generalize x - f = xf at *
            go_wp2
            go_roundw
            case rel => exact ⟨i + 1, by omega, by go_num, HR.out.1, HR.out.2⟩
            case measure => simp [intOf]; omega
          · have e : i = m - k := by omega
            subst e
            have HF : Hid _ := HFIN.out wr ho hb
            clear ho hb HFIN HS HGE HBD
            go_wp2
            go_ret2
            exact HF.out
      · have e : k = m := by omega
        subst e
        clear hin
        have HFIN : Hid (∀ (wr : World) (b : Option Addr) (d : Nat), d ≤ 100000 → (b = none → d = 0) → wr = w ∨ wr = w.drew → Parts w0 B (P.take (lowCount P f)) (lessL f (P.drop (lowCount P f))) (.returned (.tuple #[.slice ao k k, .slice b 0 d])) wr) := fun wr b d hd hbn hw => by
          rw [← HCK.out]
          have l1 : (P.take k).length = k := by rw [List.length_take, HL.out]; omega
          have l2 : lessL f (P.drop k) = [] := by unfold lessL; rw [List.drop_of_length_le (by rw [HL.out]; exact Nat.le_refl _)]; rfl
          have hrow2 : Row .i64 w ao k k (ints (P.take k)) := by
            rw [List.take_of_length_le (by rw [HL.out]; exact Nat.le_refl _)]
            exact ⟨by rw [length_ints, HL.out], Nat.le_refl _, by unfold maxLen; omega, fun h => by have := hrow.hnil h; omega, hrow.hcell⟩
          refine ⟨ao, k, b, d, by rw [l1, l2]; rfl, ?_, ?_, ?_⟩
          · rw [l1]; rcases hw with rfl | rfl
            · exact hrow2
            · exact hrow2.drew
          · rw [l2]; exact empty_row wr b d (by unfold maxLen; omega) hbn
          · rcases hw with rfl | rfl
            · exact hb
            · exact hb.drew
        have u1 : ¬ (k : Int) < (k : Int) := by omega
        rcases HSHAPE.out with ⟨rfl, rfl, hk0⟩ | ⟨g, rfl, hgB⟩
        · subst hk0
          have HF : Hid _ := HFIN.out w.drew none 0 (by omega) (fun _ => rfl) (.inr rfl)
          clear HFIN
          go_wp2
          go_region
          go_wp2
          go_loop [35] (fun y => y = .int .i64 0) (fun _ => 0)
          case atStart => rfl
          case round =>
            subst hrel
            go_wp2
            go_ret2
            exact HF.out
        · clear hrow HSHAPE
          have HF : Hid _ := HFIN.out w.drew (some ⟨g, 0, none⟩) 0 (by omega) (by simp) (.inr rfl)
          clear HFIN
          go_wp2
          go_region
          go_wp2
          go_loop [35] (fun y => y = .int .i64 0) (fun _ => 0)
          case atStart => rfl
          case round =>
            subst hrel
            go_wp2
            go_ret2
            exact HF.out

end Go.Proofs.Ytjiaomkjebbkpab
