/-
  The walk of layer 3's law PolyRoots, out of the face of poly: it returns true; nothing old turns.
-/
import Derived.Test.YtmkjgacimbfblaaPolyLaws3
namespace Go.Proofs.Ytmkjgacimbfblaa
open Go.RowKit
set_option linter.unusedVariables false

/-- The product of the first i parts x less a root. -/
def prTo (rs : List Nat) : Nat → List Nat
  | 0 => [1]
  | i + 1 => norm (mulL (prTo rs i) [cf rs i, 1])
theorem isP_prTo {rs : List Nat} (h : IsP rs) (i : Nat) : IsP (prTo rs i) := by
  induction i with
  | zero => exact isP_all [1] (by decide)
  | succ i ih => exact isP_norm (isP_mulL _ ih)
theorem norm_prTo (rs : List Nat) (i : Nat) : norm (prTo rs i) = prTo rs i := by
  cases i with
  | zero => show norm [1] = [1]; decide
  | succ i => exact norm_norm _
theorem length_prTo {rs : List Nat} (h : IsP rs) (i : Nat) : (prTo rs i).length = i + 1 := by
  induction i with
  | zero => rfl
  | succ i ih =>
    have hne : norm (prTo rs i) ≠ [] := by rw [norm_prTo]; intro e; rw [e] at ih; simp at ih
    have := mulL_length (prTo rs i) [cf rs i, 1] (isP_prTo h i) (isP_lin (cf_lt h i)) hne (by rw [norm_lin]; simp)
    rw [norm_prTo, norm_lin, ih] at this
    show (norm (mulL (prTo rs i) [cf rs i, 1])).length = _
    rw [this]
    simp
theorem evl_prTo {rs : List Nat} (h : IsP rs) (i y : Nat) (hy : y < 8192) : evl (prTo rs (i + 1)) y = gmul (evl (prTo rs i) y) (cf rs i ^^^ y) := by
  show evl (norm (mulL (prTo rs i) [cf rs i, 1])) y = _
  rw [val_mul _ _ y (isP_prTo h i) (isP_lin (cf_lt h i)) hy, evl_lin _ y hy]
/-- Is n among the first i? -/
def oneTo (rs : List Nat) (n i : Nat) : Bool := (List.range i).any fun j => cf rs j == n
theorem oneTo_succ (rs : List Nat) (n i : Nat) : oneTo rs n (i + 1) = (oneTo rs n i || cf rs i == n) := by simp [oneTo, List.range_succ]
theorem evl_zero_iff {rs : List Nat} (h : IsP rs) (i y : Nat) (hy : y < 8192) : (evl (prTo rs i) y == 0) = oneTo rs y i := by
  induction i with
  | zero =>
    show ((1 ^^^ gmul y 0) == 0) = false
    rw [gmul_zero]; rfl
  | succ i ih =>
    rw [evl_prTo h i y hy, oneTo_succ, ← ih]
    have hx := xor_lt _ _ (cf_lt h i) hy
    have hv := evl_lt (isP_prTo h i) y hy
    by_cases h1 : evl (prTo rs i) y = 0
    · rw [h1, zero_gmul _ hx]; simp
    · by_cases h2 : cf rs i = y
      · rw [h2, Nat.xor_self, gmul_zero]; simp
      · have h3 : cf rs i ^^^ y ≠ 0 := fun e => h2 (xor_zero_eq e)
        have := gmul_ne_zero _ _ hv hx h1 h3
        rw [beq_eq_false_iff_ne.2 this, beq_eq_false_iff_ne.2 h1, beq_eq_false_iff_ne.2 h2]; rfl
theorem oneTo_mem (rs : List Nat) (i n : Nat) (h : i < n) : oneTo rs (cf rs i) n = true := by
  unfold oneTo
  rw [List.any_eq_true]
  exact ⟨i, List.mem_range.2 h, by simp⟩
theorem isP_one : IsP [1] := isP_all _ (by decide)

set_option maxHeartbeats 3200000 in
set_option maxRecDepth 100000 in
theorem walk_polyRoots (hM : PMulC) (hD : DivC) (hE : EvalC) (a : Option Addr) (len cap : Nat) (xs : List Int) (x : Int) (w : World) (row_r : Row .i64 w a len cap xs) :
    Calls Try.prog 7 #[.slice a len cap, .int .i64 x] w fun e w' => e = .returned (.bool true) ∧ Below w.heap.size w w' := by
  have hmax : len ≤ maxLen := Nat.le_trans row_r.hcap row_r.hmax
  unfold maxLen at hmax
  by_cases hs : 40 < len
  · go_enter Try.func7, Try.ntmps7
    go_wp2_with fail
    go_ret
    exact ⟨rfl, Below.refl _ _⟩
  cases hx : allE xs
  case false =>
    go_enter Try.func7, Try.ntmps7
    go_wp2_with fail
    refine (isP_any _ _ _ xs _ row_r).mono ?_
    rintro e w' ⟨rfl, rfl⟩
    rw [hx]
    go_wp2_with fail
    go_ret
    exact ⟨rfl, Below.refl _ _⟩
  cases hxe : isE x
  case false =>
    go_enter Try.func7, Try.ntmps7
    go_wp2_with fail
    refine (isP_any _ _ _ xs _ row_r).mono ?_
    rintro e w' ⟨rfl, rfl⟩
    rw [hx]
    go_wp2_with fail
    refine (is_any x _).mono ?_
    rintro e w' ⟨rfl, rfl⟩
    rw [hxe]
    go_wp2_with fail
    go_ret
    exact ⟨rfl, Below.refl _ _⟩
  obtain ⟨rs, rfl, hrs⟩ := allE_true hx
  obtain ⟨n, rfl, hn⟩ := isE_true hxe
  have HLr : Hid (rs.length = len) := eq_len row_r
  go_enter Try.func7, Try.ntmps7
  go_wp2_with fail
  refine (isP_any _ _ _ (ints rs) _ row_r).mono ?_
  rintro e w' ⟨rfl, rfl⟩
  rw [hx]
  go_wp2_with fail
  refine (is_any n _).mono ?_
  rintro e w' ⟨rfl, rfl⟩
  rw [hxe]
  clear hx hxe
  go_wp2_with fail
  have hr1 := row_new .i64 w 3 w.heap.size rfl (ints [1]) 1 rfl (by decide) #[.int .i64 1] rfl
  have q := below_one w (Obj.cells #[.int .i64 1] 3)
  go_loopw [5, 6, 7] (fun v o y wr => ∃ i : Nat, i ≤ len ∧ y = .int .i64 i ∧ o = .bool (oneTo rs n i) ∧ (∃ b cp, v = .slice b (i + 1) cp ∧ Row .i64 wr b (i + 1) cp (ints (prTo rs i))) ∧ Below w.heap.size w wr) (fun _ _ y _ => len - (intOf y).toNat)
  case atStart => exact ⟨0, Nat.zero_le _, rfl, rfl, ⟨_, _, rfl, hr1⟩, q⟩
  case round =>
    clear hr1 q
    obtain ⟨i, hi, rfl, rfl, ⟨b0, cp0, rfl, row_v⟩, q⟩ := hrel
    by_cases hlt : i < len
    · have hrr := row_r.below q (Nat.le_refl _)
      obtain ⟨b, off, rfl, hbs, hcell⟩ := hrr.hcell (by omega)
      have hc1 := hcell i hlt
      rw [ints_get] at hc1
      clear hcell
      have hii : (i : Int) < (len : Int) := by omega
      have c1 := cf_lt hrs i
      have hL := length_prTo hrs (i + 1)
      have HL : Hid ((prTo rs (i + 1)).length = i + 1 + 1) := hL
      have HO : Hid (oneTo rs n (i + 1) = (oneTo rs n i || cf rs i == n)) := oneTo_succ rs n i
      have HP : Hid (norm (mulL (prTo rs i) [cf rs i, 1]) = prTo rs (i + 1)) := rfl
      have hip := isP_prTo hrs i
      clear hL
      go_wp2_with fail
      have hr1 := row_v.below (below_one wr (Obj.cells #[.int .i64 ((cf rs i : Nat) : Int), .int .i64 1] 3)) (Nat.le_refl _)
      have hr2 := row_new .i64 wr 3 wr.heap.size rfl (ints [cf rs i, 1]) 2 rfl (by decide) #[.int .i64 ((cf rs i : Nat) : Int), .int .i64 1] rfl
      refine (mulp_any hM _ _ _ _ _ _ (prTo rs i) [cf rs i, 1] _ hr1 hr2 (by omega) (by decide) hip (isP_lin c1)).mono ?_
      clear hr1 hr2
      rintro e wN ⟨b2, cp2, rfl, row_2, q2⟩
      rw [HP.out, HL.out] at row_2
      rw [HP.out, HL.out]
      replace q2 := btrans (below_one wr _) q2
      have hc2 := (q2.cell (p := ⟨b, off + i, none⟩) hbs).trans hc1
      replace q := btrans q q2
      clear q2 hc1 row_v hrr hip
      cases ho : oneTo rs n i
      · by_cases hv : cf rs i = n
        · have hq : (((cf rs i : Nat) : Int) == (n : Int)) = true := by simp [hv]
          have HO2 : Hid (oneTo rs n (i + 1) = true) := by show _ = _; rw [HO.out, hv]; simp
          clear ho hv
          go_wp2_with fail
          go_roundw
          case rel => exact ⟨i + 1, by omega, by go_num, by rw [HO2.out], ⟨_, _, rfl, row_2⟩, q⟩
          case measure => simp [intOf]; omega
        · have hq : (((cf rs i : Nat) : Int) == (n : Int)) = false := by simp; omega
          have HO2 : Hid (oneTo rs n (i + 1) = false) := by show _ = _; rw [HO.out, ho]; simp [hv]
          clear ho hv
          go_wp2_with fail
          go_roundw
          case rel => exact ⟨i + 1, by omega, by go_num, by rw [HO2.out], ⟨_, _, rfl, row_2⟩, q⟩
          case measure => simp [intOf]; omega
      · have HO2 : Hid (oneTo rs n (i + 1) = true) := by show _ = _; rw [HO.out, ho]; rfl
        clear ho
        go_wp2_with fail
        go_roundw
        case rel => exact ⟨i + 1, by omega, by go_num, by rw [HO2.out], ⟨_, _, rfl, row_2⟩, q⟩
        case measure => simp [intOf]; omega
    · have e : i = len := by omega
      subst e
      clear hlt hi
      have hip := isP_prTo hrs i
      have HZ : Hid (∀ k, k < i → evl (prTo rs i) (cf rs k) = 0) := fun k hk => by
        have := evl_zero_iff hrs i (cf rs k) (cf_lt hrs k)
        rw [oneTo_mem rs k i hk] at this
        simpa using this
      have HF : Hid ((evl (prTo rs i) n == 0) = oneTo rs n i) := evl_zero_iff hrs i n hn
      generalize oneTo rs n i = o1 at *
      generalize prTo rs i = pr at *
      go_wp2_with fail
      go_loopw [8] (fun y wq => ∃ k : Nat, k ≤ i ∧ y = .int .i64 k ∧ Below wr.heap.size wr wq) (fun y _ => i - (intOf y).toNat)
      case atStart => exact ⟨0, Nat.zero_le _, rfl, Below.refl _ _⟩
      case round =>
        obtain ⟨k, hk, rfl, q3⟩ := hrel
        replace row_v := row_v.below q3 (Nat.le_refl _)
        replace q := btrans q q3
        have row_r' := row_r.below q (Nat.le_refl _)
        by_cases hlt : k < i
        · obtain ⟨b, off, rfl, hbs, hcell⟩ := row_r'.hcell (by omega)
          have hc1 := hcell k hlt
          rw [ints_get] at hc1
          have HV : Hid (evl pr (cf rs k) = 0) := HZ.out k hlt
          have c1 := cf_lt hrs k
          clear hcell
          have hkk : (k : Int) < (i : Int) := by omega
          generalize cf rs k = t at *
          go_wp2_with fail
          refine (hE.yes _ _ _ pr t _ row_v (by omega) hip c1).mono ?_
          rintro e wN ⟨rfl, q2⟩
          rw [HV.out]
          replace q3 := btrans q3 q2
          clear q2
          go_wp2_with fail
          go_roundw
          case rel => exact ⟨k + 1, by omega, by go_num, q3⟩
          case measure => simp [intOf]; omega
        · have hkk : (i : Int) ≤ (k : Int) := by omega
          go_wp2_with fail
          refine (hE.yes _ _ _ pr n _ row_v (by omega) hip hn).mono ?_
          rintro e wN ⟨rfl, q2⟩
          replace q := btrans q q2
          clear q2
          have hz1 : (((evl pr n : Nat) : Int) == 0) = o1 := by rw [← HF.out, Bool.eq_iff_iff]; simp
          go_wp2_with fail
          refine (awake_any hM hD hE _).mono ?_
          rintro e wM ⟨rfl, q2⟩
          replace q := btrans q q2
          clear q2
          go_wp2_with fail
          go_ret
          exact ⟨rfl, q⟩

end Go.Proofs.Ytmkjgacimbfblaa
