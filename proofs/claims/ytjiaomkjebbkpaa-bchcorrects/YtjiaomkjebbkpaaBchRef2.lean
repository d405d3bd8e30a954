/-
  Layer 5's reference, on: Is, generator, padded, Encode; nothing old turns.
-/
import Derived.Test.YtjiaomkjebbkpaaBchRef
namespace Go.Proofs.Ytjiaomkjebbkpaa
open Go.RowKit
set_option linter.unusedVariables false

/-- Are all sums 0? -/
def codeB (t : Nat) (p : List Nat) : Bool := (sumsTo p (2 * t)).all fun v => v == 0
theorem codeB_true {t : Nat} {p : List Nat} (h : ∀ j, j < 2 * t → cf (sumsTo p (2 * t)) j = 0) : codeB t p = true := by
  apply List.all_eq_true.2
  intro v hv
  obtain ⟨j, hj, rfl⟩ := List.mem_iff_getElem.1 hv
  have hj' : j < 2 * t := by rw [length_sumsTo] at hj; exact hj
  have := h j hj'
  unfold cf at this
  rw [List.getElem?_eq_getElem hj] at this
  simpa using this
theorem codeB_false {t : Nat} {p : List Nat} (j : Nat) (hj : j < 2 * t) (h : cf (sumsTo p (2 * t)) j ≠ 0) : codeB t p = false := by
  rw [← Bool.not_eq_true]
  intro ha
  apply h
  have hl : j < (sumsTo p (2 * t)).length := by rw [length_sumsTo]; exact hj
  have := List.all_eq_true.1 ha _ (List.getElem_mem hl)
  unfold cf
  rw [List.getElem?_eq_getElem hl]
  simpa using this
theorem codeB_iff (t : Nat) (p : List Nat) : codeB t p = true ↔ code t p := by
  rw [sums_code]
  constructor
  · intro h i hi
    rcases Decidable.em (cf (sumsTo p (2 * t)) i = 0) with h1 | h1
    · exact h1
    · rw [codeB_false i hi h1] at h; simp at h
  · exact codeB_true

set_option maxHeartbeats 1600000 in
set_option maxRecDepth 100000 in
theorem refIs_any (t : Nat) (a c : Option Addr) (len cap len' cap' : Nat) (x m : List Int) (w : World) (ht : t ≤ 8) (hr : Row .u8 w a len cap x) (hx : IsB x) (hr' : Row .u8 w c len' cap' m) (hm : IsB m) (hl : 13 * t ≤ 8 * len') (hsm : len ≤ 600) (hsm' : len' ≤ 600) :
    Calls Try.prog 22 #[.int .i64 t, .slice a len cap, .slice c len' cap'] w fun e w' => e = .returned (.bool (codeB t (wordL t x m))) ∧ Below w.heap.size w w' := by
  have hS := refSums_any t a c len cap len' cap' x m w ht hr hx hr' hm hl hsm hsm'
  generalize wordL t x m = p at *
  have HT : Hid ((∀ j, j < 2 * t → cf (sumsTo p (2 * t)) j = 0) → codeB t p = true) := codeB_true
  have HF : Hid (∀ j, j < 2 * t → cf (sumsTo p (2 * t)) j ≠ 0 → codeB t p = false) := codeB_false
  generalize sumsTo p (2 * t) = s at *
  go_enter Try.func22, Try.ntmps22
  go_wp2_with fail
  refine hS.mono ?_
  rintro e w1 ⟨a1, cp1, rfl, row1, q1⟩
  go_wp2_with fail
  go_loop [8] (fun y => ∃ i : Nat, i ≤ 2 * t ∧ y = .int .i64 i ∧ ∀ j, j < i → cf s j = 0) (fun y => 2 * t - (intOf y).toNat)
  case atStart => exact ⟨0, Nat.zero_le _, rfl, fun j hj => absurd hj (by omega)⟩
  case round =>
    obtain ⟨i, hi, rfl, hall0⟩ := hrel
    have hall : Hid (∀ j, j < i → cf s j = 0) := hall0
    clear hall0
    by_cases hlt : i < 2 * t
    · obtain ⟨b, off, rfl, hbs, hcell⟩ := row1.hcell (by omega)
      have hc1 := hcell i hlt
      rw [ints_get] at hc1
      clear hcell
      have hii : (i : Int) < ((2 * t : Nat) : Int) := by omega
      have hii2 : (i : Int) < 2 * (t : Int) := by omega
      by_cases h0 : cf s i = 0
      · have hq : ((cf s i : Int) != 0) = false := by simp [h0]
        have H0 : Hid (cf s i = 0) := h0
        clear h0
        go_wp2
        go_round
        case rel =>
          refine ⟨i + 1, by omega, by go_num, fun j hj => ?_⟩
          by_cases e : j = i
          · subst e; exact H0.out
          · exact hall.out j (by omega)
        case measure => simp [intOf]; omega
      · have hq : ((cf s i : Int) != 0) = true := by simp; omega
        have hf : Hid (codeB t p = false) := HF.out i hlt h0
        clear h0
        go_wp2
        go_ret
        exact ⟨ret_bool hf.out.symm, q1⟩
    · have e : i = 2 * t := by omega
      subst e
      have hf : Hid (codeB t p = true) := HT.out hall.out
      go_wp2
      go_ret
      exact ⟨ret_bool hf.out.symm, q1⟩

/-- What the reference's product by x + X holds behind i rounds, at the place j; and with the first half of the next round. -/
def qAt (p : List Nat) (x i h j : Nat) : Nat := (if j < i + h then gmul (cf p j) x else 0) ^^^ (if 1 ≤ j ∧ j ≤ i then cf p (j - 1) else 0)
def qTo (p : List Nat) (x i h : Nat) : List Nat := (List.range (p.length + 1)).map (qAt p x i h)
theorem length_qTo (p : List Nat) (x i h : Nat) : (qTo p x i h).length = p.length + 1 := by simp [qTo]
theorem cf_qTo (p : List Nat) (x i h j : Nat) (hj : j < p.length + 1) : cf (qTo p x i h) j = qAt p x i h j := by simp [cf, qTo, hj]
theorem qTo_zero (p : List Nat) (x : Nat) : qTo p x 0 0 = List.replicate (p.length + 1) 0 := by
  apply List.ext_getElem
  · simp [qTo]
  · intro j h1 h2
    simp only [qTo, List.getElem_map, List.getElem_range, qAt, List.getElem_replicate]
    rw [if_neg (by omega), if_neg (by omega), Nat.xor_self]
theorem qTo_half (p : List Nat) (x i : Nat) (hi : i < p.length) : qTo p x i 1 = (qTo p x i 0).set i (cf (qTo p x i 0) i ^^^ gmul (cf p i) x) := by
  have e0 := cf_qTo p x i 0 i (by omega)
  apply List.ext_getElem
  · simp [qTo]
  · intro j h1 h2
    rw [List.getElem_set]
    by_cases e : i = j
    · subst e
      rw [if_pos rfl, e0]
      simp only [qTo, List.getElem_map, List.getElem_range, qAt]
      rw [if_pos (show i < i + 1 by omega), if_neg (show ¬ i < i + 0 by omega), Nat.zero_xor, Nat.xor_comm]
    · rw [if_neg e]
      simp only [qTo, List.getElem_map, List.getElem_range, qAt]
      congr 1
      by_cases h : j < i
      · rw [if_pos (by omega), if_pos (by omega)]
      · rw [if_neg (by omega), if_neg (by omega)]
theorem qTo_next (p : List Nat) (x i : Nat) (hi : i < p.length) : qTo p x (i + 1) 0 = (qTo p x i 1).set (i + 1) (cf (qTo p x i 1) (i + 1) ^^^ cf p i) := by
  have e0 := cf_qTo p x i 1 (i + 1) (by omega)
  apply List.ext_getElem
  · simp [qTo]
  · intro j h1 h2
    rw [List.getElem_set]
    by_cases e : i + 1 = j
    · subst e
      rw [if_pos rfl, e0]
      simp only [qTo, List.getElem_map, List.getElem_range, qAt]
      rw [if_neg (show ¬ i + 1 < i + 1 + 0 by omega), if_pos (by omega), if_neg (show ¬ (1 ≤ i + 1 ∧ i + 1 ≤ i) by omega), Nat.xor_zero, show i + 1 - 1 = i from rfl]
    · rw [if_neg e]
      simp only [qTo, List.getElem_map, List.getElem_range, qAt, Nat.add_zero]
      congr 1
      by_cases h : 1 ≤ j ∧ j ≤ i
      · rw [if_pos (by omega), if_pos h]
      · rw [if_neg (by omega), if_neg h]
theorem isP_qTo {p : List Nat} (hp : IsP p) (x i h : Nat) : IsP (qTo p x i h) := by
  intro v hv
  obtain ⟨j, _, rfl⟩ := List.mem_map.1 hv
  unfold qAt
  refine xor_lt _ _ ?_ ?_
  · split
    · exact gmul_lt _ _ (cf_lt hp _)
    · decide
  · split
    · exact cf_lt hp _
    · decide
theorem qTo_end (p : List Nat) (x : Nat) (hp : IsP p) (hx : x < 8192) : Eqv (qTo p x p.length 0) (mulL [x, 1] p) := fun j => by
  rw [cf_lin_mul x p j hp]
  by_cases hj : j < p.length + 1
  · rw [cf_qTo p x _ _ j hj]
    unfold qAt
    congr 1
    · by_cases h : j < p.length
      · rw [if_pos (by omega), gmul_comm _ _ (cf_lt hp j) hx]
      · rw [if_neg (by omega), cf_big p j (by omega), gmul_zero]
    · cases j with
      | zero => rw [if_neg (by omega)]; rfl
      | succ j => rw [if_pos (by omega), cf_succ]; rfl
  · rw [cf_big _ _ (by rw [length_qTo]; omega), cf_big p j (by omega), gmul_zero, Nat.zero_xor]
    cases j with
    | zero => omega
    | succ j => rw [cf_succ, cf_big p j (by omega)]
/-- The reference's product over the first k conjugates. -/
def cl (x : Nat) : Nat → List Nat
  | 0 => [1]
  | k + 1 => qTo (cl x k) (sqN x k) (cl x k).length 0
theorem length_cl (x k : Nat) : (cl x k).length = k + 1 := by
  induction k with
  | zero => rfl
  | succ k ih => show (qTo _ _ _ _).length = _; rw [length_qTo, ih]
theorem isP_cl (x k : Nat) : IsP (cl x k) := by
  induction k with
  | zero => exact isP_one1
  | succ k ih => exact isP_qTo ih _ _ _
theorem cl_conjp (x k : Nat) (hx : x < 8192) : Eqv (cl x k) (conjp x k) := by
  induction k with
  | zero => exact Eqv.refl _
  | succ k ih => exact (qTo_end _ _ (isP_cl x k) (sqN_lt x k hx)).trans (mulL_right _ ih)
theorem cl_min (x : Nat) (hx : x < 8192) (h0 : x ≠ 0) (h1 : x ≠ 1) : Eqv (cl x 13) (minp x) ∧ Is01 (cl x 13) := by
  have h := (cl_conjp x 13 hx).trans (minp_conjp x hx h0 h1)
  exact ⟨h, is01_of fun i => by rw [h i]; exact (minp_is x hx h0).h01.cf i⟩

set_option maxHeartbeats 6400000 in
set_option maxRecDepth 100000 in
theorem refGen_any (t : Nat) (w : World) (ht : t ≤ 8) :
    Calls Try.prog 31 #[.int .i64 t] w fun e w' => ∃ r v cp, Is01 r ∧ Eqv r (genTo t) ∧ e = .returned (.slice v r.length cp) ∧ Row .i64 w' v r.length cp (ints r) ∧ r.length ≤ 200 ∧ Below w.heap.size w w' := by
  obtain ⟨i0, hi0, hz0, hz1, hz2⟩ := info_parts Try.info3
  have hr0 := row_new .i64 w 3 w.heap.size rfl (ints [1]) 1 rfl (by decide) #[.int .i64 1] rfl
  have hb0 : Below w.heap.size w (w.alloc (Obj.cells #[.int .i64 1] 3)) := below_one w _
  go_enter Try.func31, Try.ntmps31
  go_wp2
  go_loopw [3, 4, 5, 6, 7, 8, 9] (fun v y _ _ _ _ _ wr => ∃ k : Nat, ∃ r : List Nat, ∃ a cap, k ≤ t ∧ y = .int .i64 ((2 * k + 1 : Nat) : Int) ∧ v = .slice a r.length cap ∧ Is01 r ∧ Eqv r (genTo k) ∧ r.length = 1 + 14 * k ∧ Row .i64 wr a r.length cap (ints r) ∧ Below w.heap.size w wr) (fun _ y _ _ _ _ _ _ => 2 * t + 1 - (intOf y).toNat)
  case atStart => exact ⟨0, [1], _, _, by omega, rfl, rfl, is01_all _ (by decide), Eqv.refl _, rfl, hr0, hb0⟩
  case round =>
    clear hr0 hb0
    obtain ⟨k, r, a, cap, hk, rfl, rfl, hr01, hreq, hrl0, hrow, hnx⟩ := hrel
    obtain ⟨wo, hwo⟩ : ∃ wo, wo = wr := ⟨_, rfl⟩
    subst hwo
    have HREQ : Hid (Eqv r (genTo k)) := hreq
    have HRL : Hid (r.length = 1 + 14 * k) := hrl0
    have hrl : r.length ≤ 200 := by omega
    clear hreq hrl0
    by_cases hlt : k < t
    · have hx := pow2_ok (2 * k + 1)
      have hx1 := pow2_ne_one (2 * k + 1) (by omega) (by omega)
      have HG : Hid (gz 2 ((2 * k + 1 : Nat) : Int) = gpow 2 (2 * k + 1)) := gz_nat 2 _ (by decide) (by decide)
      have HCM := cl_min _ hx.1 hx.2 hx1
      have HC1 : Hid (Eqv (cl (gpow 2 (2 * k + 1)) 13) (minp (gpow 2 (2 * k + 1)))) := HCM.1
      have hc01 := HCM.2
      have hxl := hx.1
      have HST : Hid (Eqv (mulL r (cl (gpow 2 (2 * k + 1)) 13)) (genTo (k + 1))) := by
        refine (mulL_left _ hr01.isP (is01_genTo k).isP hc01.isP HREQ.out).trans ((mulL_right _ HC1.out).trans ?_)
        exact (norm_eqv _).symm
      clear HCM hx hx1 HC1
      have hr1 := row_new .i64 wo 3 wo.heap.size rfl (ints [1]) 1 rfl (by decide) #[.int .i64 1] rfl
      have hb1 : Below wo.heap.size wo (wo.alloc (Obj.cells #[.int .i64 1] 3)) := below_one wo _
      go_wp2_with fail
      refine (refExp_any ((2 * k + 1 : Nat) : Int) _ (by omega) (by omega)).mono ?_
      rintro e w' ⟨rfl, rfl⟩
      rw [HG.out]
      generalize gpow 2 (2 * k + 1) = x at *
      go_wp2_with fail
      go_loopw [5, 6, 7, 8, 9] (fun v xv y _ _ ws => ∃ j : Nat, ∃ b cb, j ≤ 13 ∧ y = .int .i64 j ∧ xv = .int .i64 (sqN x j : Nat) ∧ v = .slice b (j + 1) cb ∧ Row .i64 ws b (j + 1) cb (ints (cl x j)) ∧ Below wo.heap.size wo ws) (fun _ _ y _ _ _ => 13 - (intOf y).toNat)
      case atStart => exact ⟨0, _, _, by omega, rfl, rfl, rfl, hr1, hb1⟩
      case round =>
        clear hr1 hb1
        obtain ⟨j, b, cb, hj, rfl, rfl, rfl, hrp, hnp⟩ := hrel
        obtain ⟨ws, hws⟩ : ∃ ws, ws = wr := ⟨_, rfl⟩
        subst hws
        by_cases hlt2 : j < 13
        · have hP := isP_cl x j
          have HLc : Hid ((cl x j).length = j + 1) := length_cl x j
          have hs := sqN_lt x j hxl
          have HNX : Hid (cl x (j + 1) = qTo (cl x j) (sqN x j) (j + 1) 0) := by show qTo _ _ _ _ = _; rw [HLc.out]
          have HSQ : Hid (sqN x (j + 1) = gmul (sqN x j) (sqN x j)) := rfl
          have HQ0 : Hid (qTo (cl x j) (sqN x j) 0 0 = List.replicate (j + 2) 0) := by show _ = _; rw [qTo_zero, HLc.out]
          have HQ1 : Hid (∀ i, i < j + 1 → qTo (cl x j) (sqN x j) i 1 = (qTo (cl x j) (sqN x j) i 0).set i (cf (qTo (cl x j) (sqN x j) i 0) i ^^^ gmul (cf (cl x j) i) (sqN x j))) := fun i hi => qTo_half _ _ i (by have := HLc.out; omega)
          have HQ2 : Hid (∀ i, i < j + 1 → qTo (cl x j) (sqN x j) (i + 1) 0 = (qTo (cl x j) (sqN x j) i 1).set (i + 1) (cf (qTo (cl x j) (sqN x j) i 1) (i + 1) ^^^ cf (cl x j) i)) := fun i hi => qTo_next _ _ i (by have := HLc.out; omega)
          have HPQ : Hid (∀ i h, IsP (qTo (cl x j) (sqN x j) i h)) := fun i h => isP_qTo hP _ i h
          generalize cl x j = p at *
          generalize sqN x j = y at *
          have hmx : j + 2 ≤ maxLen := by unfold maxLen; omega
          have hmk : ∀ w1 : World, w1.ownsRow ws.heap.size 3 1 (.slice (some ⟨ws.heap.size, 0, none⟩) (j + 2) (j + 2)) (j + 2) (madeCells (Value.int IntKind.i64 0).cells ((j + 2) * 1)).toList → ws.grownBy w1 none →
              w1.ownsRow ws.heap.size 3 1 (.slice (some ⟨ws.heap.size, 0, none⟩) (j + 2) (j + 2)) (j + 2) ((ints (qTo p y 0 0)).map (Value.int .i64)) ∧ Below ws.heap.size ws w1 := fun w1 h1 h2 => by
            refine ⟨?_, (Below.refl _ _).grown h2 (Nat.le_refl _) (by simp)⟩
            rw [made_ints] at h1
            rw [HQ0.out]
            simpa [ints] using h1
          go_wp2_with (at_make; refine wpList_make_full _ rfl _ _ 32 rfl ws.heap.size 3 i0 (.int .i64 0) 1 Try.underlying32 hi0 hz0 hz1 _ _ _ _ (j + 2) rfl rfl (by omega) (by omega) (by rw [hz2]; omega) hmx (Nat.le_refl _) ?_; intro w1 hown1 hgrow1)
          obtain ⟨hown2, hb2⟩ := hmk w1 hown1 hgrow1
          clear hmk hown1 hgrow1
          go_loopw [9] (fun iv wq => ∃ i : Nat, i ≤ j + 1 ∧ iv = .int .i64 i ∧ wq.ownsRow ws.heap.size 3 1 (.slice (some ⟨ws.heap.size, 0, none⟩) (j + 2) (j + 2)) (j + 2) ((ints (qTo p y i 0)).map (Value.int .i64)) ∧ Below ws.heap.size ws wq) (fun iv _ => j + 1 - (intOf iv).toNat)
          case atStart => exact ⟨0, Nat.zero_le _, rfl, hown2, hb2⟩
          case round =>
            clear hown2 hb2
            obtain ⟨i, hi, rfl, hown, hnq⟩ := hrel
            by_cases hlt3 : i < j + 1
            · have hrr := hrp.below hnq (Nat.le_refl _)
              obtain ⟨pb, off, rfl, hbs, hcell⟩ := hrr.hcell (by omega)
              have hc1 := hcell i hlt3
              rw [ints_get] at hc1
              have hcl := owned_cell hown i (by omega)
              have hfz := hown.frozenAt i
              rw [ints_get] at hcl
              have c1 := cf_lt hP i
              have c3 := gmul_lt (cf p i) y c1
              have c4 := cf_lt (HPQ.out i 0) i
              have hii : (i : Int) < (j : Int) + 1 := by omega
              have hii2 : (i : Int) < (j : Int) + 2 := by omega
              have hw0 : (0 : Int) ≤ (i : Int) := by omega
              have hto : ((i : Int)).toNat = i := by omega
              have R := owned_set (q := i) (x := ((cf (qTo p y i 0) i ^^^ gmul (cf p i) y : Nat) : Int)) (Nat.le_refl _) hown hnq
              have HE2 : Hid ((ints (qTo p y i 0)).set i ((cf (qTo p y i 0) i ^^^ gmul (cf p i) y : Nat) : Int) = ints (qTo p y i 1)) := by
                show _ = _
                rw [HQ1.out i hlt3]
                unfold ints
                rw [List.map_set]
              rw [HE2.out] at R
              have R' := And.intro R.1.drew R.2.drew
              have HRR : Hid _ := R'
              clear R R' hown hnq hcell hrr HE2
              generalize cf (qTo p y i 0) i = q0 at *
              go_wp2
              go_region_with (first
                | (go_at_call 51; refine (refMul_any (cf p i) y _ c1 hs).mono ?_; rintro e w' ⟨rfl, rfl⟩)
                | (go_at_call 50; refine (sum_any q0 (gmul (cf p i) y) _ (by omega) (by omega)).mono ?_; rintro e w' ⟨rfl, rfl⟩))
              all_goals
                obtain ⟨hownB, hnqB⟩ := HRR.out
                clear HRR hfz hcl hc1
                generalize (World.setCell wr ⟨ws.heap.size, i, none⟩ (.int .i64 ((q0 ^^^ gmul (cf p i) y : Nat) : Int))).drew = wz at *
                have hrr2 := hrp.below hnqB (Nat.le_refl _)
                obtain ⟨pb2, off2, he2, hbs2, hcell2⟩ := hrr2.hcell (by omega)
                simp only [Option.some.injEq, Addr.mk.injEq, and_true] at he2
                obtain ⟨rfl, rfl⟩ := he2
                have hc2 := hcell2 i hlt3
                rw [ints_get] at hc2
                have hcl2 := owned_cell hownB (i + 1) (by omega)
                have hfz2 := hownB.frozenAt (i + 1)
                rw [ints_get] at hcl2
                have c5 := cf_lt (HPQ.out i 1) (i + 1)
                have hw1 : IntKind.i64.wrap ((i : Int) + 1) = (i : Int) + 1 := by rw [IntKind.wrap_i64]; omega
                have hto1 : ((i : Int) + 1).toNat = i + 1 := by omega
                have hi1a : (0 : Int) ≤ (i : Int) + 1 := by omega
                have hi1b : (i : Int) + 1 < (j : Int) + 2 := by omega
                have hi1c : (i : Int) + 1 < ((j + 2 : Nat) : Int) := by omega
                have hi1d : i + 1 < j + 2 := by omega
                have R2 := owned_set (q := i + 1) (x := ((cf (qTo p y i 1) (i + 1) ^^^ cf p i : Nat) : Int)) (Nat.le_refl _) hownB hnqB
                have HE3 : Hid ((ints (qTo p y i 1)).set (i + 1) ((cf (qTo p y i 1) (i + 1) ^^^ cf p i : Nat) : Int) = ints (qTo p y (i + 1) 0)) := by
                  show _ = _
                  rw [HQ2.out i hlt3]
                  unfold ints
                  rw [List.map_set]
                rw [HE3.out] at R2
                have R2' := And.intro R2.1.drew R2.2.drew
                have HR2 : Hid _ := R2'
                clear R2 R2' hownB hnqB hcell2 hrr2 HE3
                generalize cf (qTo p y i 1) (i + 1) = q1 at *
                go_wp2
                go_region_with (go_at_call 50; refine (sum_any q1 (cf p i) _ (by omega) (by omega)).mono ?_; rintro e w' ⟨rfl, rfl⟩)
                all_goals
                  go_wp2
                  go_roundw
                  case rel => exact ⟨i + 1, by omega, by go_num, HR2.out.1, HR2.out.2⟩
                  case measure => simp [intOf]; omega
            · have e : i = j + 1 := by omega
              subst e
              rw [← HNX.out] at hown
              obtain ⟨a5, cp5, hv5, hrow5⟩ := row_of_owns hown
              simp only [Value.slice.injEq, true_and] at hv5
              obtain ⟨rfl, rfl⟩ := hv5
              have hnw : Below wo.heap.size wo wr := hnp.trans (hnq.mono hnp.size)
              go_wp2_with fail
              refine (refMul_any y y _ hs hs).mono ?_
              rintro e w' ⟨rfl, rfl⟩
              rw [← HSQ.out]
              go_wp2_with fail
              go_roundw
              case rel => exact ⟨j + 1, _, _, by omega, by go_num, rfl, rfl, hrow5, hnw⟩
              case measure => simp [intOf]; omega
        · have e : j = 13 := by omega
          subst e
          have hrow' := hrow.below hnp (Nat.le_refl _)
          have hnw : Below w.heap.size w ws := hnx.trans (hnp.mono hnx.size)
          go_wp2_with fail
          refine (refMulB_any _ _ _ _ _ _ r (cl x 13) _ hrow' hr01 hrp hc01 (by omega) (by omega)).mono ?_
          rintro e w5 ⟨r5, a5, h5, e5, l5, rfl, hrow5, q3⟩
          have HE5 : Hid (Eqv r5 (genTo (k + 1))) := e5.trans HST.out
          have HL5 : Hid (r5.length = r.length + (13 + 1)) := l5
          clear e5 l5
          rw [← HL5.out] at hrow5
          have hnw5 : Below w.heap.size w w5 := hnw.trans (q3.mono hnw.size)
          go_wp2_with fail
          go_roundw
          case rel => exact ⟨k + 1, r5, _, _, by omega, by go_num, by rw [HL5.out], h5, HE5.out, by have := HL5.out; have := HRL.out; omega, hrow5, hnw5⟩
          case measure => simp [intOf]; omega
    · have e : k = t := by omega
      subst e
      go_wp2
      go_ret
      first | exact ⟨r, hr01, HREQ.out, _, _, rfl, hrow, hrl, hnx⟩ | exact ⟨r, _, _, hr01, HREQ.out, rfl, hrow, hrl, hnx⟩

end Go.Proofs.Ytjiaomkjebbkpaa
