/-
  Layer 4's reference (casemateref04) and the reference's Put of any list of bits: Degree, Bytes, Add, Value give what the plain functions give; nothing old turns.
-/
import Derived.Test.YtjiaomkjebbkpaaBpolyPlain
import Derived.Test.YtjiaomkjebbkpaaPolyRef
import Derived.Test.YtjiaomkjebbkpaaBits
namespace Go.Proofs.Ytjiaomkjebbkpaa
open Go.RowKit
set_option linter.unusedVariables false

theorem ints_bts (z : List Int) : ints (bts z) = bitsTo z (8 * z.length) := by
  unfold ints bts bitsTo
  rw [List.map_map]
  apply List.map_congr_left
  intro i _
  show ((bitI z i).toNat : Int) = bitI z i
  rcases bitI_01 z i with h | h <;> rw [h] <;> rfl

theorem deg_len {p : List Nat} {k : Nat} (hk : k ≤ p.length) (h : p.take k = norm p) : (norm p).length = k := by rw [← h, List.length_take]; omega
set_option maxHeartbeats 800000 in
theorem refDeg_any (a : Option Addr) (len cap : Nat) (p : List Nat) (w : World) (hr : Row .i64 w a len cap (ints p)) (hsm : len ≤ 100000) :
    Calls Try.prog 49 #[.slice a len cap] w fun e w' => e = .returned (.int .i64 (((norm p).length : Int) - 1)) ∧ w = w' := by
  have HL : Hid (p.length = len) := by have := hr.hlen; rwa [length_ints] at this
  go_enter Try.func49, Try.ntmps49
  go_wp2
  go_loop [3] (fun y => ∃ k : Nat, k ≤ len ∧ y = .int .i64 ((k : Int) - 1) ∧ ∀ i, k ≤ i → cf p i = 0) (fun y => (intOf y + 1).toNat)
  case atStart => exact ⟨len, Nat.le_refl _, rfl, fun i hi => cf_big p i (by have := HL.out; omega)⟩
  case round =>
    obtain ⟨k, hk, rfl, hz0'⟩ := hrel
    have HZ : Hid (∀ i, k ≤ i → cf p i = 0) := hz0'
    clear hz0'
    by_cases h0 : k = 0
    · subst h0
      have HT : Hid ((norm p).length = 0) := deg_len (by omega) (take_norm p 0 (by omega) HZ.out (.inl rfl))
      go_wp2
      go_ret
      exact ⟨ret_int (by rw [HT.out]; rfl), rfl⟩
    · obtain ⟨b, off, rfl, hbs, hcell⟩ := hr.hcell (by omega)
      have hc1 := hcell (k - 1) (by omega)
      rw [ints_get] at hc1
      have hto : ((k : Int) - 1).toNat = k - 1 := by omega
      have hk0 : (0 : Int) ≤ (k : Int) - 1 := by omega
      have hk1 : (k : Int) - 1 < (len : Int) := by omega
      by_cases hv : cf p (k - 1) = 0
      · have hq : (((cf p (k - 1) : Nat) : Int) == 0) = true := by simp [hv]
        have HV : Hid (cf p (k - 1) = 0) := hv
        clear hcell hv
        go_wp2
        go_round
        case rel =>
          refine ⟨k - 1, by omega, by go_num, fun i hi => ?_⟩
          by_cases e : i = k - 1
          · subst e; exact HV.out
          · exact HZ.out i (by omega)
        case measure => simp [intOf]; omega
      · have hq : (((cf p (k - 1) : Nat) : Int) == 0) = false := by simp [hv]
        have HT : Hid ((norm p).length = k) := deg_len (by have := HL.out; omega) (take_norm p k (by have := HL.out; omega) HZ.out (.inr hv))
        clear hcell hv
        go_wp2
        go_ret
        exact ⟨ret_int (by rw [HT.out]), rfl⟩

theorem putTo_full {l : List Nat} (h : Is01 l) : putTo (pk l) l.length = pk l := by
  unfold putTo
  rw [length_pk]
  show _ = (List.range ((l.length + 7) / 8)).map fun j => (byteOf l j : Int)
  apply List.map_congr_left
  intro j hj
  have hj := List.mem_range.1 hj
  show ((pk l)[j]?.getD 0) % 2 ^ (min 8 (l.length - 8 * j)) = (byteOf l j : Int)
  rw [pk_at]
  have h0 := h.cf (8 * j); have h1 := h.cf (8 * j + 1); have h2 := h.cf (8 * j + 2); have h3 := h.cf (8 * j + 3)
  have h4 := h.cf (8 * j + 4); have h5 := h.cf (8 * j + 5); have h6 := h.cf (8 * j + 6); have h7 := h.cf (8 * j + 7)
  have hz : ∀ k, l.length - 8 * j ≤ k → cf l (8 * j + k) = 0 := fun k hk => cf_big _ _ (by omega)
  have hb := byteOf_lt h j
  unfold byteOf at hb ⊢
  rcases (show min 8 (l.length - 8 * j) = 1 ∨ min 8 (l.length - 8 * j) = 2 ∨ min 8 (l.length - 8 * j) = 3 ∨ min 8 (l.length - 8 * j) = 4 ∨ min 8 (l.length - 8 * j) = 5 ∨ min 8 (l.length - 8 * j) = 6 ∨ min 8 (l.length - 8 * j) = 7 ∨ min 8 (l.length - 8 * j) = 8 by omega) with e | e | e | e | e | e | e | e
  · have := hz 1 (by omega); have := hz 2 (by omega); have := hz 3 (by omega); have := hz 4 (by omega); have := hz 5 (by omega); have := hz 6 (by omega); have := hz 7 (by omega); rw [e]; omega
  · have := hz 2 (by omega); have := hz 3 (by omega); have := hz 4 (by omega); have := hz 5 (by omega); have := hz 6 (by omega); have := hz 7 (by omega); rw [e]; omega
  · have := hz 3 (by omega); have := hz 4 (by omega); have := hz 5 (by omega); have := hz 6 (by omega); have := hz 7 (by omega); rw [e]; omega
  · have := hz 4 (by omega); have := hz 5 (by omega); have := hz 6 (by omega); have := hz 7 (by omega); rw [e]; omega
  · have := hz 5 (by omega); have := hz 6 (by omega); have := hz 7 (by omega); rw [e]; omega
  · have := hz 6 (by omega); have := hz 7 (by omega); rw [e]; omega
  · have := hz 7 (by omega); rw [e]; omega
  · rw [e]; omega

set_option maxHeartbeats 1600000 in
set_option maxRecDepth 100000 in
theorem putL_any (c : Option Addr) (L cap' n : Nat) (l : List Nat) (w : World) (hl : Is01 l) (hn : n = (L + 7) / 8) (hr : Row .i64 w c L cap' (ints l)) (hsm : L ≤ 8000) :
    Calls Try.prog 33 #[.slice c L cap'] w fun e w' => Below w.heap.size w w' ∧
      e = .returned (.slice (some ⟨w.heap.size, 0, none⟩) n n) ∧ w'.ownsRow w.heap.size 5 1 (.slice (some ⟨w.heap.size, 0, none⟩) n n) n ((pk l).map (Value.int .u8)) := by
  obtain ⟨i0, hi0, hz0, hz1, hz2⟩ := info_parts Try.info5
  have hmax : n ≤ maxLen := by unfold maxLen; omega
  have HLl : Hid (l.length = L) := by have := hr.hlen; rwa [length_ints] at this
  have HZ : Hid ((pk l).length = n) := by show _ = _; rw [length_pk, HLl.out, hn]
  have hb := isB_pk hl
  have HB : Hid (∀ i, bitI (pk l) i = (cf l i : Int)) := fun i => bitI_pk hl i
  have HF : Hid (putTo (pk l) L = pk l) := by show _ = _; rw [← HLl.out]; exact putTo_full hl
  have HNL : Hid (∀ i, i < L → i < 8 * n) := fun i hi => by omega
  have HNN : Hid (n = (L + 7) / 8) := hn
  have hmk : ∀ w1 : World, w1.ownsRow w.heap.size 5 1 (.slice (some ⟨w.heap.size, 0, none⟩) n n) n (madeCells (Value.int IntKind.u8 0).cells (n * 1)).toList → w.grownBy w1 none →
      w1.ownsRow w.heap.size 5 1 (.slice (some ⟨w.heap.size, 0, none⟩) n n) n ((putTo (pk l) 0).map (Value.int .u8)) ∧ Below w.heap.size w w1 := fun w1 h1 h2 => by
    refine ⟨?_, (Below.refl _ _).grown h2 (Nat.le_refl _) (by simp)⟩
    have e : (madeCells (Value.int IntKind.u8 0).cells (n * 1)).toList = (putTo (pk l) 0).map (Value.int .u8) := by
      rw [putTo_zero, HZ.out, Nat.mul_one]
      simpa [Value.cells] using toList_madeCells_one (Value.int IntKind.u8 0) n
    rw [e] at h1
    exact h1
  generalize pk l = z at *
  clear hn
  go_enter Try.func33, Try.ntmps33
  go_wp2_with (at_make; refine wpList_make_full _ rfl _ _ 22 rfl w.heap.size 5 i0 (.int .u8 0) 1 Try.underlying22 hi0 hz0 hz1 _ _ _ _ n rfl rfl (by have := HNN.out; omega) (by have := HNN.out; omega) (by rw [hz2]; have := HNN.out; omega) hmax (Nat.le_refl _) ?_; intro w1 hown1 hgrow1)
  obtain ⟨hown2, hb2⟩ := hmk w1 hown1 hgrow1
  clear hmk hown1 hgrow1
  go_loopw [4] (fun y wr => ∃ i : Nat, i ≤ L ∧ y = .int .i64 i ∧ wr.ownsRow w.heap.size 5 1 (.slice (some ⟨w.heap.size, 0, none⟩) n n) n ((putTo z i).map (Value.int .u8)) ∧ Below w.heap.size w wr) (fun y _ => L - (intOf y).toNat)
  case atStart => exact ⟨0, Nat.zero_le _, rfl, hown2, hb2⟩
  case round =>
    clear hown2 hb2
    obtain ⟨i, hi, rfl, hown, hnx⟩ := hrel
    by_cases hlt : i < L
    · have hrr := hr.below hnx (Nat.le_refl _)
      obtain ⟨b, off, rfl, hbs, hcell⟩ := hrr.hcell (by omega)
      have hc1 := hcell i hlt
      rw [ints_get, ← HB.out i] at hc1
      clear hcell hrr
      have hbit := bitI_01 z i
      have hi8 : i / 8 < n := by have := HNN.out; omega
      have hcl := owned_cell hown (i / 8) hi8
      have hfz := hown.frozenAt (i / 8)
      go_wp2
      go_loop [5, 6] (fun x y => ∃ k : Nat, k ≤ i % 8 ∧ y = .int .i64 k ∧ x = .int .i64 (2 ^ k)) (fun _ y => i % 8 - (intOf y).toNat)
      case atStart => exact ⟨0, Nat.zero_le _, rfl, rfl⟩
      case round =>
        obtain ⟨k, hk, rfl, rfl⟩ := hrel
        have hp := pow_bd k (by omega)
        by_cases hlt2 : k < i % 8
        · go_wp2
          go_round
          case rel => exact ⟨k + 1, by omega, by go_num, by rw [← pow_step]⟩
          case measure => simp [intOf]; omega
        · have e : k = i % 8 := by omega
          subst e
          go_wp2
          go_region
          all_goals go_wp2
          have R := rel_put hb HZ.out (HNL.out i hlt) hown hnx
          go_roundw
          case rel => exact ⟨i + 1, by omega, by go_num, R.1, R.2⟩
          case measure => simp [intOf]; omega
    · have e : i = L := by omega
      subst e
      rw [HF.out] at hown
      go_wp2
      go_ret
      exact ⟨hnx, rfl, hown⟩

theorem length_addL (p q : List Nat) : (addL p q).length = max p.length q.length := by
  induction p generalizing q with
  | nil => show q.length = max 0 q.length; omega
  | cons x p ih =>
    cases q with
    | nil => show (x :: p).length = max (x :: p).length 0; omega
    | cons y q => show (addL p q).length + 1 = _; rw [ih]; simp only [List.length_cons]; omega
theorem sumTo_end (p q : List Nat) : sumTo p q (max p.length q.length) = addL p q := by
  apply List.ext_getElem
  · rw [length_sumTo, length_addL]
  · intro i h1 h2
    have := cf_addL p q i
    unfold cf at this
    rw [List.getElem?_eq_getElem h2] at this
    simp only [Option.getD_some] at this
    rw [this]
    simp only [sumTo, List.getElem_map, List.getElem_range]
    rfl
theorem xor_int {a b : Nat} (ha : a < 2) (hb : b < 2) : ((a ^^^ b : Nat) : Int) = ((a : Int) + (b : Int)) % 2 := by rw [xor_01 ha hb]; omega

theorem drop_cons (p : List Nat) (k : Nat) (h : k < p.length) : p.drop k = cf p k :: p.drop (k + 1) := by
  rw [List.drop_eq_getElem_cons h]
  unfold cf
  rw [List.getElem?_eq_getElem h]; rfl

set_option maxHeartbeats 1600000 in
set_option maxRecDepth 100000 in
theorem refVal_any (a : Option Addr) (len cap : Nat) (p : List Nat) (x : Nat) (w : World) (hr : Row .i64 w a len cap (ints p)) (hp : Is01 p) (hx : x < 8192) (hsm : len ≤ 10000) :
    Calls Try.prog 35 #[.slice a len cap, .int .i64 x] w fun e w' => e = .returned (.int .i64 (evl p x : Nat)) ∧ w = w' := by
  have HL : Hid (p.length = len) := by have := hr.hlen; rwa [length_ints] at this
  go_enter Try.func35, Try.ntmps35
  go_wp2
  go_loop [5, 6] (fun o y => ∃ k : Nat, k ≤ len ∧ y = .int .i64 ((k : Int) - 1) ∧ o = .int .i64 (evl (p.drop k) x : Nat)) (fun _ y => (intOf y + 1).toNat)
  case atStart => exact ⟨len, Nat.le_refl _, rfl, by rw [List.drop_of_length_le (by have := HL.out; omega)]; rfl⟩
  case round =>
    obtain ⟨k, hk, rfl, rfl⟩ := hrel
    by_cases h0 : k = 0
    · subst h0
      go_wp2
      go_ret
      exact ⟨rfl, rfl⟩
    · obtain ⟨b, off, rfl, hbs, hcell⟩ := hr.hcell (by omega)
      have hc1 := hcell (k - 1) (by omega)
      rw [ints_get] at hc1
      clear hcell
      have hto : ((k : Int) - 1).toNat = k - 1 := by omega
      have hk0 : (0 : Int) ≤ (k : Int) - 1 := by omega
      have hk1 : (k : Int) - 1 < (len : Int) := by omega
      have hdp : IsP (p.drop k) := fun y hy => hp.isP y (List.mem_of_mem_drop hy)
      have c1 := evl_lt hdp x hx
      have c2 := gmul_lt (evl (p.drop k) x) x c1
      have HS : Hid (evl (p.drop (k - 1)) x = cf p (k - 1) ^^^ gmul (evl (p.drop k) x) x) := by
        show _ = _
        rw [drop_cons p (k - 1) (by have := HL.out; omega), show k - 1 + 1 = k from by omega, gmul_comm _ x c1 hx]
        rfl
      have c3 := hp.cf (k - 1)
      generalize evl (p.drop k) x = o at *
      by_cases hv : cf p (k - 1) = 1
      · have hq : (((cf p (k - 1) : Nat) : Int) == 1) = true := by simp [hv]
        have HV : Hid (evl (p.drop (k - 1)) x = gmul o x ^^^ 1) := by show _ = _; rw [HS.out, hv, Nat.xor_comm]
        clear hv HS
        go_wp2_with fail
        refine (refMul_any o x _ c1 hx).mono ?_
        rintro e w' ⟨rfl, rfl⟩
        go_wp2_with fail
        refine (sum_any (gmul o x) 1 _ (by omega) (by omega)).mono ?_
        rintro e w' ⟨rfl, rfl⟩
        go_wp2_with fail
        go_round
        case rel => exact ⟨k - 1, by omega, by go_num, by rw [HV.out]⟩
        case measure => simp [intOf]; omega
      · have hq : (((cf p (k - 1) : Nat) : Int) == 1) = false := by simp; omega
        have HV : Hid (evl (p.drop (k - 1)) x = gmul o x) := by show _ = _; rw [HS.out, show cf p (k - 1) = 0 from by omega, Nat.zero_xor]
        clear hv HS
        go_wp2_with fail
        refine (refMul_any o x _ c1 hx).mono ?_
        rintro e w' ⟨rfl, rfl⟩
        go_wp2_with fail
        go_round
        case rel => exact ⟨k - 1, by omega, by go_num, by rw [HV.out]⟩
        case measure => simp [intOf]; omega

end Go.Proofs.Ytjiaomkjebbkpaa
