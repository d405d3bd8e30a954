/-
  The code of layer 4 (bpoly), as it landed: coefficient, Degree, normal, addRaised, and from them Add, Mul, Mod return what the face asks.
-/
import Derived.Test.YtjiaomkjebbkpabBpolyFace
import Derived.Test.YtjiaomkjebbkpabBpolyCodePlain
import Derived.WalkMore
namespace Go.Proofs.Ytjiaomkjebbkpab
open Go.RowKit
set_option linter.unusedVariables false

set_option maxHeartbeats 400000 in
theorem bcoef_any (a : Option Addr) (len cap : Nat) (i : Nat) (z : List Int) (w : World) (hr : Row .u8 w a len cap z) (hb : IsB z) (hsm : len ≤ 1000) (hi : i ≤ 100000) :
    Calls Try.prog 39 #[.slice a len cap, .int .i64 i] w fun e w' => e = .returned (.int .i64 (bitI z i)) ∧ w = w' := by
  by_cases h : i < 8 * len
  · go_enter Try.func39, Try.ntmps39
    go_wp2_with fail
    refine (at_yes _ _ _ i z _ hr hb h hsm).mono ?_
    rintro e w' ⟨rfl, rfl⟩
    go_wp2_with fail
    go_ret
    exact ⟨rfl, rfl⟩
  · have hh : hasB len i = false := by unfold hasB; rw [decide_eq_false_iff_not]; omega
    have hz : bitI z i = 0 := bitI_past z i (by have := hr.hlen; omega)
    rw [hz]
    go_enter Try.func39, Try.ntmps39
    go_wp2_with fail
    refine (at_no _ _ _ (i : Int) _ (by unfold maxLen; omega) (by omega) (by omega) hh).mono ?_
    rintro e w' ⟨rfl, rfl⟩
    go_wp2_with fail
    go_ret
    exact ⟨rfl, rfl⟩

theorem deg_len' {p : List Nat} {k : Nat} (h : ∀ i, k ≤ i → cf p i = 0) (h1 : k = 0 ∨ cf p (k - 1) ≠ 0) : (norm p).length = k := by
  have hle := norm_len_le p k h
  rcases h1 with rfl | h1
  · omega
  · rcases Nat.lt_or_ge (k - 1) (norm p).length with hh | hh
    · by_cases e : k = 0
      · omega
      · omega
    · exact absurd (norm_above p _ hh) h1

set_option maxHeartbeats 800000 in
theorem bdeg_any (a : Option Addr) (len cap : Nat) (z : List Int) (w : World) (hr : Row .u8 w a len cap z) (hb : IsB z) (hsm : len ≤ 1000) :
    Calls Try.prog 37 #[.slice a len cap] w fun e w' => e = .returned (.int .i64 (((norm (bts z)).length : Int) - 1)) ∧ w = w' := by
  have HL : Hid (z.length = len) := hr.hlen
  go_enter Try.func37, Try.ntmps37
  go_wp2
  go_loop [3] (fun y => ∃ k : Nat, k ≤ 8 * len ∧ y = .int .i64 ((k : Int) - 1) ∧ ∀ i, k ≤ i → cf (bts z) i = 0) (fun y => (intOf y + 1).toNat)
  case atStart => exact ⟨8 * len, Nat.le_refl _, by go_num, fun i hi => cf_big _ i (by rw [length_bts, HL.out]; omega)⟩
  case round =>
    obtain ⟨k, hk, rfl, hz0'⟩ := hrel
    have HZ : Hid (∀ i, k ≤ i → cf (bts z) i = 0) := hz0'
    clear hz0'
    cases k with
    | zero =>
      have HT : Hid ((norm (bts z)).length = 0) := deg_len' HZ.out (.inl rfl)
      go_wp2
      go_ret
      exact ⟨ret_int (by rw [HT.out]; rfl), rfl⟩
    | succ m =>
      rw [show ((m + 1 : Nat) : Int) - 1 = (m : Int) from by omega]
      have HV : Hid ((cf (bts z) m : Int) = bitI z m) := cf_bts_int z m
      have h01 := bitI_01 z m
      go_wp2_with fail
      refine (bcoef_any _ _ _ m z _ hr hb hsm (by omega)).mono ?_
      rintro e w' ⟨rfl, rfl⟩
      rcases h01 with h0 | h0
      · have HC : Hid (cf (bts z) m = 0) := by show _ = _; have := HV.out; omega
        rw [h0]
        go_wp2
        go_round
        case rel =>
          refine ⟨m, by omega, by go_num, fun i hi => ?_⟩
          by_cases e : i = m
          · subst e; exact HC.out
          · exact HZ.out i (by omega)
        case measure => simp [intOf]
      · have HT : Hid ((norm (bts z)).length = m + 1) := deg_len' HZ.out (.inr (by show cf (bts z) m ≠ 0; have := HV.out; omega))
        rw [h0]
        go_wp2
        go_ret
        exact ⟨ret_int (by rw [HT.out]; omega), rfl⟩
theorem bdegC : BDegC := fun a len cap z w hr hb hsm => (bdeg_any a len cap z w hr hb (by omega)).mono fun e w' ⟨h1, h2⟩ => ⟨h1, by rw [← h2]; exact Below.refl _ _⟩

theorem take_nb {z : List Int} (h : IsB z) : z.take (nb (bts z)).length = nb (bts z) := by
  have hle : (nb (bts z)).length ≤ z.length := by have := norm_length_le (bts z); rw [length_bts] at this; rw [length_nb]; omega
  refine bytes_ext (fun n hn => h n (List.mem_of_mem_take hn)) (isB_nb (is01_bts z)) (by rw [List.length_take]; omega) fun i hi => ?_
  rw [List.length_take, Nat.min_eq_left hle] at hi
  rw [← cf_bts_int (nb (bts z)), bts_nb (is01_bts z) i, cf_bts_int]
  unfold bitI
  rw [List.getElem?_take, if_pos (by omega)]
theorem bnb_len_le (z : List Int) : (nb (bts z)).length ≤ z.length := by have := norm_length_le (bts z); rw [length_bts] at this; rw [length_nb]; omega

set_option maxHeartbeats 400000 in
theorem bnormal_any (a : Option Addr) (len cap : Nat) (z : List Int) (w : World) (hr : Row .u8 w a len cap z) (hb : IsB z) (hsm : len ≤ 1000) :
    Calls Try.prog 36 #[.slice a len cap] w fun e w' => e = .returned (.slice a (nb (bts z)).length cap) ∧ w = w' := by
  have hc := hr.hcap
  have hm := hr.hmax
  have hnil := hr.hnil
  unfold maxLen at hm
  have hd := bdeg_any a len cap z w hr hb hsm
  have hle := bnb_len_le z
  rw [hr.hlen] at hle
  rw [length_nb] at hle ⊢
  clear hr
  generalize (norm (bts z)).length = d at *
  have e1 : IntKind.i64.wrap ((d : Int) - 1 + 8) = (d : Int) - 1 + 8 := by rw [IntKind.wrap_i64]; omega
  have e2 : ((d : Int) - 1 + 8).tdiv 8 = ((d + 7) / 8 : Nat) := by rw [Int.tdiv_eq_ediv_of_nonneg (by omega)]; omega
  go_enter Try.func36, Try.ntmps36
  go_wp2_with fail
  refine hd.mono ?_
  rintro e w' ⟨rfl, rfl⟩
  go_wp2_with fail
  go_ret
  exact ⟨rfl, rfl⟩

/-- What the first store of a round leaves. -/
theorem raise_set {k : IntKind} {e : TypeId} {w wr : World} {B g n cap q : Nat} {zs : List Int} {x : Int} (hB : B ≤ g) (hown : wr.ownsRow B e 1 (.slice (some ⟨g, 0, none⟩) n cap) n (zs.map (Value.int k))) (hnx : Below B w wr) :
    (wr.setCell ⟨g, q, none⟩ (.int k x)).drew.ownsRow B e 1 (.slice (some ⟨g, 0, none⟩) n cap) n ((zs.set q x).map (Value.int k)) ∧ Below B w (wr.setCell ⟨g, q, none⟩ (.int k x)).drew := by
  have R := owned_set (q := q) (x := x) hB hown hnx
  exact ⟨R.1.drew, R.2.drew⟩
set_option maxHeartbeats 1600000 in
set_option maxRecDepth 100000 in
theorem raised_any (w0 : World) (B g n cap : Nat) (c : Option Addr) (len' cap' : Nat) (z y : List Int) (s : Nat) (w : World) (hB : B ≤ g) (hBw : w0.heap.size ≤ B) (hown : w.ownsRow B 5 1 (.slice (some ⟨g, 0, none⟩) n cap) n (z.map (Value.int .u8)))
    (hnx : Below B w0 w) (hz : IsB z) (hr : Row .u8 w0 c len' cap' y) (hy : IsB y) (hs : s ≤ 100000) (h1 : s / 8 + len' ≤ n) (h2 : (norm (bts y)).length + s ≤ 8 * n) (hn : n ≤ 1000) :
    Calls Try.prog 35 #[.slice (some ⟨g, 0, none⟩) n cap, .slice c len' cap', .int .i64 s] w fun e w' => (∃ v, e = .returned v) ∧ w'.ownsRow B 5 1 (.slice (some ⟨g, 0, none⟩) n cap) n ((raiseTo z y s len').map (Value.int .u8)) ∧ Below B w0 w' := by
  have HL : Hid (y.length = len') := hr.hlen
  have HF : Hid (∀ k, k < len' → hiPart (y[k]?.getD 0) (s % 8) ≠ 0 → s / 8 + k + 1 < n) := fun k hk hne => raise_fit hy s n k (by rw [HL.out]; exact h1) h2 (by rw [HL.out]; exact hk) hne
  clear h2
  obtain ⟨f, hf⟩ : ∃ f, f = s / 8 := ⟨_, rfl⟩
  obtain ⟨b, hb⟩ : ∃ b, b = s % 8 := ⟨_, rfl⟩
  have hb8 : b < 8 := by omega
  have HS : Hid (∀ k, raiseTo z y s (k + 1) = addByte (raiseTo z y s k) (f + k) b (y[k]?.getD 0)) := fun k => by subst hf hb; rfl
  have HF' : Hid (∀ k, k < len' → hiPart (y[k]?.getD 0) b ≠ 0 → f + k + 1 < n) := by subst hf hb; exact HF.out
  have e1 : (s : Int).tdiv 8 = (f : Int) := by rw [Int.tdiv_eq_ediv_of_nonneg (by omega)]; omega
  have e2 : (s : Int).tmod 8 = (b : Int) := by rw [Int.tmod_eq_emod_of_nonneg (by omega)]; omega
  have e3 : (s : Int) / 8 = (f : Int) := by omega
  have e4 : (s : Int) % 8 = (b : Int) := by omega
  have hfn : f + len' ≤ n := by omega
  clear hf hb HF h1
  go_enter Try.func35, Try.ntmps35
  go_wp2
  go_loopw [17] (fun yv wr => ∃ i : Nat, i ≤ len' ∧ yv = .int .i64 i ∧ wr.ownsRow B 5 1 (.slice (some ⟨g, 0, none⟩) n cap) n ((raiseTo z y s i).map (Value.int .u8)) ∧ Below B w0 wr) (fun yv _ => len' - (intOf yv).toNat)
  case atStart => exact ⟨0, Nat.zero_le _, rfl, hown, hnx⟩
  case round =>
    clear hown hnx
    obtain ⟨i, hi, rfl, hown, hnx⟩ := hrel
    by_cases hlt : i < len'
    · have hrr := hr.below hnx hBw
      obtain ⟨bb, off, rfl, hbs, hcell⟩ := hrr.hcell (by omega)
      have hc1 := hcell i hlt
      clear hcell hrr
      have hyi := hy.idx i
      have hcl := owned_cell hown (f + i) (by omega)
      have hfz := hown.frozenAt (f + i)
      have HSi : Hid (raiseTo z y s (i + 1) = addByte (raiseTo z y s i) (f + i) b (y[i]?.getD 0)) := HS.out i
      have HFi : Hid (hiPart (y[i]?.getD 0) b ≠ 0 → f + i + 1 < n) := HF'.out i hlt
      generalize y[i]?.getD 0 = cc at *
      generalize raiseTo z y s i = zr at *
      have i1 : IntKind.i64.wrap ((f : Int) + (i : Int)) = (f : Int) + (i : Int) := by rw [IntKind.wrap_i64]; omega
      have i2 : ((f : Int) + (i : Int)).toNat = f + i := by omega
      have i3 : (0 : Int) ≤ (f : Int) + (i : Int) := by omega
      have i4 : (f : Int) + (i : Int) < (n : Int) := by omega
      have i5 : f + i < n := by omega
      have i6 : (i : Int) < (len' : Int) := by omega
      have j1 : IntKind.i64.wrap (8 - (b : Int)) = 8 - (b : Int) := by rw [IntKind.wrap_i64]; omega
      have j2 : (8 - (b : Int)).toNat = 8 - b := by omega
      have j3 : (0 : Int) ≤ 8 - (b : Int) := by omega
      by_cases hh : cc / 2 ^ (8 - b) = 0
      · have R := raise_set (q := f + i) (x := bits BinOp.xor IntKind.u8 (zr[f + i]?.getD 0) (cc * 2 ^ b % 256)) hB hown hnx
        have HE : Hid (zr.set (f + i) (bits BinOp.xor IntKind.u8 (zr[f + i]?.getD 0) (cc * 2 ^ b % 256)) = raiseTo z y s (i + 1)) := by
          show _ = _
          rw [HSi.out]
          unfold addByte
          rw [if_pos (show hiPart cc b = 0 from hh)]
          rfl
        rw [HE.out] at R
        have HR : Hid _ := R
        clear R hown hnx
        have hq : (cc / 2 ^ (8 - b) != 0) = false := by simp [hh]
        go_wp2
        go_region_with fail
        all_goals
          go_wp2
          go_roundw
          case rel => exact ⟨i + 1, by omega, by go_num, HR.out.1, HR.out.2⟩
          case measure => simp [intOf]; omega
      · have hfit : f + i + 1 < n := HFi.out hh
        have R1 := raise_set (q := f + i) (x := bits BinOp.xor IntKind.u8 (zr[f + i]?.getD 0) (cc * 2 ^ b % 256)) hB hown hnx
        have R := owned_set (q := f + i + 1) (x := bits BinOp.xor IntKind.u8 (zr[f + i + 1]?.getD 0) (cc / 2 ^ (8 - b))) hB R1.1 R1.2
        have HE : Hid ((zr.set (f + i) (bits BinOp.xor IntKind.u8 (zr[f + i]?.getD 0) (cc * 2 ^ b % 256))).set (f + i + 1) (bits BinOp.xor IntKind.u8 (zr[f + i + 1]?.getD 0) (cc / 2 ^ (8 - b))) = raiseTo z y s (i + 1)) := by
          show _ = _
          rw [HSi.out]
          unfold addByte
          rw [if_neg (show ¬ hiPart cc b = 0 from hh)]
          unfold xorAt loPart hiPart
          rw [List.getElem?_set_ne (show f + i ≠ f + i + 1 by omega)]
        rw [HE.out] at R
        have HR : Hid _ := R
        have hcl2 := owned_cell hown (f + i + 1) hfit
        have hfz2 := hown.frozenAt (f + i + 1)
        clear R R1 hown hnx
        have hq : (cc / 2 ^ (8 - b) != 0) = true := by simp [hh]
        have k1 : IntKind.i64.wrap ((f : Int) + (i : Int) + 1) = (f : Int) + (i : Int) + 1 := by rw [IntKind.wrap_i64]; omega
        have k2 : ((f : Int) + (i : Int) + 1).toNat = f + i + 1 := by omega
        have k3 : (0 : Int) ≤ (f : Int) + (i : Int) + 1 := by omega
        have k4 : (f : Int) + (i : Int) + 1 < (n : Int) := by omega
        go_wp2
        go_region_with fail
        all_goals
          go_wp2
          go_roundw
          case rel => exact ⟨i + 1, by omega, by go_num, HR.out.1, HR.out.2⟩
          case measure => simp [intOf]; omega
    · have e : i = len' := by omega
      subst e
      go_wp2
      go_end0
      exact ⟨⟨_, rfl⟩, hown, hnx⟩

end Go.Proofs.Ytjiaomkjebbkpab
