/-
  The code of layer 3 (poly), as it landed: product, quotient, and from them Mul and Div return what the face asks.
-/
import Derived.Test.YtjiaomkjebbkpabPolyCode2
namespace Go.Proofs.Ytjiaomkjebbkpab
open Go.RowKit
set_option linter.unusedVariables false

set_option maxHeartbeats 1600000 in
set_option maxRecDepth 100000 in
theorem productAt_any (bx by_ B : Nat) (a c : Option Addr) (len cap len' cap' : Nat) (p q : List Nat) (k : Nat) (w : World) (hp : IsP p) (hq : IsP q) (hk : k ≤ 1000000) (h : Boxed1 bx B w a len cap p) (h' : Boxed1 by_ B w c len' cap' q) (hsm : len ≤ 100000) (hsm' : len' ≤ 100000) :
    Calls Try.prog 60 #[.int .i64 k, .pointer (some ⟨by_, 0, none⟩), .pointer (some ⟨bx, 0, none⟩)] w fun e w' => e = .returned (.int .i64 (cf (mulL p q) k : Nat)) ∧ w.grownBy w' none := by
  have HL : Hid (p.length = len) := by have := h.lrow.row.hlen; rwa [length_ints] at this
  have HL' : Hid (q.length = len') := by have := h'.lrow.row.hlen; rwa [length_ints] at this
  have HLO : ∃ lo : Nat, (lo = 0 ∧ k + 1 ≤ len') ∨ (lo = k + 1 - len' ∧ len' < k + 1) := by
    by_cases hh : k + 1 ≤ len'
    · exact ⟨0, .inl ⟨rfl, hh⟩⟩
    · exact ⟨_, .inr ⟨rfl, by omega⟩⟩
  obtain ⟨lo, hlo⟩ := HLO
  have HZ : Hid (cv p q k lo = 0) := cv_low p q k lo fun j hj => by have := HL'.out; omega
  have hlk : lo ≤ k + 1 := by omega
  have hll : k < lo + len' ∨ lo = k + 1 := by omega
  have hbox := h.box
  have hbox' := h'.box
  rcases hlo with ⟨hl1, hl2⟩ | ⟨hl1, hl2⟩
  all_goals
    go_enter Try.func60, Try.ntmps60
    go_wp2
    go_loopw [5, 6] (fun o y wr => ∃ i : Nat, lo ≤ i ∧ i ≤ k + 1 ∧ y = .int .i64 i ∧ o = .int .i64 (cv p q k i : Nat) ∧ w.grownBy wr none) (fun _ y _ => (k + 1 - intOf y).toNat)
    case atStart => exact ⟨lo, Nat.le_refl _, hlk, by subst hl1; go_num, by rw [HZ.out]; rfl, World.grownBy.refl _ _⟩
    case round =>
      obtain ⟨i, hi1, hi2, rfl, rfl, hg⟩ := hrel
      have hB1 := h.grown hg
      have hB2 := h'.grown hg
      have hb1 := hB1.box
      have hb2 := hB2.box
      by_cases hik : i ≤ k
      · by_cases hil : i < len
        · obtain ⟨b, off, rfl, hbs, hcell⟩ := hB1.lrow.row.hcell (by omega)
          obtain ⟨b', off', rfl, hbs', hcell'⟩ := hB2.lrow.row.hcell (by omega)
          have hc1 := hcell i hil
          have hc2 := hcell' (k - i) (by omega)
          rw [ints_get] at hc1 hc2
          clear hcell hcell' hB1 hB2 hbox hbox' HZ
          have c1 := cf_lt hp i
          have c2 := cf_lt hq (k - i)
          have c3 := gmul_lt (cf p i) (cf q (k - i)) c1
          have c4 := cv_lt q hp k i
          have HS : Hid (cv p q k (i + 1) = cv p q k i ^^^ gmul (cf p i) (cf q (k - i))) := rfl
          generalize cv p q k i = o at *
          have e1 : IntKind.i64.wrap ((k : Int) - (i : Int)) = (k : Int) - (i : Int) := by rw [IntKind.wrap_i64]; omega
          have e2 : ((k : Int) - (i : Int)).toNat = k - i := by omega
          have e3 : (0 : Int) ≤ (k : Int) - (i : Int) := by omega
          have e4 : (k : Int) - (i : Int) < (len' : Int) := by omega
          have e5 : (i : Int) < (len : Int) := by omega
          have e6 : (i : Int) ≤ (k : Int) := by omega
          go_wp2
          go_quiet (first | (go_at_call 48; with_reducible exact quiet_eq (times_any (cf p i) (cf q (k - i)) _ c1 c2)))
          go_wp2
          go_roundw
          case rel => exact ⟨i + 1, by omega, by omega, by go_num, by rw [HS.out, xor_i64 _ _ (by omega) (by omega)], hg.trans (grown_drewN _ _ _)⟩
          case measure => simp [intOf]; omega
        · have HE : Hid (cv p q k i = cf (mulL p q) k) := cv_stop p q hq k i hi2 (.inr (by have := HL.out; omega))
          have e5 : (len : Int) ≤ (i : Int) := by omega
          have e6 : (i : Int) ≤ (k : Int) := by omega
          go_wp2
          go_ret
          exact ⟨ret_int (by rw [HE.out]), hg⟩
      · have HE : Hid (cv p q k i = cf (mulL p q) k) := cv_stop p q hq k i hi2 (.inl (by omega))
        have e6 : (k : Int) < (i : Int) := by omega
        go_wp2
        go_ret
        exact ⟨ret_int (by rw [HE.out]), hg⟩
theorem product_asks (bx by_ B : Nat) (a c : Option Addr) (len cap len' cap' : Nat) (p q : List Nat) (hp : IsP p) (hq : IsP q) (hbx : bx < B) (hby : by_ < B) (hsm : len ≤ 100000) (hsm' : len' ≤ 100000) (n : Nat) (hn : n ≤ 100000) :
    Asks 60 #[.pointer (some ⟨by_, 0, none⟩), .pointer (some ⟨bx, 0, none⟩)] n (cf (mulL p q)) B none (fun _ w => Boxed1 bx B w a len cap p ∧ Boxed1 by_ B w c len' cap' q) where
  body := fun _ _ => rfl
  call := fun k w hk hB hI => (productAt_any bx by_ B a c len cap len' cap' p q k w hp hq (by omega) hI.1 hI.2 hsm hsm').mono fun e w' ⟨h1, h2⟩ => ⟨h1, ⟨hI.1.grown h2, hI.2.grown h2⟩, h2⟩
  keep := fun k w w' hI hb => ⟨hI.1.below hb hbx, hI.2.below hb hby⟩
  low := by simp

set_option maxHeartbeats 800000 in
set_option maxRecDepth 100000 in
theorem productP_any (a c : Option Addr) (len cap len' cap' : Nat) (p q : List Nat) (w : World) (hr : Row .i64 w a len cap (ints p)) (hr' : Row .i64 w c len' cap' (ints q)) (hp : IsP p) (hq : IsP q) (hsm : len ≤ 10000) (hsm' : len' ≤ 10000) :
    Calls Try.prog 53 #[.slice a len cap, .slice c len' cap'] w fun e w' => ∃ v, e = .returned v ∧ w'.ownsRow w.heap.size 3 1 v (norm (mulL p q)).length ((ints (norm (mulL p q))).map (Value.int .i64)) ∧ Below w.heap.size w w' := by
  have HL : Hid (p.length = len) := by have := hr.hlen; rwa [length_ints] at this
  have HL' : Hid (q.length = len') := by have := hr'.hlen; rwa [length_ints] at this
  have HB : Hid _ := boxes w 30 a c len cap len' cap' p q hr hr'
  go_enter Try.func53, Try.ntmps53
  go_wp2_with fail
  refine (laid_any _ _ ((len : Int) + (len' : Int) - 1) (cf (mulL p q)) (w.heap.size + 2) none _ _ (product_asks w.heap.size (w.heap.size + 1) (w.heap.size + 2) a c len cap len' cap' p q hp hq (by omega) (by omega) (by omega) (by omega) _ (by omega)) HB.out (by simp) (by omega) (by omega)).mono ?_
  rintro e w1 ⟨v, rfl, hown, _, hgr⟩
  rw [tabL_mul p q hq _ (by have := HL.out; have := HL'.out; omega)] at hown
  go_wp2
  go_ret
  exact ⟨_, rfl, owns_base hown (by omega), btrans (below_two _ _ _) (below_of_grown hgr (Nat.le_refl _) (by simp))⟩

theorem norm_mul {p q : List Nat} (hp : IsP p) (hq : IsP q) : norm (mulL (norm p) (norm q)) = norm (mulL p q) :=
  norm_ext ((mulL_right _ (norm_eqv q)).trans (mulL_left q (isP_norm hp) hp hq (norm_eqv p)))
set_option maxHeartbeats 1600000 in
set_option maxRecDepth 100000 in
theorem pmul_own (a c : Option Addr) (len cap len' cap' : Nat) (p q : List Nat) (w : World) (hr : Row .i64 w a len cap (ints p)) (hr' : Row .i64 w c len' cap' (ints q)) (hsm : len ≤ 10000) (hsm' : len' ≤ 10000) (hp : IsP p) (hq : IsP q) :
    Calls Try.prog 42 #[.slice a len cap, .slice c len' cap'] w fun e w' => ∃ v, e = .returned (.tuple #[v, .int .i64 0]) ∧ w'.ownsRow w.heap.size 3 1 v (norm (mulL p q)).length ((ints (norm (mulL p q))).map (Value.int .i64)) ∧ Below w.heap.size w w' := by
  have hl1 : (norm p).length ≤ 10000 := by have := norm_length_le p; have := hr.hlen; rw [length_ints] at this; omega
  have hl2 : (norm q).length ≤ 10000 := by have := norm_length_le q; have := hr'.hlen; rw [length_ints] at this; omega
  go_enter Try.func42, Try.ntmps42
  go_wp2_with fail
  refine (elements_any _ _ _ _ _ hr).mono ?_
  rintro e w' ⟨rfl, rfl⟩
  rw [allE_ints hp]
  go_wp2_with fail
  refine (elements_any _ _ _ _ _ hr').mono ?_
  rintro e w' ⟨rfl, rfl⟩
  rw [allE_ints hq]
  go_wp2_with fail
  refine (normal_any _ _ _ p _ hr (by omega)).mono ?_
  rintro e w1 ⟨v1, rfl, hown1, hb1⟩
  obtain ⟨a1, cp1, rfl, hrow1⟩ := row_of_owns hown1
  replace hr' := hr'.below hb1 (Nat.le_refl _)
  clear hown1
  go_wp2_with fail
  refine (normal_any _ _ _ q _ hr' (by omega)).mono ?_
  rintro e w2 ⟨v2, rfl, hown2, hb2⟩
  obtain ⟨a2, cp2, rfl, hrow2⟩ := row_of_owns hown2
  replace hrow1 := hrow1.below hb2 (Nat.le_refl _)
  clear hown2
  go_wp2_with fail
  refine (productP_any _ _ _ _ _ _ (norm p) (norm q) _ hrow1 hrow2 (isP_norm hp) (isP_norm hq) hl1 hl2).mono ?_
  rintro e w3 ⟨v3, rfl, hown3, hb3⟩
  rw [norm_mul hp hq] at hown3
  go_wp2_with fail
  go_ret2
  exact ⟨_, rfl, owns_base hown3 (Nat.le_trans hb1.size hb2.size), btrans hb1 (btrans hb2 hb3)⟩
set_option maxHeartbeats 1600000 in
set_option maxRecDepth 100000 in
theorem pmulC : PMulC where
  no := by
    intro a c len cap len' cap' zs ys w hr hr' hsm hsm' hz
    cases h1 : allE zs
    · go_enter Try.func42, Try.ntmps42
      go_wp2_with fail
      refine (elements_any _ _ _ zs _ hr).mono ?_
      rintro e w' ⟨rfl, rfl⟩
      rw [h1]
      go_wp2_with fail
      go_ret2
      exact hands_nil _ _ _ (Below.refl _ _)
    · have h2 : allE ys = false := by rw [h1] at hz; simpa using hz
      go_enter Try.func42, Try.ntmps42
      go_wp2_with fail
      refine (elements_any _ _ _ zs _ hr).mono ?_
      rintro e w' ⟨rfl, rfl⟩
      rw [h1]
      go_wp2_with fail
      refine (elements_any _ _ _ ys _ hr').mono ?_
      rintro e w' ⟨rfl, rfl⟩
      rw [h2]
      go_wp2_with fail
      go_ret2
      exact hands_nil _ _ _ (Below.refl _ _)
  yes := fun a c len cap len' cap' p q w hr hr' hsm hsm' hp hq => (pmul_own a c len cap len' cap' p q w hr hr' hsm hsm' hp hq).mono fun e w' ⟨v, h1, h2, h3⟩ => by subst h1; exact hands_own _ h2 h3

end Go.Proofs.Ytjiaomkjebbkpab
