/-
  Layer 15's laws: the walk of NumsOrders. (Written by tools/gen/num_laws.py.)
-/
import Derived.Test.YtcibpnikaemhlaaNumFace
import Derived.Lib.Strings
import Derived.WideShapes
namespace Go.Proofs.Ytcibpnikaemhlaa.N
open Go.RowKit
set_option linter.unusedVariables false
set_option maxRecDepth 8192

theorem vL_cons15 (x : Nat) (l : List Nat) : vL (x :: l) = x + 256 * vL l := by
  have e : ∀ n, vTo (dg (x :: l)) (n + 1) = x + 256 * vTo (dg l) n := by
    intro n
    induction n with
    | zero => simp [vTo, dg]
    | succ n ih =>
      rw [show vTo (dg (x :: l)) (n + 1 + 1) = vTo (dg (x :: l)) (n + 1) + dg (x :: l) (n + 1) * 256 ^ (n + 1) from rfl, ih]
      rw [show vTo (dg l) (n + 1) = vTo (dg l) n + dg l n * 256 ^ n from rfl, Nat.mul_add, show dg (x :: l) (n + 1) = dg l n from by simp [dg], Nat.pow_succ, Nat.add_assoc]
      congr 2
      simp only [Nat.mul_comm, Nat.mul_assoc]
  exact e l.length
theorem cmp_neg (a b : Nat) : cmpN b a = -(cmpN a b) := by
  unfold cmpN
  rcases Nat.lt_trichotomy a b with h | h | h
  · rw [if_neg (by omega), if_pos h, if_pos h]; rfl
  · subst h; simp
  · rw [if_pos h, if_neg (by omega), if_pos h]
theorem cmp_add (a b c : Nat) : cmpN (a + c) (b + c) = cmpN a b := by
  unfold cmpN
  simp only [Nat.add_lt_add_iff_right]
theorem cmp_order (a b c : Nat) : ¬ cmpN a b ≤ 0 ∨ (cmpN a b ≤ 0 ∧ ¬ cmpN b c ≤ 0) ∨ (cmpN a b ≤ 0 ∧ cmpN b c ≤ 0 ∧ ¬ 0 < cmpN a c) := by
  have h1 := cmp_le (a := a) (b := b)
  have h2 := cmp_le (a := b) (b := c)
  have h3 := cmp_le (a := a) (b := c)
  omega
theorem cmp_eq (a b : Nat) : cmpN a b = 0 ↔ a = b := by
  unfold cmpN
  rcases Nat.lt_trichotomy a b with h | h | h
  · rw [if_pos h]; simp; omega
  · subst h; simp
  · rw [if_neg (by omega), if_pos h]; simp; omega
theorem str_cmp (a b : Nat) : ((strOfNums (nI (nb a))).toList == (strOfNums (nI (nb b))).toList) = (cmpN a b == 0) := by
  rw [Bool.eq_iff_iff, beq_iff_eq, beq_iff_eq, cmp_eq]
  constructor
  · intro h
    refine nb_inj (nI_inj (strOfNums_inj (dig_nb a).isB (dig_nb b).isB ?_))
    rw [Lib.toList_data, Lib.toList_data] at h
    exact WideShapes.bytes_inj h
  · intro h; rw [h]
theorem len_sub (a b : Nat) : (((nb (a - b)).length : Int) == 0) = decide (cmpN a b ≤ 0) := by
  rw [Bool.eq_iff_iff, beq_iff_eq, decide_eq_true_iff, cmp_le]
  have h := nb_nil (v := a - b)
  omega
theorem nb_shift {a : Nat} (h : ¬ a = 0) : nb (a * 256) = 0 :: nb a := by
  have hl : (nb a).length ≠ 0 := mt nb_nil.1 h
  refine nb_of ⟨?_, fun _ => ?_⟩ ?_
  · intro x hx
    rcases List.mem_cons.1 hx with rfl | hx
    · decide
    · exact dig_nb a x hx
  · have h1 := (nrm_nb a).top hl
    rw [List.length_cons, Nat.add_sub_cancel]
    obtain ⟨n, hn⟩ : ∃ n, (nb a).length = n + 1 := ⟨(nb a).length - 1, by omega⟩
    rw [hn, Nat.add_sub_cancel] at h1
    rw [hn]
    exact h1
  · rw [vL_cons15, vL_nb]; omega
theorem str_size (z : List Nat) : (strOfNums (nI z)).size = z.length := by
  show (strOfNums (nI z)).data.size = _
  rw [← Array.length_toList, strOfNums_data, List.length_map, nI_length]
theorem str_cons (z : List Nat) (h : Dig z) : (⟨#[0]⟩ : ByteArray) ++ strOfNums (nI z) = strOfNums (nI (0 :: z)) := by
  apply ByteArray.ext
  rw [ByteArray.data_append]
  apply Array.ext'
  rw [Array.toList_append, strOfNums_data, strOfNums_data]
  rfl
set_option maxHeartbeats 3200000 in
theorem walk_NumsOrders (a b c : List Nat) (pa pb pc : Option Addr) (la ka lb kb lc kc : Nat) (w : World) (ra : Row .u8 w pa la ka (nI a)) (da : Dig a) (rb : Row .u8 w pb lb kb (nI b)) (db : Dig b) (rc : Row .u8 w pc lc kc (nI c)) (dc : Dig c) :
    Calls Try.prog 6 #[.slice pa la ka, .slice pb lb kb, .slice pc lc kc] w fun e w' => e = .returned (.bool true) ∧ Below w.heap.size w w' := by
  have hmaxa : la ≤ maxLen := Nat.le_trans ra.hcap ra.hmax
  have Hla : Hid (a.length = la) := by have := ra.hlen; rwa [nI_length] at this
  have hmaxb : lb ≤ maxLen := Nat.le_trans rb.hcap rb.hmax
  have Hlb : Hid (b.length = lb) := by have := rb.hlen; rwa [nI_length] at this
  have hmaxc : lc ≤ maxLen := Nat.le_trans rc.hcap rc.hmax
  have Hlc : Hid (c.length = lc) := by have := rc.hlen; rwa [nI_length] at this
  by_cases hs : la ≤ 120 ∧ lb ≤ 120
  case neg =>
    have hsm := small15_no hs
    go_enter Try.func6, Try.ntmps6
    go_wp2_with fail
    refine (small15_any _ _ _ _ _ _ _ hmaxa hmaxb).mono ?_
    rintro e w' ⟨rfl, rfl⟩
    rw [hsm]
    go_wp2_with fail
    go_ret
    exact ⟨rfl, Below.refl _ _⟩
  have hsm := small15_yes hs.1 hs.2
  obtain ⟨hs1, hs2⟩ := hs
  by_cases hs3 : lc ≤ 120
  case neg =>
    have hs3' : (120 : Int) < (lc : Int) := by omega
    have hs4 : lc ≤ 9223372036854775807 := by unfold maxLen at hmaxc; omega
    go_enter Try.func6, Try.ntmps6
    go_wp2_with fail
    refine (small15_any _ _ _ _ _ _ _ hmaxa hmaxb).mono ?_
    rintro e w' ⟨rfl, rfl⟩
    rw [hsm]
    go_wp2_with fail
    go_ret
    exact ⟨rfl, Below.refl _ _⟩
  have hs3' : (lc : Int) ≤ 120 := by omega
  by_cases hA : vL a = 0
  case pos =>
    have c1 : ∀ (x y : Option Addr) (cx cy : Nat) (w : World), Row .u8 w x la cx (nI a) → Row .u8 w y lb cy (nI b) → Calls Try.prog 15 #[.slice x la cx, .slice y lb cy] w (fun e w' => e = .returned (.int .i64 (cmpN (vL a) (vL b))) ∧ Below w.heap.size w w') := fun x y cx cy w h1 h2 => by
      have := cmp_any a b x y la cx lb cy w da db h1 h2 (by omega) (by omega)
      have e : cmpN (vL a) (vL b) = cmpN (vL a) (vL b) := by first | rfl | exact (rfl)
      rwa [e] at this
    have c2 : ∀ (x y : Option Addr) (cx cy : Nat) (w : World), Row .u8 w x lb cx (nI b) → Row .u8 w y lc cy (nI c) → Calls Try.prog 15 #[.slice x lb cx, .slice y lc cy] w (fun e w' => e = .returned (.int .i64 (cmpN (vL b) (vL c))) ∧ Below w.heap.size w w') := fun x y cx cy w h1 h2 => by
      have := cmp_any b c x y lb cx lc cy w db dc h1 h2 (by omega) (by omega)
      have e : cmpN (vL b) (vL c) = cmpN (vL b) (vL c) := by first | rfl | exact (rfl)
      rwa [e] at this
    have c3 : ∀ (x y : Option Addr) (cx cy : Nat) (w : World), Row .u8 w x la cx (nI a) → Row .u8 w y lc cy (nI c) → Calls Try.prog 15 #[.slice x la cx, .slice y lc cy] w (fun e w' => e = .returned (.int .i64 (cmpN (vL a) (vL c))) ∧ Below w.heap.size w w') := fun x y cx cy w h1 h2 => by
      have := cmp_any a c x y la cx lc cy w da dc h1 h2 (by omega) (by omega)
      have e : cmpN (vL a) (vL c) = cmpN (vL a) (vL c) := by first | rfl | exact (rfl)
      rwa [e] at this
    have c4 : ∀ (x y : Option Addr) (cx cy : Nat) (w : World), Row .u8 w x lb cx (nI b) → Row .u8 w y la cy (nI a) → Calls Try.prog 15 #[.slice x lb cx, .slice y la cy] w (fun e w' => e = .returned (.int .i64 (-(cmpN (vL a) (vL b)))) ∧ Below w.heap.size w w') := fun x y cx cy w h1 h2 => by
      have := cmp_any b a x y lb cx la cy w db da h1 h2 (by omega) (by omega)
      have e : cmpN (vL b) (vL a) = -(cmpN (vL a) (vL b)) := by first | rfl | exact (cmp_neg _ _)
      rwa [e] at this
    have le5 : (nb (vL a + vL c)).length ≤ 241 := by
      have ha := nb_len_vL da; rw [Hla.out] at ha; have hc := nb_len_vL dc; rw [Hlc.out] at hc; have h := nb_len_add (vL a) (vL c); omega
    have lz0 : (nb (vL a + vL c)).length ≤ 241 := by
      exact le5
    have dz0 := dig_nb (vL a + vL c)
    have c5 : ∀ (x y : Option Addr) (cx cy : Nat) (w : World), Row .u8 w x la cx (nI a) → Row .u8 w y lc cy (nI c) → Calls Try.prog 11 #[.slice x la cx, .slice y lc cy] w (Gives w (nb (vL a + vL c))) := fun x y cx cy w h1 h2 => by
      have := add_any a c x y la cx lc cy w da dc h1 h2 (by omega) (by omega)
      have e : vL a + vL c = vL a + vL c := by first | rfl | exact (rfl)
      rwa [e] at this
    have le6 : (nb (vL b + vL c)).length ≤ 241 := by
      have hb := nb_len_vL db; rw [Hlb.out] at hb; have hc := nb_len_vL dc; rw [Hlc.out] at hc; have h := nb_len_add (vL b) (vL c); omega
    have lz1 : (nb (vL b + vL c)).length ≤ 241 := by
      exact le6
    have dz1 := dig_nb (vL b + vL c)
    have c6 : ∀ (x y : Option Addr) (cx cy : Nat) (w : World), Row .u8 w x lb cx (nI b) → Row .u8 w y lc cy (nI c) → Calls Try.prog 11 #[.slice x lb cx, .slice y lc cy] w (Gives w (nb (vL b + vL c))) := fun x y cx cy w h1 h2 => by
      have := add_any b c x y lb cx lc cy w db dc h1 h2 (by omega) (by omega)
      have e : vL b + vL c = vL b + vL c := by first | rfl | exact (rfl)
      rwa [e] at this
    have c7 : ∀ (x y : Option Addr) (cx cy : Nat) (w : World), Row .u8 w x (nb (vL a + vL c)).length cx (nI (nb (vL a + vL c))) → Row .u8 w y (nb (vL b + vL c)).length cy (nI (nb (vL b + vL c))) → Calls Try.prog 15 #[.slice x (nb (vL a + vL c)).length cx, .slice y (nb (vL b + vL c)).length cy] w (fun e w' => e = .returned (.int .i64 (cmpN (vL a) (vL b))) ∧ Below w.heap.size w w') := fun x y cx cy w h1 h2 => by
      have := cmp_any (nb (vL a + vL c)) (nb (vL b + vL c)) x y ((nb (vL a + vL c)).length) cx ((nb (vL b + vL c)).length) cy w dz0 dz1 h1 h2 (by omega) (by omega)
      have e : cmpN (vL (nb (vL a + vL c))) (vL (nb (vL b + vL c))) = cmpN (vL a) (vL b) := by rw [vL_nb, vL_nb]; exact (cmp_add _ _ _)
      rwa [e] at this
    have le8 : (nb (vL a - vL b)).length ≤ 120 := by
      have ha := nb_len_vL da; rw [Hla.out] at ha; have hb := nb_len_vL db; rw [Hlb.out] at hb; have h := nb_len_sub (vL a) (vL b); omega
    have lz2 : (nb (vL a - vL b)).length ≤ 120 := by
      exact le8
    have dz2 := dig_nb (vL a - vL b)
    have c8 : ∀ (x y : Option Addr) (cx cy : Nat) (w : World), Row .u8 w x la cx (nI a) → Row .u8 w y lb cy (nI b) → Calls Try.prog 12 #[.slice x la cx, .slice y lb cy] w (Gives w (nb (vL a - vL b))) := fun x y cx cy w h1 h2 => by
      have := sub_any a b x y la cx lb cy w da db h1 h2 (by omega) (by omega)
      have e : vL a - vL b = vL a - vL b := by first | rfl | exact (rfl)
      rwa [e] at this
    have lz3 : (nb (vL a)).length ≤ 130 := by
      have h := nb_len_vL da; rw [Hla.out] at h; omega
    have dz3 := dig_nb (vL a)
    have c9 : ∀ (x : Option Addr) (cx : Nat) (w : World), Row .u8 w x la cx (nI a) → Calls Try.prog 10 #[.slice x la cx] w (Gives w (nb (vL a))) := fun x cx w h1 => by
      have := norm_any a da x la cx w h1 (by omega)
      have e : vL a = vL a := by first | rfl | exact (rfl)
      rwa [e] at this
    have lz4 : (nb (vL b)).length ≤ 130 := by
      have h := nb_len_vL db; rw [Hlb.out] at h; omega
    have dz4 := dig_nb (vL b)
    have c10 : ∀ (x : Option Addr) (cx : Nat) (w : World), Row .u8 w x lb cx (nI b) → Calls Try.prog 10 #[.slice x lb cx] w (Gives w (nb (vL b))) := fun x cx w h1 => by
      have := norm_any b db x lb cx w h1 (by omega)
      have e : vL b = vL b := by first | rfl | exact (rfl)
      rwa [e] at this
    have cm : ∀ (x y : Option Addr) (cx : Nat) (w : World), Row .u8 w x la cx (nI a) → Row .u8 w y 2 2 (nI [0, 1]) → Calls Try.prog 13 #[.slice x la cx, .slice y 2 2] w (Gives w []) := fun x y cx w h1 h2 => by
      have := mul_any a [0, 1] x y la cx 2 2 w da (dig_all (by decide)) h1 h2 (by omega) (by omega)
      rwa [hA, Nat.zero_mul, nb_zero] at this
    have hx1 := cmp_bounds (vL a) (vL b)
    have hy1 := cmp_bounds (vL b) (vL c)
    have hz1 := cmp_bounds (vL a) (vL c)
    have hse : ((strOfNums (nI (nb (vL a)))).toList == (strOfNums (nI (nb (vL b)))).toList) = (cmpN (vL a) (vL b) == 0) := str_cmp _ _
    have hdl : (((nb (vL a - vL b)).length : Int) == 0) = decide (cmpN (vL a) (vL b) ≤ 0) := len_sub _ _
    have hord : ¬ cmpN (vL a) (vL b) ≤ 0 ∨ (cmpN (vL a) (vL b) ≤ 0 ∧ ¬ cmpN (vL b) (vL c) ≤ 0) ∨ (cmpN (vL a) (vL b) ≤ 0 ∧ cmpN (vL b) (vL c) ≤ 0 ∧ ¬ 0 < cmpN (vL a) (vL c)) := cmp_order _ _ _
    have hn0 : nb (vL a) = [] := by rw [hA, nb_zero]
    generalize cmpN (vL a) (vL b) = x at *
    generalize cmpN (vL b) (vL c) = y at *
    generalize cmpN (vL a) (vL c) = z at *
    generalize nb (vL a + vL c) = z0 at *
    generalize nb (vL b + vL c) = z1 at *
    generalize nb (vL a - vL b) = z2 at *
    generalize nb (vL a) = z3 at *
    generalize nb (vL b) = z4 at *
    subst hn0
    rcases hord with h1 | ⟨h1, h2⟩ | ⟨h1, h2, h3⟩
    all_goals
      go_enter Try.func6, Try.ntmps6
      go_wp2_with fail
      refine (small15_any _ _ _ _ _ _ _ hmaxa hmaxb).mono ?_
      rintro e w' ⟨rfl, rfl⟩
      rw [hsm]
      go_wp2_with fail
      refine (c1 _ _ _ _ _ ra rb).mono ?_
      rintro e w1 ⟨rfl, q1⟩
      replace ra := ra.below q1 (Nat.le_refl _)
      replace rb := rb.below q1 (Nat.le_refl _)
      replace rc := rc.below q1 (Nat.le_refl _)
      go_wp2_with fail
      refine (c2 _ _ _ _ _ rb rc).mono ?_
      rintro e w2 ⟨rfl, qq⟩
      replace ra := ra.below qq (Nat.le_refl _)
      replace rb := rb.below qq (Nat.le_refl _)
      replace rc := rc.below qq (Nat.le_refl _)
      replace q1 := btrans q1 qq
      clear qq
      go_wp2_with fail
      refine (c3 _ _ _ _ _ ra rc).mono ?_
      rintro e w3 ⟨rfl, qq⟩
      replace ra := ra.below qq (Nat.le_refl _)
      replace rb := rb.below qq (Nat.le_refl _)
      replace rc := rc.below qq (Nat.le_refl _)
      replace q1 := btrans q1 qq
      clear qq
      go_wp2_with fail
      refine (c4 _ _ _ _ _ rb ra).mono ?_
      rintro e w4 ⟨rfl, qq⟩
      replace ra := ra.below qq (Nat.le_refl _)
      replace rb := rb.below qq (Nat.le_refl _)
      replace rc := rc.below qq (Nat.le_refl _)
      replace q1 := btrans q1 qq
      clear qq
      go_wp2_with fail
      refine (c5 _ _ _ _ _ ra rc).mono ?_
      rintro e w5 ⟨a5, cp5, rfl, ri, qq⟩
      replace ra := ra.below qq (Nat.le_refl _)
      replace rb := rb.below qq (Nat.le_refl _)
      replace rc := rc.below qq (Nat.le_refl _)
      replace q1 := btrans q1 qq
      clear qq
      go_wp2_with fail
      refine (c6 _ _ _ _ _ rb rc).mono ?_
      rintro e w6 ⟨a6, cp6, rfl, rj, qq⟩
      replace ra := ra.below qq (Nat.le_refl _)
      replace rb := rb.below qq (Nat.le_refl _)
      replace rc := rc.below qq (Nat.le_refl _)
      replace ri := ri.below qq (Nat.le_refl _)
      replace q1 := btrans q1 qq
      clear qq
      go_wp2_with fail
      refine (c7 _ _ _ _ _ ri rj).mono ?_
      rintro e w7 ⟨rfl, qq⟩
      replace ra := ra.below qq (Nat.le_refl _)
      replace rb := rb.below qq (Nat.le_refl _)
      replace rc := rc.below qq (Nat.le_refl _)
      replace ri := ri.below qq (Nat.le_refl _)
      replace rj := rj.below qq (Nat.le_refl _)
      replace q1 := btrans q1 qq
      clear qq
      clear ri rj
      go_wp2_with fail
      refine (c8 _ _ _ _ _ ra rb).mono ?_
      rintro e w8 ⟨a8, cp8, rfl, rd, qq⟩
      replace ra := ra.below qq (Nat.le_refl _)
      replace rb := rb.below qq (Nat.le_refl _)
      replace rc := rc.below qq (Nat.le_refl _)
      replace q1 := btrans q1 qq
      clear qq
      clear rd
      go_wp2_with fail
      refine (c9 _ _ _ ra).mono ?_
      rintro e w9 ⟨a9, cp9, rfl, rn, qq⟩
      replace ra := ra.below qq (Nat.le_refl _)
      replace rb := rb.below qq (Nat.le_refl _)
      replace rc := rc.below qq (Nat.le_refl _)
      replace q1 := btrans q1 qq
      clear qq
      rw [List.length_nil] at rn ⊢
      have rl := row_new .u8 w9 5 w9.heap.size rfl [(0 : Int), (1 : Int)] 2 rfl (by decide) #[.int .u8 (0 : Int), .int .u8 (1 : Int)] rfl
      have ql := below_one w9 (.cells #[.int .u8 (0 : Int), .int .u8 (1 : Int)] 5)
      replace ra := ra.below ql (Nat.le_refl _)
      replace rb := rb.below ql (Nat.le_refl _)
      replace rc := rc.below ql (Nat.le_refl _)
      replace rn := rn.below ql (Nat.le_refl _)
      replace q1 := btrans q1 ql
      go_wp2_with fail
      refine (cm _ _ _ _ ra rl).mono ?_
      rintro e w10 ⟨am, cpm, rfl, rmm, qq⟩
      replace ra := ra.below qq (Nat.le_refl _)
      replace rb := rb.below qq (Nat.le_refl _)
      replace rc := rc.below qq (Nat.le_refl _)
      replace rn := rn.below qq (Nat.le_refl _)
      replace q1 := btrans q1 qq
      clear qq
      clear rl ql
      rw [List.length_nil] at rmm ⊢
      go_wp2_with fail
      refine held_begin (by kernel_rfl) ?_
      refine held_call (i := 0) (fuel := 30) (by kernel_rfl) rfl (by rfl) (fun K hK => ?_)
      go_simp
      have qd := Since.drew w10
      replace ra := ra.below qd (Nat.le_refl _)
      replace rb := rb.below qd (Nat.le_refl _)
      replace rc := rc.below qd (Nat.le_refl _)
      replace rn := rn.below qd (Nat.le_refl _)
      replace rmm := rmm.below qd (Nat.le_refl _)
      replace q1 := btrans q1 qd
      clear qd
      refine (awake15_any _).mono ?_
      rintro e w11 ⟨rfl, qq0⟩
      refine hK _ _ (Since.trans (Since.drew _) qq0) ?_
      have qq : Since _ _ := qq0
      clear hK K qq0
      replace ra := ra.below qq (Nat.le_refl _)
      replace rb := rb.below qq (Nat.le_refl _)
      replace rc := rc.below qq (Nat.le_refl _)
      replace rn := rn.below qq (Nat.le_refl _)
      replace rmm := rmm.below qq (Nat.le_refl _)
      replace q1 := btrans q1 qq
      clear qq
      refine held_reads (rs := [1, 2, 3, 4, 5, 6]) (fuel := 24) (by kernel_rfl) (fun c d v a w h => by cases d <;> exact h) (by kernel_rfl) (Since.refl _) (fun K hK => ?_)
      go_simp
      refine calm_move _ rfl (by rfl) rfl ?_
      go_simp
      refine calm_move _ rfl (by rfl) rfl ?_
      go_simp
      refine calm_do (.bool (x == 0)) rfl (by rfl) (fun w' hw' => ?_) ?_
      · go_simp
      go_simp
      refine calm_move _ rfl (by rfl) rfl ?_
      go_simp
      refine calm_do (.string (strOfNums (nI []))) rfl (by rfl) (fun w' hw' => ?_) ?_
      · have hcc := conv_row Try.underlying22 Try.underlying5 Try.underlying9 (rn.below hw' (Nat.le_refl _))
        go_simp
      go_simp
      refine calm_move _ rfl (by rfl) rfl ?_
      go_simp
      refine calm_nil (hK.out _ ?_)
      clear hK K
      refine held_call (i := 7) (fuel := 23) (by kernel_rfl) rfl (by rfl) (fun K hK => ?_)
      go_simp
      refine (c10 _ _ _ rb).mono ?_
      rintro e w12 ⟨a10, cp10, rfl, ro, qq0⟩
      refine hK _ _ (Since.trans (Since.refl _) qq0) ?_
      have qq : Since _ _ := qq0
      clear hK K qq0
      replace ra := ra.below qq (Nat.le_refl _)
      replace rb := rb.below qq (Nat.le_refl _)
      replace rc := rc.below qq (Nat.le_refl _)
      replace rn := rn.below qq (Nat.le_refl _)
      replace rmm := rmm.below qq (Nat.le_refl _)
      replace q1 := btrans q1 qq
      clear qq
      refine held_reads (rs := [8, 9, 10, 11, 12, 13, 14, 15, 16, 17, 18, 19, 20, 21, 22, 23, 24, 25, 26, 27, 28, 29, 30]) (fuel := 0) (by kernel_rfl) (fun c d v a w h => by cases d <;> exact h) (by kernel_rfl) (Since.refl _) (fun K hK => ?_)
      go_simp
      refine calm_do (.string (strOfNums (nI z4))) rfl (by rfl) (fun w' hw' => ?_) ?_
      · have hcc := conv_row Try.underlying22 Try.underlying5 Try.underlying9 (ro.below hw' (Nat.le_refl _))
        go_simp
      go_simp
      refine calm_do (.bool (x == 0)) rfl (by rfl) (fun w' hw' => ?_) ?_
      · go_simp
      go_simp
      refine calm_do (.bool true) rfl (by rfl) (fun w' hw' => ?_) ?_
      · go_simp
      go_simp
      refine calm_do (.bool true) rfl (by rfl) (fun w' hw' => ?_) ?_
      · go_simp
      go_simp
      refine calm_move _ rfl (by rfl) rfl ?_
      go_simp
      refine calm_move _ rfl (by rfl) rfl ?_
      go_simp
      refine calm_do (.int .i64 0) rfl (by rfl) (fun w' hw' => ?_) ?_
      · go_simp
      go_simp
      refine calm_do (.bool true) rfl (by rfl) (fun w' hw' => ?_) ?_
      · go_simp
      go_simp
      refine calm_move _ rfl (by rfl) rfl ?_
      go_simp
      refine calm_move _ rfl (by rfl) rfl ?_
      go_simp
      refine calm_do (.int .i64 0) rfl (by rfl) (fun w' hw' => ?_) ?_
      · go_simp
      go_simp
      refine calm_do (.bool true) rfl (by rfl) (fun w' hw' => ?_) ?_
      · go_simp
      go_simp
      refine calm_do (.bool true) rfl (by rfl) (fun w' hw' => ?_) ?_
      · go_simp
      go_simp
      refine calm_move _ rfl (by rfl) rfl ?_
      go_simp
      refine calm_skip rfl (by rfl) ?_
      go_simp
      refine calm_skip rfl (by rfl) ?_
      go_simp
      refine calm_skip rfl (by rfl) ?_
      go_simp
      refine calm_skip rfl (by rfl) ?_
      go_simp
      refine calm_skip rfl (by rfl) ?_
      go_simp
      refine calm_skip rfl (by rfl) ?_
      go_simp
      refine calm_do (.bool true) rfl (by rfl) (fun w' hw' => ?_) ?_
      · go_simp
      go_simp
      refine calm_do (.bool true) rfl (by rfl) (fun w' hw' => ?_) ?_
      · go_simp
      go_simp
      refine calm_assign _ rfl (by rfl) rfl ?_
      go_simp
      refine calm_nil (hK.out _ ?_)
      clear hK K
      refine wpAnyH_done (by kernel_rfl) ?_ _
      go_wp2_with fail
      go_ret
      first | exact ⟨rfl, q1⟩ | exact ⟨ret_bool (by simp), q1⟩
  have c1 : ∀ (x y : Option Addr) (cx cy : Nat) (w : World), Row .u8 w x la cx (nI a) → Row .u8 w y lb cy (nI b) → Calls Try.prog 15 #[.slice x la cx, .slice y lb cy] w (fun e w' => e = .returned (.int .i64 (cmpN (vL a) (vL b))) ∧ Below w.heap.size w w') := fun x y cx cy w h1 h2 => by
    have := cmp_any a b x y la cx lb cy w da db h1 h2 (by omega) (by omega)
    have e : cmpN (vL a) (vL b) = cmpN (vL a) (vL b) := by first | rfl | exact (rfl)
    rwa [e] at this
  have c2 : ∀ (x y : Option Addr) (cx cy : Nat) (w : World), Row .u8 w x lb cx (nI b) → Row .u8 w y lc cy (nI c) → Calls Try.prog 15 #[.slice x lb cx, .slice y lc cy] w (fun e w' => e = .returned (.int .i64 (cmpN (vL b) (vL c))) ∧ Below w.heap.size w w') := fun x y cx cy w h1 h2 => by
    have := cmp_any b c x y lb cx lc cy w db dc h1 h2 (by omega) (by omega)
    have e : cmpN (vL b) (vL c) = cmpN (vL b) (vL c) := by first | rfl | exact (rfl)
    rwa [e] at this
  have c3 : ∀ (x y : Option Addr) (cx cy : Nat) (w : World), Row .u8 w x la cx (nI a) → Row .u8 w y lc cy (nI c) → Calls Try.prog 15 #[.slice x la cx, .slice y lc cy] w (fun e w' => e = .returned (.int .i64 (cmpN (vL a) (vL c))) ∧ Below w.heap.size w w') := fun x y cx cy w h1 h2 => by
    have := cmp_any a c x y la cx lc cy w da dc h1 h2 (by omega) (by omega)
    have e : cmpN (vL a) (vL c) = cmpN (vL a) (vL c) := by first | rfl | exact (rfl)
    rwa [e] at this
  have c4 : ∀ (x y : Option Addr) (cx cy : Nat) (w : World), Row .u8 w x lb cx (nI b) → Row .u8 w y la cy (nI a) → Calls Try.prog 15 #[.slice x lb cx, .slice y la cy] w (fun e w' => e = .returned (.int .i64 (-(cmpN (vL a) (vL b)))) ∧ Below w.heap.size w w') := fun x y cx cy w h1 h2 => by
    have := cmp_any b a x y lb cx la cy w db da h1 h2 (by omega) (by omega)
    have e : cmpN (vL b) (vL a) = -(cmpN (vL a) (vL b)) := by first | rfl | exact (cmp_neg _ _)
    rwa [e] at this
  have le5 : (nb (vL a + vL c)).length ≤ 241 := by
    have ha := nb_len_vL da; rw [Hla.out] at ha; have hc := nb_len_vL dc; rw [Hlc.out] at hc; have h := nb_len_add (vL a) (vL c); omega
  have lz0 : (nb (vL a + vL c)).length ≤ 241 := by
    exact le5
  have dz0 := dig_nb (vL a + vL c)
  have c5 : ∀ (x y : Option Addr) (cx cy : Nat) (w : World), Row .u8 w x la cx (nI a) → Row .u8 w y lc cy (nI c) → Calls Try.prog 11 #[.slice x la cx, .slice y lc cy] w (Gives w (nb (vL a + vL c))) := fun x y cx cy w h1 h2 => by
    have := add_any a c x y la cx lc cy w da dc h1 h2 (by omega) (by omega)
    have e : vL a + vL c = vL a + vL c := by first | rfl | exact (rfl)
    rwa [e] at this
  have le6 : (nb (vL b + vL c)).length ≤ 241 := by
    have hb := nb_len_vL db; rw [Hlb.out] at hb; have hc := nb_len_vL dc; rw [Hlc.out] at hc; have h := nb_len_add (vL b) (vL c); omega
  have lz1 : (nb (vL b + vL c)).length ≤ 241 := by
    exact le6
  have dz1 := dig_nb (vL b + vL c)
  have c6 : ∀ (x y : Option Addr) (cx cy : Nat) (w : World), Row .u8 w x lb cx (nI b) → Row .u8 w y lc cy (nI c) → Calls Try.prog 11 #[.slice x lb cx, .slice y lc cy] w (Gives w (nb (vL b + vL c))) := fun x y cx cy w h1 h2 => by
    have := add_any b c x y lb cx lc cy w db dc h1 h2 (by omega) (by omega)
    have e : vL b + vL c = vL b + vL c := by first | rfl | exact (rfl)
    rwa [e] at this
  have c7 : ∀ (x y : Option Addr) (cx cy : Nat) (w : World), Row .u8 w x (nb (vL a + vL c)).length cx (nI (nb (vL a + vL c))) → Row .u8 w y (nb (vL b + vL c)).length cy (nI (nb (vL b + vL c))) → Calls Try.prog 15 #[.slice x (nb (vL a + vL c)).length cx, .slice y (nb (vL b + vL c)).length cy] w (fun e w' => e = .returned (.int .i64 (cmpN (vL a) (vL b))) ∧ Below w.heap.size w w') := fun x y cx cy w h1 h2 => by
    have := cmp_any (nb (vL a + vL c)) (nb (vL b + vL c)) x y ((nb (vL a + vL c)).length) cx ((nb (vL b + vL c)).length) cy w dz0 dz1 h1 h2 (by omega) (by omega)
    have e : cmpN (vL (nb (vL a + vL c))) (vL (nb (vL b + vL c))) = cmpN (vL a) (vL b) := by rw [vL_nb, vL_nb]; exact (cmp_add _ _ _)
    rwa [e] at this
  have le8 : (nb (vL a - vL b)).length ≤ 120 := by
    have ha := nb_len_vL da; rw [Hla.out] at ha; have hb := nb_len_vL db; rw [Hlb.out] at hb; have h := nb_len_sub (vL a) (vL b); omega
  have lz2 : (nb (vL a - vL b)).length ≤ 120 := by
    exact le8
  have dz2 := dig_nb (vL a - vL b)
  have c8 : ∀ (x y : Option Addr) (cx cy : Nat) (w : World), Row .u8 w x la cx (nI a) → Row .u8 w y lb cy (nI b) → Calls Try.prog 12 #[.slice x la cx, .slice y lb cy] w (Gives w (nb (vL a - vL b))) := fun x y cx cy w h1 h2 => by
    have := sub_any a b x y la cx lb cy w da db h1 h2 (by omega) (by omega)
    have e : vL a - vL b = vL a - vL b := by first | rfl | exact (rfl)
    rwa [e] at this
  have lz3 : (nb (vL a)).length ≤ 130 := by
    have h := nb_len_vL da; rw [Hla.out] at h; omega
  have dz3 := dig_nb (vL a)
  have c9 : ∀ (x : Option Addr) (cx : Nat) (w : World), Row .u8 w x la cx (nI a) → Calls Try.prog 10 #[.slice x la cx] w (Gives w (nb (vL a))) := fun x cx w h1 => by
    have := norm_any a da x la cx w h1 (by omega)
    have e : vL a = vL a := by first | rfl | exact (rfl)
    rwa [e] at this
  have lz4 : (nb (vL b)).length ≤ 130 := by
    have h := nb_len_vL db; rw [Hlb.out] at h; omega
  have dz4 := dig_nb (vL b)
  have c10 : ∀ (x : Option Addr) (cx : Nat) (w : World), Row .u8 w x lb cx (nI b) → Calls Try.prog 10 #[.slice x lb cx] w (Gives w (nb (vL b))) := fun x cx w h1 => by
    have := norm_any b db x lb cx w h1 (by omega)
    have e : vL b = vL b := by first | rfl | exact (rfl)
    rwa [e] at this
  have cm : ∀ (x y : Option Addr) (cx : Nat) (w : World), Row .u8 w x la cx (nI a) → Row .u8 w y 2 2 (nI [0, 1]) → Calls Try.prog 13 #[.slice x la cx, .slice y 2 2] w (Gives w (0 :: nb (vL a))) := fun x y cx w h1 h2 => by
    have := mul_any a [0, 1] x y la cx 2 2 w da (dig_all (by decide)) h1 h2 (by omega) (by omega)
    rwa [show vL [0, 1] = 256 from by decide, nb_shift hA] at this
  have hx1 := cmp_bounds (vL a) (vL b)
  have hy1 := cmp_bounds (vL b) (vL c)
  have hz1 := cmp_bounds (vL a) (vL c)
  have hse : ((strOfNums (nI (nb (vL a)))).toList == (strOfNums (nI (nb (vL b)))).toList) = (cmpN (vL a) (vL b) == 0) := str_cmp _ _
  have hdl : (((nb (vL a - vL b)).length : Int) == 0) = decide (cmpN (vL a) (vL b) ≤ 0) := len_sub _ _
  have hord : ¬ cmpN (vL a) (vL b) ≤ 0 ∨ (cmpN (vL a) (vL b) ≤ 0 ∧ ¬ cmpN (vL b) (vL c) ≤ 0) ∨ (cmpN (vL a) (vL b) ≤ 0 ∧ cmpN (vL b) (vL c) ≤ 0 ∧ ¬ 0 < cmpN (vL a) (vL c)) := cmp_order _ _ _
  have hnl : (((nb (vL a)).length : Int) == 0) = false := by rw [beq_eq_false_iff_ne]; have := mt nb_nil.1 hA; omega
  have HSz : Hid ((strOfNums (nI (nb (vL a)))).size = (nb (vL a)).length) := str_size _
  have HCat : Hid (⟨#[0]⟩ ++ strOfNums (nI (nb (vL a))) = strOfNums (nI (0 :: nb (vL a)))) := str_cons _ (dig_nb _)
  generalize cmpN (vL a) (vL b) = x at *
  generalize cmpN (vL b) (vL c) = y at *
  generalize cmpN (vL a) (vL c) = z at *
  generalize nb (vL a + vL c) = z0 at *
  generalize nb (vL b + vL c) = z1 at *
  generalize nb (vL a - vL b) = z2 at *
  generalize nb (vL a) = z3 at *
  generalize nb (vL b) = z4 at *
  rcases hord with h1 | ⟨h1, h2⟩ | ⟨h1, h2, h3⟩
  all_goals
    go_enter Try.func6, Try.ntmps6
    go_wp2_with fail
    refine (small15_any _ _ _ _ _ _ _ hmaxa hmaxb).mono ?_
    rintro e w' ⟨rfl, rfl⟩
    rw [hsm]
    go_wp2_with fail
    refine (c1 _ _ _ _ _ ra rb).mono ?_
    rintro e w1 ⟨rfl, q1⟩
    replace ra := ra.below q1 (Nat.le_refl _)
    replace rb := rb.below q1 (Nat.le_refl _)
    replace rc := rc.below q1 (Nat.le_refl _)
    go_wp2_with fail
    refine (c2 _ _ _ _ _ rb rc).mono ?_
    rintro e w2 ⟨rfl, qq⟩
    replace ra := ra.below qq (Nat.le_refl _)
    replace rb := rb.below qq (Nat.le_refl _)
    replace rc := rc.below qq (Nat.le_refl _)
    replace q1 := btrans q1 qq
    clear qq
    go_wp2_with fail
    refine (c3 _ _ _ _ _ ra rc).mono ?_
    rintro e w3 ⟨rfl, qq⟩
    replace ra := ra.below qq (Nat.le_refl _)
    replace rb := rb.below qq (Nat.le_refl _)
    replace rc := rc.below qq (Nat.le_refl _)
    replace q1 := btrans q1 qq
    clear qq
    go_wp2_with fail
    refine (c4 _ _ _ _ _ rb ra).mono ?_
    rintro e w4 ⟨rfl, qq⟩
    replace ra := ra.below qq (Nat.le_refl _)
    replace rb := rb.below qq (Nat.le_refl _)
    replace rc := rc.below qq (Nat.le_refl _)
    replace q1 := btrans q1 qq
    clear qq
    go_wp2_with fail
    refine (c5 _ _ _ _ _ ra rc).mono ?_
    rintro e w5 ⟨a5, cp5, rfl, ri, qq⟩
    replace ra := ra.below qq (Nat.le_refl _)
    replace rb := rb.below qq (Nat.le_refl _)
    replace rc := rc.below qq (Nat.le_refl _)
    replace q1 := btrans q1 qq
    clear qq
    go_wp2_with fail
    refine (c6 _ _ _ _ _ rb rc).mono ?_
    rintro e w6 ⟨a6, cp6, rfl, rj, qq⟩
    replace ra := ra.below qq (Nat.le_refl _)
    replace rb := rb.below qq (Nat.le_refl _)
    replace rc := rc.below qq (Nat.le_refl _)
    replace ri := ri.below qq (Nat.le_refl _)
    replace q1 := btrans q1 qq
    clear qq
    go_wp2_with fail
    refine (c7 _ _ _ _ _ ri rj).mono ?_
    rintro e w7 ⟨rfl, qq⟩
    replace ra := ra.below qq (Nat.le_refl _)
    replace rb := rb.below qq (Nat.le_refl _)
    replace rc := rc.below qq (Nat.le_refl _)
    replace ri := ri.below qq (Nat.le_refl _)
    replace rj := rj.below qq (Nat.le_refl _)
    replace q1 := btrans q1 qq
    clear qq
    clear ri rj
    go_wp2_with fail
    refine (c8 _ _ _ _ _ ra rb).mono ?_
    rintro e w8 ⟨a8, cp8, rfl, rd, qq⟩
    replace ra := ra.below qq (Nat.le_refl _)
    replace rb := rb.below qq (Nat.le_refl _)
    replace rc := rc.below qq (Nat.le_refl _)
    replace q1 := btrans q1 qq
    clear qq
    clear rd
    go_wp2_with fail
    refine (c9 _ _ _ ra).mono ?_
    rintro e w9 ⟨a9, cp9, rfl, rn, qq⟩
    replace ra := ra.below qq (Nat.le_refl _)
    replace rb := rb.below qq (Nat.le_refl _)
    replace rc := rc.below qq (Nat.le_refl _)
    replace q1 := btrans q1 qq
    clear qq
    have rl := row_new .u8 w9 5 w9.heap.size rfl [(0 : Int), (1 : Int)] 2 rfl (by decide) #[.int .u8 (0 : Int), .int .u8 (1 : Int)] rfl
    have ql := below_one w9 (.cells #[.int .u8 (0 : Int), .int .u8 (1 : Int)] 5)
    replace ra := ra.below ql (Nat.le_refl _)
    replace rb := rb.below ql (Nat.le_refl _)
    replace rc := rc.below ql (Nat.le_refl _)
    replace rn := rn.below ql (Nat.le_refl _)
    replace q1 := btrans q1 ql
    go_wp2_with fail
    refine (cm _ _ _ _ ra rl).mono ?_
    rintro e w10 ⟨am, cpm, rfl, rmm, qq⟩
    replace ra := ra.below qq (Nat.le_refl _)
    replace rb := rb.below qq (Nat.le_refl _)
    replace rc := rc.below qq (Nat.le_refl _)
    replace rn := rn.below qq (Nat.le_refl _)
    replace q1 := btrans q1 qq
    clear qq
    clear rl ql
    rw [List.length_cons] at rmm ⊢
    go_wp2_with fail
    refine held_begin (by kernel_rfl) ?_
    refine held_call (i := 0) (fuel := 30) (by kernel_rfl) rfl (by rfl) (fun K hK => ?_)
    go_simp
    have qd := Since.drew w10
    replace ra := ra.below qd (Nat.le_refl _)
    replace rb := rb.below qd (Nat.le_refl _)
    replace rc := rc.below qd (Nat.le_refl _)
    replace rn := rn.below qd (Nat.le_refl _)
    replace rmm := rmm.below qd (Nat.le_refl _)
    replace q1 := btrans q1 qd
    clear qd
    refine (awake15_any _).mono ?_
    rintro e w11 ⟨rfl, qq0⟩
    refine hK _ _ (Since.trans (Since.drew _) qq0) ?_
    have qq : Since _ _ := qq0
    clear hK K qq0
    replace ra := ra.below qq (Nat.le_refl _)
    replace rb := rb.below qq (Nat.le_refl _)
    replace rc := rc.below qq (Nat.le_refl _)
    replace rn := rn.below qq (Nat.le_refl _)
    replace rmm := rmm.below qq (Nat.le_refl _)
    replace q1 := btrans q1 qq
    clear qq
    refine held_reads (rs := [1, 2, 3, 4, 5, 6]) (fuel := 24) (by kernel_rfl) (fun c d v a w h => by cases d <;> exact h) (by kernel_rfl) (Since.refl _) (fun K hK => ?_)
    go_simp
    refine calm_move _ rfl (by rfl) rfl ?_
    go_simp
    refine calm_move _ rfl (by rfl) rfl ?_
    go_simp
    refine calm_do (.bool (x == 0)) rfl (by rfl) (fun w' hw' => ?_) ?_
    · go_simp
    go_simp
    refine calm_move _ rfl (by rfl) rfl ?_
    go_simp
    refine calm_do (.string (strOfNums (nI z3))) rfl (by rfl) (fun w' hw' => ?_) ?_
    · have hcc := conv_row Try.underlying22 Try.underlying5 Try.underlying9 (rn.below hw' (Nat.le_refl _))
      go_simp
    go_simp
    refine calm_move _ rfl (by rfl) rfl ?_
    go_simp
    refine calm_nil (hK.out _ ?_)
    clear hK K
    refine held_call (i := 7) (fuel := 23) (by kernel_rfl) rfl (by rfl) (fun K hK => ?_)
    go_simp
    refine (c10 _ _ _ rb).mono ?_
    rintro e w12 ⟨a10, cp10, rfl, ro, qq0⟩
    refine hK _ _ (Since.trans (Since.refl _) qq0) ?_
    have qq : Since _ _ := qq0
    clear hK K qq0
    replace ra := ra.below qq (Nat.le_refl _)
    replace rb := rb.below qq (Nat.le_refl _)
    replace rc := rc.below qq (Nat.le_refl _)
    replace rn := rn.below qq (Nat.le_refl _)
    replace rmm := rmm.below qq (Nat.le_refl _)
    replace q1 := btrans q1 qq
    clear qq
    refine held_reads (rs := [8, 9, 10, 11, 12, 13, 14, 15, 16, 17, 18, 19, 20, 21, 22, 23, 24, 25, 26, 27, 28, 29, 30]) (fuel := 0) (by kernel_rfl) (fun c d v a w h => by cases d <;> exact h) (by kernel_rfl) (Since.refl _) (fun K hK => ?_)
    go_simp
    refine calm_do (.string (strOfNums (nI z4))) rfl (by rfl) (fun w' hw' => ?_) ?_
    · have hcc := conv_row Try.underlying22 Try.underlying5 Try.underlying9 (ro.below hw' (Nat.le_refl _))
      go_simp
    go_simp
    refine calm_do (.bool (x == 0)) rfl (by rfl) (fun w' hw' => ?_) ?_
    · go_simp
    go_simp
    refine calm_do (.bool true) rfl (by rfl) (fun w' hw' => ?_) ?_
    · go_simp
    go_simp
    refine calm_do (.bool true) rfl (by rfl) (fun w' hw' => ?_) ?_
    · go_simp
    go_simp
    refine calm_move _ rfl (by rfl) rfl ?_
    go_simp
    refine calm_move _ rfl (by rfl) rfl ?_
    go_simp
    refine calm_do (.int .i64 (z3.length : Int)) rfl (by rfl) (fun w' hw' => ?_) ?_
    · go_simp
    go_simp
    refine calm_do (.bool false) rfl (by rfl) (fun w' hw' => ?_) ?_
    · go_simp
    go_simp
    refine calm_move _ rfl (by rfl) rfl ?_
    go_simp
    refine calm_skip rfl (by rfl) ?_
    go_simp
    refine calm_skip rfl (by rfl) ?_
    go_simp
    refine calm_skip rfl (by rfl) ?_
    go_simp
    refine calm_do (.bool false) rfl (by rfl) (fun w' hw' => ?_) ?_
    · go_simp
    go_simp
    refine calm_move _ rfl (by rfl) rfl ?_
    go_simp
    refine calm_move _ rfl (by rfl) rfl ?_
    go_simp
    refine calm_do (.string (strOfNums (nI (0 :: z3)))) rfl (by rfl) (fun w' hw' => ?_) ?_
    · have hcc := conv_row Try.underlying22 Try.underlying5 Try.underlying9 (rmm.below hw' (Nat.le_refl _))
      go_simp
    go_simp
    refine calm_move _ rfl (by rfl) rfl ?_
    go_simp
    refine calm_do (.string (strOfNums (nI z3))) rfl (by rfl) (fun w' hw' => ?_) ?_
    · have hcc := conv_row Try.underlying22 Try.underlying5 Try.underlying9 (rn.below hw' (Nat.le_refl _))
      go_simp
    go_simp
    refine calm_do (.string (strOfNums (nI (0 :: z3)))) rfl (by rfl) (fun w' hw' => ?_) ?_
    · have hcc := HCat.out
      have hcs := HSz.out
      go_simp
      all_goals omega
    go_simp
    refine calm_do (.bool true) rfl (by rfl) (fun w' hw' => ?_) ?_
    · go_simp
    go_simp
    refine calm_do (.bool true) rfl (by rfl) (fun w' hw' => ?_) ?_
    · go_simp
    go_simp
    refine calm_do (.bool true) rfl (by rfl) (fun w' hw' => ?_) ?_
    · go_simp
    go_simp
    refine calm_assign _ rfl (by rfl) rfl ?_
    go_simp
    refine calm_nil (hK.out _ ?_)
    clear hK K
    refine wpAnyH_done (by kernel_rfl) ?_ _
    go_wp2_with fail
    go_ret
    first | exact ⟨rfl, q1⟩ | exact ⟨ret_bool (by simp), q1⟩
end Go.Proofs.Ytcibpnikaemhlaa.N
