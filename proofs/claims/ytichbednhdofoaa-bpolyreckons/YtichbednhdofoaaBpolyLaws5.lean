/-
  The walk of layer 4's law BpolyReckons, out of the face of bpoly: it returns true; nothing old turns. (Written by tools/gen/bpoly_reckons.py.)
-/
import Derived.Test.YtichbednhdofoaaBpolyLaws2
namespace Go.Proofs.Ytichbednhdofoaa
open Go.RowKit
set_option linter.unusedVariables false

theorem row_bts' {w : World} {base : Nat} {e : TypeId} {v : Value} {z : List Int} {len : Nat} (hz : z.length = len) (h : w.ownsRow base e 1 v (8 * len) ((bitsTo z (8 * len)).map (Value.int .i64))) :
    ∃ a cap, v = .slice a (8 * len) cap ∧ Row .i64 w a (8 * len) cap (ints (bts z)) := by
  rw [ints_bts, hz]
  exact row_of_owns h
/-- Value, whatever the number. -/
theorem BValC.any (hV : BValC) (z : List Int) (x : Int) : ∃ vv ff : Int, Hid ((isE x = true → ff = 0 ∧ vv = (evl (bts z) x.toNat : Nat)) ∧ (isE x = false → ff = 1 ∧ vv = 0)) ∧
    ∀ (a : Option Addr) (len cap : Nat) (w : World), Row .u8 w a len cap z → IsB z → len ≤ 500 → Calls Try.prog 13 #[.slice a len cap, .int .i64 x] w fun e w' => e = .returned (.tuple #[.int .i64 vv, .int .i64 ff]) ∧ Below w.heap.size w w' := by
  cases hx : isE x
  · exact ⟨0, 1, ⟨fun h => by simp at h, fun _ => ⟨rfl, rfl⟩⟩, fun a len cap w h1 h2 h3 => hV.no a len cap z x w h1 h2 h3 hx⟩
  · obtain ⟨y, rfl, hy⟩ := isE_true hx
    exact ⟨_, 0, ⟨fun _ => ⟨rfl, rfl⟩, fun h => by simp at h⟩, fun a len cap w h1 h2 h3 => hV.yes a len cap z y w h1 h2 h3 hy⟩
/-- Mod, whatever the two. -/
theorem BModC.any (hO : BModC) (x y : List Int) (hx : IsB x) (hy : IsB y) (a c : Option Addr) (len cap len' cap' : Nat) (w : World) (h1 : Row .u8 w a len cap x) (h2 : Row .u8 w c len' cap' y) (l1 : len ≤ 500) (l2 : len' ≤ 500) :
    Calls Try.prog 12 #[.slice a len cap, .slice c len' cap'] w fun e w' => ∃ z n, ((norm (bts y) = [] → z = [] ∧ n = 20) ∧ (norm (bts y) ≠ [] → n = 0 ∧ ∃ r, IsMod (bts x) (bts y) r ∧ z = nb r)) ∧ GivesE w z n e w' := by
  by_cases h : norm (bts y) = []
  · exact (hO.zero a c len cap len' cap' x y w h1 h2 hx hy l1 l2 h).mono fun e w' hg => ⟨[], 20, ⟨fun _ => ⟨rfl, rfl⟩, fun h' => absurd h h'⟩, hg⟩
  · exact (hO.yes a c len cap len' cap' x y w h1 h2 hx hy l1 l2 h).mono fun e w' ⟨r, hr, hg⟩ => ⟨nb r, 0, ⟨fun h' => absurd h' h, fun _ => ⟨rfl, r, hr, rfl⟩⟩, hg⟩

set_option maxHeartbeats 6400000 in
set_option maxRecDepth 100000 in
theorem walk_bpolyReckons (hD : BDegC) (hA : BAddC) (hM : BMulC) (hO : BModC) (hN : BMinC) (hG : BGenC) (hV : BValC) (a c : Option Addr) (len cap len' cap' : Nat) (p q : List Int) (x : Int) (w : World)
    (rp : Row .u8 w a len cap p) (bp : IsB p) (rq : Row .u8 w c len' cap' q) (bq : IsB q) :
    Calls Try.prog 3 #[.slice a len cap, .slice c len' cap', .int .i64 x] w fun e w' => e = .returned (.bool true) ∧ Below w.heap.size w w' := by
  have hmax : len ≤ maxLen := Nat.le_trans rp.hcap rp.hmax
  have hmax' : len' ≤ maxLen := Nat.le_trans rq.hcap rq.hmax
  by_cases hs : len ≤ 60 ∧ len' ≤ 60
  case neg =>
    have hsm := small4_no hs
    go_enter Try.func3, Try.ntmps3
    go_wp2_with fail
    refine (small4_any _ _ _ _ _ _ _ hmax hmax').mono ?_
    rintro e w' ⟨rfl, rfl⟩
    rw [hsm]
    go_wp2_with fail
    go_ret
    exact ⟨rfl, Below.refl _ _⟩
  have hsm := small4_yes hs.1 hs.2
  obtain ⟨hs1, hs2⟩ := hs
  obtain ⟨i0, hi0, hz0, hz1, hz2⟩ := info_parts Try.info5
  have HLp : Hid (p.length = len) := rp.hlen
  have HLq : Hid (q.length = len') := rq.hlen
  have h1p := is01_bts p
  have h1q := is01_bts q
  have lA : (nb (addL (bts p) (bts q))).length ≤ 60 := by have := nb_add_len p q; have := HLp.out; have := HLq.out; omega
  have lM : (nb (mulL (bts p) (bts q))).length ≤ 120 := by have := nb_mul_len p q; have := HLp.out; have := HLq.out; omega
  have lAL : (addL (bts p) (bts q)).length ≤ 480 := by rw [length_addL, length_bts, length_bts]; have := HLp.out; have := HLq.out; omega
  have h1A := is01_padd p q
  obtain ⟨vv, ff, HVF, cV⟩ := hV.any p x
  have cA := fun b cp => hA b c len cp len' cap' p q
  have cM := fun b cp => hM b c len cp len' cap' p q
  have cD := fun b cp => hD b len cp p
  have cBA := fun b cp wx => refBytes_any b (addL (bts p) (bts q)).length cp (addL (bts p) (bts q)) wx h1A
  have HNM : Hid (∀ r, Eqv r (mulL (bts p) (bts q)) → nb r = nb (mulL (bts p) (bts q))) := fun r h => nb_ext h
  have HUN : Hid (∀ r r', IsMod (bts p) (bts q) r → IsMod (bts p) (bts q) r' → nb r' = nb r) := fun r r' h h' => nb_ext (IsMod.unique h1q h' h)
  have cRA := fun b d cp cp' wx => refAddB_any b d (8 * len) cp (8 * len') cp' (bts p) (bts q) wx
  generalize nb (addL (bts p) (bts q)) = zA at *
  generalize nb (mulL (bts p) (bts q)) = zM at *
  have hown0 := World.ownsRow_lit (base := w.heap.size) (e := 5) (size := 1) w #[] 0 (Nat.le_refl _) (Nat.zero_le _) rfl
  have hr0 := rp.below (below_one w (Obj.cells #[] 5)) (Nat.le_refl _)
  go_enter Try.func3, Try.ntmps3
  go_wp2_with fail
  refine (small4_any _ _ _ _ _ _ _ hmax hmax').mono ?_
  rintro e w' ⟨rfl, rfl⟩
  rw [hsm]
  go_wp2_with (at_builtin; refine wpList_append_row _ rfl _ _ 22 rfl w.heap.size 5 i0 (.int .u8 0) 1 Try.underlying22 hi0 hz0 hz1 hz2 rfl _ 0 [] rfl hown0 .u8 a len cap p rfl hr0 ?c1 ?c2 ?c3 ?_)
  case c1 => omega
  case c2 => omega
  case c3 => simp
  intro v w1 hown1 hgrow1
  have q1 : Below w.heap.size w w1 := (below_one w (Obj.cells #[] 5)).grown hgrow1 (by simp) (fun k hk => by simp [Value.ownBlock] at hk; omega)
  have hown1' : w1.ownsRow w.heap.size 5 1 v len (p.map (Value.int .u8)) := by simpa using hown1
  obtain ⟨ao, capo, rfl, ro⟩ := row_of_owns hown1'
  clear hown1 hown1' hown0 hr0 hgrow1
  replace rp := rp.below q1 (Nat.le_refl _)
  replace rq := rq.below q1 (Nat.le_refl _)
  go_wp2_with fail
  refine (cA _ _ _ ro rq bp bq (by omega) (by omega)).mono ?_
  rintro e w2 ⟨aA, cpA, rfl, rA, qq⟩
  replace rp := rp.below qq (Nat.le_refl _)
  replace rq := rq.below qq (Nat.le_refl _)
  replace ro := ro.below qq (Nat.le_refl _)
  replace q1 := btrans q1 qq
  clear qq
  go_wp2_with fail
  refine (cM _ _ _ ro rq bp bq (by omega) (by omega)).mono ?_
  rintro e w3 ⟨aM, cpM, rfl, rM, qq⟩
  replace rp := rp.below qq (Nat.le_refl _)
  replace rq := rq.below qq (Nat.le_refl _)
  replace ro := ro.below qq (Nat.le_refl _)
  replace rA := rA.below qq (Nat.le_refl _)
  replace q1 := btrans q1 qq
  clear qq
  go_wp2_with fail
  refine (hO.any p q bp bq _ _ _ _ _ _ _ ro rq (by omega) (by omega)).mono ?_
  rintro e w4 ⟨zr, ee, hmod, ar, cpr, rfl, rr, qq⟩
  replace rp := rp.below qq (Nat.le_refl _)
  replace rq := rq.below qq (Nat.le_refl _)
  replace ro := ro.below qq (Nat.le_refl _)
  replace rA := rA.below qq (Nat.le_refl _)
  replace rM := rM.below qq (Nat.le_refl _)
  replace q1 := btrans q1 qq
  clear qq
  have HMOD : Hid _ := hmod
  clear hmod
  go_wp2_with fail
  refine (cV _ _ _ _ ro bp (by omega)).mono ?_
  rintro e w5 ⟨rfl, qq⟩
  replace rp := rp.below qq (Nat.le_refl _)
  replace rq := rq.below qq (Nat.le_refl _)
  replace ro := ro.below qq (Nat.le_refl _)
  replace rA := rA.below qq (Nat.le_refl _)
  replace rM := rM.below qq (Nat.le_refl _)
  replace rr := rr.below qq (Nat.le_refl _)
  replace q1 := btrans q1 qq
  clear qq
  go_wp2_with fail
  refine (all_any _ _ _ p _ rp bp (by omega)).mono ?_
  rintro e w6 ⟨va, rfl, howa, qq⟩
  replace rp := rp.below qq (Nat.le_refl _)
  replace rq := rq.below qq (Nat.le_refl _)
  replace ro := ro.below qq (Nat.le_refl _)
  replace rA := rA.below qq (Nat.le_refl _)
  replace rM := rM.below qq (Nat.le_refl _)
  replace rr := rr.below qq (Nat.le_refl _)
  replace q1 := btrans q1 qq
  clear qq
  obtain ⟨aa, cpa, rfl, ra⟩ := row_bts' HLp.out howa
  clear howa
  go_wp2_with fail
  refine (all_any _ _ _ q _ rq bq (by omega)).mono ?_
  rintro e w7 ⟨vb, rfl, howb, qq⟩
  replace rp := rp.below qq (Nat.le_refl _)
  replace rq := rq.below qq (Nat.le_refl _)
  replace ro := ro.below qq (Nat.le_refl _)
  replace rA := rA.below qq (Nat.le_refl _)
  replace rM := rM.below qq (Nat.le_refl _)
  replace rr := rr.below qq (Nat.le_refl _)
  replace ra := ra.below qq (Nat.le_refl _)
  replace q1 := btrans q1 qq
  clear qq
  obtain ⟨ab, cpb, rfl, rb⟩ := row_bts' HLq.out howb
  clear howb
  go_wp2_with fail
  refine held_begin (by kernel_rfl) ?_
  refine held_reads (rs := [0, 1, 2, 3, 4, 5, 6, 8]) (fuel := 24) (by kernel_rfl) (fun c d v a w h => by cases d <;> exact h) (by kernel_rfl) (Since.drew _) (fun K hK => ?_)
  refine calm_move _ rfl (by rfl) rfl ?_
  go_simp
  refine calm_do (.string (strOfNums p)) rfl (by rfl) (fun w' hw' => ?_) ?_
  · have hcc := conv_row Try.underlying22 Try.underlying5 Try.underlying9 (ro.below hw' (Nat.le_refl _))
    go_simp
  go_simp
  refine calm_move _ rfl (by rfl) rfl ?_
  go_simp
  refine calm_do (.string (strOfNums p)) rfl (by rfl) (fun w' hw' => ?_) ?_
  · have hcc := conv_row Try.underlying22 Try.underlying5 Try.underlying9 (rp.below hw' (Nat.le_refl _))
    go_simp
  go_simp
  refine calm_do (.bool false) rfl (by rfl) (fun w' hw' => ?_) ?_
  · go_simp
  go_simp
  refine calm_move _ rfl (by rfl) rfl ?_
  go_simp
  refine calm_move _ rfl (by rfl) rfl ?_
  go_simp
  refine calm_move _ rfl (by rfl) rfl ?_
  go_simp
  refine calm_nil (hK.out _ ?_)
  clear hK K
  refine held_call (i := 7) (fuel := 23) (by kernel_rfl) rfl (by rfl) (fun K hK => ?_)
  go_simp
  have qd := Since.drew w7
  replace rp := rp.below qd (Nat.le_refl _)
  replace rq := rq.below qd (Nat.le_refl _)
  replace ro := ro.below qd (Nat.le_refl _)
  replace rA := rA.below qd (Nat.le_refl _)
  replace rM := rM.below qd (Nat.le_refl _)
  replace rr := rr.below qd (Nat.le_refl _)
  replace ra := ra.below qd (Nat.le_refl _)
  replace rb := rb.below qd (Nat.le_refl _)
  replace q1 := btrans q1 qd
  clear qd
  refine (cD _ _ _ ro bp (by omega)).mono ?_
  rintro e w8 ⟨rfl, qq0⟩
  refine hK _ _ (Since.trans (Since.drew _) qq0) ?_
  have qq : Since _ _ := qq0
  clear hK K qq0
  replace rp := rp.below qq (Nat.le_refl _)
  replace rq := rq.below qq (Nat.le_refl _)
  replace ro := ro.below qq (Nat.le_refl _)
  replace rA := rA.below qq (Nat.le_refl _)
  replace rM := rM.below qq (Nat.le_refl _)
  replace rr := rr.below qq (Nat.le_refl _)
  replace ra := ra.below qq (Nat.le_refl _)
  replace rb := rb.below qq (Nat.le_refl _)
  replace q1 := btrans q1 qq
  clear qq
  refine held_call (i := 9) (fuel := 22) (by kernel_rfl) rfl (by rfl) (fun K hK => ?_)
  go_simp
  refine (refDeg_any _ _ _ (bts p) _ ra (by omega)).mono ?_
  rintro e w' ⟨rfl, rfl⟩
  refine hK _ _ (Since.refl _) ?_
  clear hK K
  refine held_reads (rs := [10, 11, 12, 13, 14, 15, 16]) (fuel := 15) (by kernel_rfl) (fun c d v a w h => by cases d <;> exact h) (by kernel_rfl) (Since.refl _) (fun K hK => ?_)
  go_simp
  refine calm_do (.bool false) rfl (by rfl) (fun w' hw' => ?_) ?_
  · go_simp
  go_simp
  refine calm_do (.bool false) rfl (by rfl) (fun w' hw' => ?_) ?_
  · go_simp
  go_simp
  refine calm_move _ rfl (by rfl) rfl ?_
  go_simp
  refine calm_move _ rfl (by rfl) rfl ?_
  go_simp
  refine calm_do (.string (strOfNums zA)) rfl (by rfl) (fun w' hw' => ?_) ?_
  · have hcc := conv_row Try.underlying22 Try.underlying5 Try.underlying9 (rA.below hw' (Nat.le_refl _))
    go_simp
  go_simp
  refine calm_move _ rfl (by rfl) rfl ?_
  go_simp
  refine calm_move _ rfl (by rfl) rfl ?_
  go_simp
  refine calm_nil (hK.out _ ?_)
  clear hK K
  refine held_call (i := 17) (fuel := 14) (by kernel_rfl) rfl (by rfl) (fun K hK => ?_)
  go_simp
  refine (cRA _ _ _ _ _ ra h1p rb h1q (by omega) (by omega)).mono ?_
  rintro e w9 ⟨a9, cp9, rfl, r9, qq0⟩
  refine hK _ _ (Since.trans (Since.refl _) qq0) ?_
  have qq : Since _ _ := qq0
  clear hK K qq0
  replace rp := rp.below qq (Nat.le_refl _)
  replace rq := rq.below qq (Nat.le_refl _)
  replace ro := ro.below qq (Nat.le_refl _)
  replace rA := rA.below qq (Nat.le_refl _)
  replace rM := rM.below qq (Nat.le_refl _)
  replace rr := rr.below qq (Nat.le_refl _)
  replace ra := ra.below qq (Nat.le_refl _)
  replace rb := rb.below qq (Nat.le_refl _)
  replace q1 := btrans q1 qq
  clear qq
  refine held_call (i := 18) (fuel := 13) (by kernel_rfl) rfl (by rfl) (fun K hK => ?_)
  go_simp
  refine (cBA _ _ _ r9 (by omega)).mono ?_
  rintro e w10 ⟨a10, cp10, rfl, r10, qq0⟩
  refine hK _ _ (Since.trans (Since.refl _) qq0) ?_
  have qq : Since _ _ := qq0
  clear hK K qq0
  replace rp := rp.below qq (Nat.le_refl _)
  replace rq := rq.below qq (Nat.le_refl _)
  replace ro := ro.below qq (Nat.le_refl _)
  replace rA := rA.below qq (Nat.le_refl _)
  replace rM := rM.below qq (Nat.le_refl _)
  replace rr := rr.below qq (Nat.le_refl _)
  replace ra := ra.below qq (Nat.le_refl _)
  replace rb := rb.below qq (Nat.le_refl _)
  replace r9 := r9.below qq (Nat.le_refl _)
  replace q1 := btrans q1 qq
  clear qq
  clear r9
  refine held_reads (rs := [19, 20, 21, 22, 23, 24, 25, 26]) (fuel := 5) (by kernel_rfl) (fun c d v a w h => by cases d <;> exact h) (by kernel_rfl) (Since.refl _) (fun K hK => ?_)
  go_simp
  refine calm_do (.string (strOfNums zA)) rfl (by rfl) (fun w' hw' => ?_) ?_
  · have hcc := conv_row Try.underlying22 Try.underlying5 Try.underlying9 (r10.below hw' (Nat.le_refl _))
    go_simp
  go_simp
  refine calm_do (.bool false) rfl (by rfl) (fun w' hw' => ?_) ?_
  · go_simp
  go_simp
  refine calm_do (.bool false) rfl (by rfl) (fun w' hw' => ?_) ?_
  · go_simp
  go_simp
  refine calm_move _ rfl (by rfl) rfl ?_
  go_simp
  refine calm_move _ rfl (by rfl) rfl ?_
  go_simp
  refine calm_do (.string (strOfNums zM)) rfl (by rfl) (fun w' hw' => ?_) ?_
  · have hcc := conv_row Try.underlying22 Try.underlying5 Try.underlying9 (rM.below hw' (Nat.le_refl _))
    go_simp
  go_simp
  refine calm_move _ rfl (by rfl) rfl ?_
  go_simp
  refine calm_move _ rfl (by rfl) rfl ?_
  go_simp
  refine calm_nil (hK.out _ ?_)
  clear hK K
  refine held_call (i := 27) (fuel := 4) (by kernel_rfl) rfl (by rfl) (fun K hK => ?_)
  go_simp
  refine (refMulB_any _ _ _ _ _ _ (bts p) (bts q) _ ra h1p rb h1q (by omega) (by omega)).mono ?_
  rintro e w11 ⟨lm, a11, h1m, heqm, hlm, rfl, r11, qq0⟩
  refine hK _ _ (Since.trans (Since.refl _) qq0) ?_
  have qq : Since _ _ := qq0
  clear hK K qq0
  replace rp := rp.below qq (Nat.le_refl _)
  replace rq := rq.below qq (Nat.le_refl _)
  replace ro := ro.below qq (Nat.le_refl _)
  replace rA := rA.below qq (Nat.le_refl _)
  replace rM := rM.below qq (Nat.le_refl _)
  replace rr := rr.below qq (Nat.le_refl _)
  replace ra := ra.below qq (Nat.le_refl _)
  replace rb := rb.below qq (Nat.le_refl _)
  replace r10 := r10.below qq (Nat.le_refl _)
  replace q1 := btrans q1 qq
  clear qq
  have HEM : Hid (nb lm = zM) := HNM.out lm heqm
  clear heqm hlm
  clear r10
  refine held_call (i := 28) (fuel := 3) (by kernel_rfl) rfl (by rfl) (fun K hK => ?_)
  go_simp
  refine (refBytes_any _ _ _ lm _ h1m r11 (by omega)).mono ?_
  rintro e w12 ⟨a12, cp12, rfl, r12, qq0⟩
  refine hK _ _ (Since.trans (Since.refl _) qq0) ?_
  have qq : Since _ _ := qq0
  clear hK K qq0
  replace rp := rp.below qq (Nat.le_refl _)
  replace rq := rq.below qq (Nat.le_refl _)
  replace ro := ro.below qq (Nat.le_refl _)
  replace rA := rA.below qq (Nat.le_refl _)
  replace rM := rM.below qq (Nat.le_refl _)
  replace rr := rr.below qq (Nat.le_refl _)
  replace ra := ra.below qq (Nat.le_refl _)
  replace rb := rb.below qq (Nat.le_refl _)
  replace r11 := r11.below qq (Nat.le_refl _)
  replace q1 := btrans q1 qq
  clear qq
  rw [HEM.out] at r12 ⊢
  clear r11
  refine held_reads (rs := [29, 30, 31]) (fuel := 0) (by kernel_rfl) (fun c d v a w h => by cases d <;> exact h) (by kernel_rfl) (Since.refl _) (fun K hK => ?_)
  go_simp
  refine calm_do (.string (strOfNums zM)) rfl (by rfl) (fun w' hw' => ?_) ?_
  · have hcc := conv_row Try.underlying22 Try.underlying5 Try.underlying9 (r12.below hw' (Nat.le_refl _))
    go_simp
  go_simp
  refine calm_do (.bool false) rfl (by rfl) (fun w' hw' => ?_) ?_
  · go_simp
  go_simp
  refine calm_do (.bool false) rfl (by rfl) (fun w' hw' => ?_) ?_
  · go_simp
  go_simp
  refine calm_nil (hK.out _ ?_)
  clear hK K
  refine wpAnyH_done (by kernel_rfl) ?_ _
  clear r12 rA rM ro rp rq
  have HX : Hid (∀ y : Nat, x = y → y < 8192 → ∀ wx b cp, Row .i64 wx b (8 * len) cp (ints (bts p)) → Calls Try.prog 21 #[.slice b (8 * len) cp, .int .i64 y] wx fun e w' => e = .returned (.int .i64 (evl (bts p) y : Nat)) ∧ wx = w') := fun y _ hy wx b cp hb => refVal_any b (8 * len) cp (bts p) y wx hb h1p hy (by omega)
  cases hx : isE x
  · obtain ⟨rfl, rfl⟩ := HVF.out.2 hx
    go_wp2_with fail
    refine (is_any x _).mono ?_
    rintro e w' ⟨rfl, rfl⟩
    rw [hx]
    clear HX hx
    by_cases hnq : norm (bts q) = []
    · obtain ⟨rfl, rfl⟩ := HMOD.out.1 hnq
      have hd0 : (norm (bts q)).length = 0 := by rw [hnq]; rfl
      clear hnq
      go_wp2_with fail
      refine (refDeg_any _ _ _ (bts q) _ rb (by omega)).mono ?_
      rintro e w' ⟨rfl, rfl⟩
      rw [hd0]
      clear hd0
      go_wp2_with fail
      refine (awake4_any hD hM hO hN hG _).mono ?_
      rintro e w13 ⟨rfl, qq⟩
      replace rr := rr.below qq (Nat.le_refl _)
      replace ra := ra.below qq (Nat.le_refl _)
      replace rb := rb.below qq (Nat.le_refl _)
      replace q1 := btrans q1 qq
      clear qq
      go_wp2_with fail
      go_ret
      exact ⟨rfl, q1⟩
    · obtain ⟨rfl, rm, hrm, rfl⟩ := HMOD.out.2 hnq
      have HRM : Hid (IsMod (bts p) (bts q) rm) := hrm
      have hdq : 0 < (norm (bts q)).length := List.length_pos_iff.2 hnq
      have hdq2 : (norm (bts q)).length ≤ 1000 := by have := norm_length_le (bts q); rw [length_bts] at this; have := HLq.out; omega
      have cDb := refDeg_any ab (8 * len') cpb (bts q)
      generalize hdd : (norm (bts q)).length = dq at *
      clear hdd hrm
      generalize hzr : nb rm = zr at *
      have HZR : Hid (nb rm = zr) := hzr
      clear hzr
      have hdq3 : ¬ ((dq : Int) - 1 < 0) := by omega
      go_wp2_with fail
      refine (cDb _ rb (by omega)).mono ?_
      rintro e w' ⟨rfl, rfl⟩
      go_wp2_with fail
      refine held_begin (by kernel_rfl) ?_
      refine held_call (i := 0) (fuel := 15) (by kernel_rfl) rfl (by rfl) (fun K hK => ?_)
      go_simp
      have qd := Since.drew w12
      replace rr := rr.below qd (Nat.le_refl _)
      replace ra := ra.below qd (Nat.le_refl _)
      replace rb := rb.below qd (Nat.le_refl _)
      replace q1 := btrans q1 qd
      clear qd
      refine (awake4_any hD hM hO hN hG _).mono ?_
      rintro e w13 ⟨rfl, qq0⟩
      refine hK _ _ (Since.trans (Since.drew _) qq0) ?_
      have qq : Since _ _ := qq0
      clear hK K qq0
      replace rr := rr.below qq (Nat.le_refl _)
      replace ra := ra.below qq (Nat.le_refl _)
      replace rb := rb.below qq (Nat.le_refl _)
      replace q1 := btrans q1 qq
      clear qq
      refine held_reads (rs := [1, 2, 3, 4, 5, 6, 7, 8, 9]) (fuel := 6) (by kernel_rfl) (fun c d v a w h => by cases d <;> exact h) (by kernel_rfl) (Since.refl _) (fun K hK => ?_)
      go_simp
      refine calm_move _ rfl (by rfl) rfl ?_
      go_simp
      refine calm_move _ rfl (by rfl) rfl ?_
      go_simp
      refine calm_do (.bool true) rfl (by rfl) (fun w' hw' => ?_) ?_
      · go_simp
      go_simp
      refine calm_do (.bool true) rfl (by rfl) (fun w' hw' => ?_) ?_
      · go_simp
      go_simp
      refine calm_move _ rfl (by rfl) rfl ?_
      go_simp
      refine calm_move _ rfl (by rfl) rfl ?_
      go_simp
      refine calm_do (.string (strOfNums zr)) rfl (by rfl) (fun w' hw' => ?_) ?_
      · have hcc := conv_row Try.underlying22 Try.underlying5 Try.underlying9 (rr.below hw' (Nat.le_refl _))
        go_simp
      go_simp
      refine calm_move _ rfl (by rfl) rfl ?_
      go_simp
      refine calm_move _ rfl (by rfl) rfl ?_
      go_simp
      refine calm_nil (hK.out _ ?_)
      clear hK K
      refine held_call (i := 10) (fuel := 5) (by kernel_rfl) rfl (by rfl) (fun K hK => ?_)
      go_simp
      refine (refMod_any _ _ _ _ _ _ (bts p) (bts q) _ ra h1p rb h1q hnq (by omega) (by omega)).mono ?_
      rintro e w14 ⟨lr, a20, cp20, hlr, hll, rfl, r20, qq0⟩
      refine hK _ _ (Since.trans (Since.refl _) qq0) ?_
      have qq : Since _ _ := qq0
      clear hK K qq0
      replace rr := rr.below qq (Nat.le_refl _)
      replace ra := ra.below qq (Nat.le_refl _)
      replace rb := rb.below qq (Nat.le_refl _)
      replace q1 := btrans q1 qq
      clear qq
      have HLR : Hid (nb lr = zr) := by show _ = _; rw [← HZR.out]; exact HUN.out rm lr HRM.out hlr
      have h1l := hlr.hr
      clear hlr hll
      refine held_call (i := 11) (fuel := 4) (by kernel_rfl) rfl (by rfl) (fun K hK => ?_)
      go_simp
      refine (refBytes_any _ _ _ lr _ h1l r20 (by omega)).mono ?_
      rintro e w15 ⟨a21, cp21, rfl, r21, qq0⟩
      refine hK _ _ (Since.trans (Since.refl _) qq0) ?_
      have qq : Since _ _ := qq0
      clear hK K qq0
      replace rr := rr.below qq (Nat.le_refl _)
      replace ra := ra.below qq (Nat.le_refl _)
      replace rb := rb.below qq (Nat.le_refl _)
      replace r20 := r20.below qq (Nat.le_refl _)
      replace q1 := btrans q1 qq
      clear qq
      rw [HLR.out] at r21 ⊢
      clear r20
      refine held_reads (rs := [12, 13, 14, 15]) (fuel := 0) (by kernel_rfl) (fun c d v a w h => by cases d <;> exact h) (by kernel_rfl) (Since.refl _) (fun K hK => ?_)
      go_simp
      refine calm_do (.string (strOfNums zr)) rfl (by rfl) (fun w' hw' => ?_) ?_
      · have hcc := conv_row Try.underlying22 Try.underlying5 Try.underlying9 (r21.below hw' (Nat.le_refl _))
        go_simp
      go_simp
      refine calm_do (.bool true) rfl (by rfl) (fun w' hw' => ?_) ?_
      · go_simp
      go_simp
      refine calm_do (.bool true) rfl (by rfl) (fun w' hw' => ?_) ?_
      · go_simp
      go_simp
      refine calm_assign _ rfl (by rfl) rfl ?_
      go_simp
      refine calm_nil (hK.out _ ?_)
      clear hK K
      refine wpAnyH_done (by kernel_rfl) ?_ _
      go_wp2
      go_ret
      exact ⟨rfl, q1⟩
  · obtain ⟨rfl, rfl⟩ := HVF.out.1 hx
    obtain ⟨y, rfl, hy⟩ := isE_true hx
    rw [show ((y : Nat) : Int).toNat = y from by omega]
    go_wp2_with fail
    refine (is_any _ _).mono ?_
    rintro e w' ⟨rfl, rfl⟩
    rw [hx]
    go_wp2_with fail
    refine (HX.out y rfl hy _ _ _ ra).mono ?_
    rintro e w' ⟨rfl, rfl⟩
    clear HX hx HVF cV
    by_cases hnq : norm (bts q) = []
    · obtain ⟨rfl, rfl⟩ := HMOD.out.1 hnq
      have hd0 : (norm (bts q)).length = 0 := by rw [hnq]; rfl
      clear hnq
      go_wp2_with fail
      refine (refDeg_any _ _ _ (bts q) _ rb (by omega)).mono ?_
      rintro e w' ⟨rfl, rfl⟩
      rw [hd0]
      clear hd0
      go_wp2_with fail
      refine (awake4_any hD hM hO hN hG _).mono ?_
      rintro e w13 ⟨rfl, qq⟩
      replace rr := rr.below qq (Nat.le_refl _)
      replace ra := ra.below qq (Nat.le_refl _)
      replace rb := rb.below qq (Nat.le_refl _)
      replace q1 := btrans q1 qq
      clear qq
      go_wp2_with fail
      go_ret
      exact ⟨rfl, q1⟩
    · obtain ⟨rfl, rm, hrm, rfl⟩ := HMOD.out.2 hnq
      have HRM : Hid (IsMod (bts p) (bts q) rm) := hrm
      have hdq : 0 < (norm (bts q)).length := List.length_pos_iff.2 hnq
      have hdq2 : (norm (bts q)).length ≤ 1000 := by have := norm_length_le (bts q); rw [length_bts] at this; have := HLq.out; omega
      have cDb := refDeg_any ab (8 * len') cpb (bts q)
      generalize hdd : (norm (bts q)).length = dq at *
      clear hdd hrm
      generalize hzr : nb rm = zr at *
      have HZR : Hid (nb rm = zr) := hzr
      clear hzr
      have hdq3 : ¬ ((dq : Int) - 1 < 0) := by omega
      go_wp2_with fail
      refine (cDb _ rb (by omega)).mono ?_
      rintro e w' ⟨rfl, rfl⟩
      go_wp2_with fail
      refine held_begin (by kernel_rfl) ?_
      refine held_call (i := 0) (fuel := 15) (by kernel_rfl) rfl (by rfl) (fun K hK => ?_)
      go_simp
      have qd := Since.drew w12
      replace rr := rr.below qd (Nat.le_refl _)
      replace ra := ra.below qd (Nat.le_refl _)
      replace rb := rb.below qd (Nat.le_refl _)
      replace q1 := btrans q1 qd
      clear qd
      refine (awake4_any hD hM hO hN hG _).mono ?_
      rintro e w13 ⟨rfl, qq0⟩
      refine hK _ _ (Since.trans (Since.drew _) qq0) ?_
      have qq : Since _ _ := qq0
      clear hK K qq0
      replace rr := rr.below qq (Nat.le_refl _)
      replace ra := ra.below qq (Nat.le_refl _)
      replace rb := rb.below qq (Nat.le_refl _)
      replace q1 := btrans q1 qq
      clear qq
      refine held_reads (rs := [1, 2, 3, 4, 5, 6, 7, 8, 9]) (fuel := 6) (by kernel_rfl) (fun c d v a w h => by cases d <;> exact h) (by kernel_rfl) (Since.refl _) (fun K hK => ?_)
      go_simp
      refine calm_move _ rfl (by rfl) rfl ?_
      go_simp
      refine calm_move _ rfl (by rfl) rfl ?_
      go_simp
      refine calm_do (.bool true) rfl (by rfl) (fun w' hw' => ?_) ?_
      · go_simp
      go_simp
      refine calm_do (.bool true) rfl (by rfl) (fun w' hw' => ?_) ?_
      · go_simp
      go_simp
      refine calm_move _ rfl (by rfl) rfl ?_
      go_simp
      refine calm_move _ rfl (by rfl) rfl ?_
      go_simp
      refine calm_do (.string (strOfNums zr)) rfl (by rfl) (fun w' hw' => ?_) ?_
      · have hcc := conv_row Try.underlying22 Try.underlying5 Try.underlying9 (rr.below hw' (Nat.le_refl _))
        go_simp
      go_simp
      refine calm_move _ rfl (by rfl) rfl ?_
      go_simp
      refine calm_move _ rfl (by rfl) rfl ?_
      go_simp
      refine calm_nil (hK.out _ ?_)
      clear hK K
      refine held_call (i := 10) (fuel := 5) (by kernel_rfl) rfl (by rfl) (fun K hK => ?_)
      go_simp
      refine (refMod_any _ _ _ _ _ _ (bts p) (bts q) _ ra h1p rb h1q hnq (by omega) (by omega)).mono ?_
      rintro e w14 ⟨lr, a20, cp20, hlr, hll, rfl, r20, qq0⟩
      refine hK _ _ (Since.trans (Since.refl _) qq0) ?_
      have qq : Since _ _ := qq0
      clear hK K qq0
      replace rr := rr.below qq (Nat.le_refl _)
      replace ra := ra.below qq (Nat.le_refl _)
      replace rb := rb.below qq (Nat.le_refl _)
      replace q1 := btrans q1 qq
      clear qq
      have HLR : Hid (nb lr = zr) := by show _ = _; rw [← HZR.out]; exact HUN.out rm lr HRM.out hlr
      have h1l := hlr.hr
      clear hlr hll
      refine held_call (i := 11) (fuel := 4) (by kernel_rfl) rfl (by rfl) (fun K hK => ?_)
      go_simp
      refine (refBytes_any _ _ _ lr _ h1l r20 (by omega)).mono ?_
      rintro e w15 ⟨a21, cp21, rfl, r21, qq0⟩
      refine hK _ _ (Since.trans (Since.refl _) qq0) ?_
      have qq : Since _ _ := qq0
      clear hK K qq0
      replace rr := rr.below qq (Nat.le_refl _)
      replace ra := ra.below qq (Nat.le_refl _)
      replace rb := rb.below qq (Nat.le_refl _)
      replace r20 := r20.below qq (Nat.le_refl _)
      replace q1 := btrans q1 qq
      clear qq
      rw [HLR.out] at r21 ⊢
      clear r20
      refine held_reads (rs := [12, 13, 14, 15]) (fuel := 0) (by kernel_rfl) (fun c d v a w h => by cases d <;> exact h) (by kernel_rfl) (Since.refl _) (fun K hK => ?_)
      go_simp
      refine calm_do (.string (strOfNums zr)) rfl (by rfl) (fun w' hw' => ?_) ?_
      · have hcc := conv_row Try.underlying22 Try.underlying5 Try.underlying9 (r21.below hw' (Nat.le_refl _))
        go_simp
      go_simp
      refine calm_do (.bool true) rfl (by rfl) (fun w' hw' => ?_) ?_
      · go_simp
      go_simp
      refine calm_do (.bool true) rfl (by rfl) (fun w' hw' => ?_) ?_
      · go_simp
      go_simp
      refine calm_assign _ rfl (by rfl) rfl ?_
      go_simp
      refine calm_nil (hK.out _ ?_)
      clear hK K
      refine wpAnyH_done (by kernel_rfl) ?_ _
      go_wp2
      go_ret
      exact ⟨rfl, q1⟩

end Go.Proofs.Ytichbednhdofoaa
