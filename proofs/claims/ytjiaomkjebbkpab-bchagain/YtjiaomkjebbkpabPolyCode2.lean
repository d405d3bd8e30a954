/-
  The code of layer 3 (poly), as it landed: normal, coefficient, and from them Norm, Add, Derive, Eval return what the face asks.
-/
import Derived.Test.YtjiaomkjebbkpabPolyCode
namespace Go.Proofs.Ytjiaomkjebbkpab
open Go.RowKit
set_option linter.unusedVariables false

/-- A row that lies below block B. -/
structure LRow (B : Nat) (k : IntKind) (w : World) (a : Option Addr) (len cap : Nat) (zs : List Int) : Prop where
  row : Row k w a len cap zs
  low : ∀ x, a = some x → 0 < len → x.block < B
theorem LRow.below {B : Nat} {k : IntKind} {w w' : World} {a : Option Addr} {len cap : Nat} {zs : List Int} (h : LRow B k w a len cap zs) (hb : Below B w w') : LRow B k w' a len cap zs := by
  refine ⟨⟨h.row.hlen, h.row.hcap, h.row.hmax, h.row.hnil, fun h0 => ?_⟩, h.low⟩
  obtain ⟨b, off, rfl, hbs, hcell⟩ := h.row.hcell h0
  refine ⟨b, off, rfl, by have := hb.size; omega, fun i hi => ?_⟩
  rw [hb.cell (p := ⟨b, off + i, none⟩) (h.low ⟨b, off, none⟩ rfl h0)]
  exact hcell i hi
theorem Row.lt {k : IntKind} {w : World} {a : Option Addr} {len cap : Nat} {zs : List Int} (h : Row k w a len cap zs) : ∀ x, a = some x → 0 < len → x.block < w.heap.size := fun x hx h0 => by
  obtain ⟨b, off, rfl, hbs, hcell⟩ := h.hcell h0
  simp only [Option.some.injEq] at hx
  subst hx
  exact hbs
theorem Row.lrow {k : IntKind} {w w' : World} {a : Option Addr} {len cap : Nat} {zs : List Int} {B : Nat} (h : Row k w a len cap zs) (hb : Below w.heap.size w w') (hB : w.heap.size ≤ B) : LRow B k w' a len cap zs :=
  ⟨h.below hb (Nat.le_refl _), fun x hx h0 => by have := h.lt x hx h0; omega⟩
theorem Row.grown {k : IntKind} {w w' : World} {a : Option Addr} {len cap : Nat} {zs : List Int} (h : Row k w a len cap zs) (hg : w.grownBy w' none) : Row k w' a len cap zs :=
  h.below (below_of_grown hg (Nat.le_refl _) (by simp)) (Nat.le_refl _)

theorem Row.drewN {k : IntKind} {w : World} {a : Option Addr} {len cap : Nat} {zs : List Int} (h : Row k w a len cap zs) (n : Nat) : Row k (w.drewN n) a len cap zs := h.grown (grown_drewN w n none)

/-- The box of a slice, and the slice in it. -/
structure Boxed1 (bx : Nat) (B : Nat) (w : World) (a : Option Addr) (len cap : Nat) (p : List Nat) : Prop where
  box : w.cell? ⟨bx, 0, none⟩ = some (.slice a len cap)
  lrow : LRow B .i64 w a len cap (ints p)
theorem Boxed1.below {bx B : Nat} {w w' : World} {a : Option Addr} {len cap : Nat} {p : List Nat} (h : Boxed1 bx B w a len cap p) (hb : Below B w w') (hbx : bx < B) : Boxed1 bx B w' a len cap p :=
  ⟨by rw [hb.cell hbx]; exact h.box, h.lrow.below hb⟩
theorem Boxed1.grown {bx B : Nat} {w w' : World} {a : Option Addr} {len cap : Nat} {p : List Nat} (h : Boxed1 bx B w a len cap p) (hg : w.grownBy w' none) : Boxed1 bx B w' a len cap p :=
  ⟨hg.cell h.box (by simp), ⟨h.lrow.row.grown hg, h.lrow.low⟩⟩

set_option maxHeartbeats 400000 in
theorem normalAt_any (bx B : Nat) (a : Option Addr) (len cap : Nat) (p : List Nat) (k : Nat) (w : World) (hk : k < len) (h : Boxed1 bx B w a len cap p) (hsm : len ≤ 100000) :
    Calls Try.prog 61 #[.int .i64 k, .pointer (some ⟨bx, 0, none⟩)] w fun e w' => e = .returned (.int .i64 (cf p k : Nat)) ∧ w = w' := by
  have hbox := h.box
  obtain ⟨b, off, rfl, hbs, hcell⟩ := h.lrow.row.hcell (by omega)
  have hc1 := hcell k hk
  rw [ints_get] at hc1
  clear hcell h
  have hkk : (k : Int) < (len : Int) := by omega
  go_enter Try.func61, Try.ntmps61
  go_wp2
  go_ret
  exact ⟨rfl, rfl⟩
theorem normal_asks (bx B : Nat) (a : Option Addr) (len cap : Nat) (p : List Nat) (hbx : bx < B) (hsm : len ≤ 100000) :
    Asks 61 #[.pointer (some ⟨bx, 0, none⟩)] len (cf p) B none (fun _ w => Boxed1 bx B w a len cap p) where
  body := fun _ _ => rfl
  call := fun k w hk hB hI => (normalAt_any bx B a len cap p k w hk hI hsm).mono fun e w' ⟨h1, h2⟩ => ⟨h1, h2 ▸ hI, h2 ▸ World.grownBy.refl _ _⟩
  keep := fun k w w' hI hb => hI.below hb hbx
  low := by simp

set_option maxHeartbeats 800000 in
set_option maxRecDepth 100000 in
theorem normal_any (a : Option Addr) (len cap : Nat) (p : List Nat) (w : World) (hr : Row .i64 w a len cap (ints p)) (hsm : len ≤ 100000) :
    Calls Try.prog 54 #[.slice a len cap] w fun e w' => ∃ v, e = .returned v ∧ w'.ownsRow w.heap.size 3 1 v (norm p).length ((ints (norm p)).map (Value.int .i64)) ∧ Below w.heap.size w w' := by
  have HL : Hid (p.length = len) := by have := hr.hlen; rwa [length_ints] at this
  have HB : Hid (Boxed1 w.heap.size (w.heap.size + 1) (w.alloc (.cells #[.slice a len cap] 30)) a len cap p) :=
    ⟨by rw [World.cell?_alloc_at _ _ _ _ rfl]; rfl, hr.lrow (below_one _ _) (by omega)⟩
  go_enter Try.func54, Try.ntmps54
  go_wp2_with fail
  refine (laid_any _ _ (len : Int) (cf p) (w.heap.size + 1) none _ _ (normal_asks w.heap.size (w.heap.size + 1) a len cap p (by omega) hsm) HB.out (by simp) (by omega) (by omega)).mono ?_
  rintro e w1 ⟨v, rfl, hown, _, hgr⟩
  rw [show tabL (cf p) ((len : Int)).toNat = p from by rw [Int.toNat_natCast, ← HL.out]; exact tabL_cf p] at hown
  go_wp2
  go_ret
  refine ⟨_, rfl, owns_base hown (by omega), btrans (below_one w _) (below_of_grown hgr (Nat.le_refl _) (by simp))⟩

theorem hands_nil (w w' : World) (n : Int) (hb : Below w.heap.size w w') : Hands w [] n (.returned (.tuple #[.slice none 0 0, .int .i64 n])) w' :=
  ⟨none, 0, rfl, ⟨rfl, Nat.le_refl _, Nat.zero_le _, fun _ => rfl, fun h => absurd h (by simp)⟩, hb⟩
theorem hands_own {w w' : World} {e : TypeId} {B : Nat} {v : Value} {r : List Nat} (n : Int) (hown : w'.ownsRow B e 1 v r.length ((ints r).map (Value.int .i64))) (hb : Below w.heap.size w w') : Hands w r n (.returned (.tuple #[v, .int .i64 n])) w' := by
  obtain ⟨a, cap, rfl, hrow⟩ := row_of_owns hown
  exact ⟨a, cap, rfl, hrow, hb⟩

set_option maxHeartbeats 400000 in
theorem coef_any (a : Option Addr) (len cap : Nat) (p : List Nat) (k : Nat) (w : World) (hr : Row .i64 w a len cap (ints p)) (hsm : len ≤ 100000) (hk : k ≤ 1000000) :
    Calls Try.prog 46 #[.slice a len cap, .int .i64 k] w fun e w' => e = .returned (.int .i64 (cf p k : Nat)) ∧ w = w' := by
  by_cases hlt : k < len
  · obtain ⟨b, off, rfl, hbs, hcell⟩ := hr.hcell (by omega)
    have hc1 := hcell k hlt
    rw [ints_get] at hc1
    clear hcell
    have hkk : (k : Int) < (len : Int) := by omega
    go_enter Try.func46, Try.ntmps46
    go_wp2
    go_ret
    exact ⟨rfl, rfl⟩
  · have HZ : Hid (cf p k = 0) := cf_big p k (by have := hr.hlen; rw [length_ints] at this; omega)
    have hkk : (len : Int) ≤ (k : Int) := by omega
    go_enter Try.func46, Try.ntmps46
    go_wp2
    go_ret
    exact ⟨ret_int (by rw [HZ.out]; rfl), rfl⟩

set_option maxHeartbeats 800000 in
theorem addAt_any (bx by_ B : Nat) (a c : Option Addr) (len cap len' cap' : Nat) (p q : List Nat) (k : Nat) (w : World) (hp : IsP p) (hq : IsP q) (hk : k ≤ 1000000) (h : Boxed1 bx B w a len cap p) (h' : Boxed1 by_ B w c len' cap' q) (hsm : len ≤ 100000) (hsm' : len' ≤ 100000) :
    Calls Try.prog 45 #[.int .i64 k, .pointer (some ⟨bx, 0, none⟩), .pointer (some ⟨by_, 0, none⟩)] w fun e w' => e = .returned (.int .i64 ((cf p k ^^^ cf q k : Nat) : Int)) ∧ w.grownBy w' none := by
  have hbox := h.box
  have hbox' := h'.box
  have hr := h.lrow.row
  have hr' := h'.lrow.row
  have c1 := cf_lt hp k
  have c2 := cf_lt hq k
  clear h h'
  go_enter Try.func45, Try.ntmps45
  go_wp2
  go_quiet (first
    | (go_at_call 46; with_reducible exact quiet_eq (coef_any a len cap p k _ (hr.drewN _) hsm hk))
    | (go_at_call 46; with_reducible exact quiet_eq (coef_any c len' cap' q k _ (hr'.drewN _) hsm' hk)))
  go_wp2
  go_ret
  exact ⟨ret_int (xor_i64 _ _ (by omega) (by omega)), grown_drewN _ _ _⟩

theorem add_asks (bx by_ B : Nat) (a c : Option Addr) (len cap len' cap' : Nat) (p q : List Nat) (hp : IsP p) (hq : IsP q) (hbx : bx < B) (hby : by_ < B) (hsm : len ≤ 100000) (hsm' : len' ≤ 100000) (n : Nat) (hn : n ≤ 100000) :
    Asks 45 #[.pointer (some ⟨bx, 0, none⟩), .pointer (some ⟨by_, 0, none⟩)] n (fun i => cf p i ^^^ cf q i) B none (fun _ w => Boxed1 bx B w a len cap p ∧ Boxed1 by_ B w c len' cap' q) where
  body := fun _ _ => rfl
  call := fun k w hk hB hI => (addAt_any bx by_ B a c len cap len' cap' p q k w hp hq (by omega) hI.1 hI.2 hsm hsm').mono fun e w' ⟨h1, h2⟩ => ⟨h1, ⟨hI.1.grown h2, hI.2.grown h2⟩, h2⟩
  keep := fun k w w' hI hb => ⟨hI.1.below hb hbx, hI.2.below hb hby⟩
  low := by simp

theorem boxes (w : World) (T : TypeId) (a c : Option Addr) (len cap len' cap' : Nat) (p q : List Nat) (hr : Row .i64 w a len cap (ints p)) (hr' : Row .i64 w c len' cap' (ints q)) :
    Boxed1 w.heap.size (w.heap.size + 2) ((w.alloc (.cells #[.slice a len cap] T)).alloc (.cells #[.slice c len' cap'] T)) a len cap p ∧
    Boxed1 (w.heap.size + 1) (w.heap.size + 2) ((w.alloc (.cells #[.slice a len cap] T)).alloc (.cells #[.slice c len' cap'] T)) c len' cap' q := by
  refine ⟨⟨?_, hr.lrow (below_two _ _ _) (by omega)⟩, ⟨?_, hr'.lrow (below_two _ _ _) (by omega)⟩⟩
  · rw [World.cell?_alloc_past _ _ _ (by simp), World.cell?_alloc_at _ _ _ _ rfl]; rfl
  · rw [World.cell?_alloc_at _ _ _ _ (by simp)]; rfl
set_option maxHeartbeats 1600000 in
set_option maxRecDepth 100000 in
theorem addC : AddC where
  no := by
    intro a c len cap len' cap' zs ys w hr hr' hsm hsm' hz
    have hr2 := hr.below (below_two w (.cells #[.slice a len cap] 30) (.cells #[.slice c len' cap'] 30)) (Nat.le_refl _)
    have hr3 := hr'.below (below_two w (.cells #[.slice a len cap] 30) (.cells #[.slice c len' cap'] 30)) (Nat.le_refl _)
    cases h1 : allE zs
    · go_enter Try.func27, Try.ntmps27
      go_wp2_with fail
      refine (elements_any _ _ _ zs _ hr2).mono ?_
      rintro e w' ⟨rfl, rfl⟩
      rw [h1]
      go_wp2_with fail
      go_ret2
      exact hands_nil _ _ _ (below_two _ _ _)
    · have h2 : allE ys = false := by rw [h1] at hz; simpa using hz
      go_enter Try.func27, Try.ntmps27
      go_wp2_with fail
      refine (elements_any _ _ _ zs _ hr2).mono ?_
      rintro e w' ⟨rfl, rfl⟩
      rw [h1]
      go_wp2_with fail
      refine (elements_any _ _ _ ys _ hr3).mono ?_
      rintro e w' ⟨rfl, rfl⟩
      rw [h2]
      go_wp2_with fail
      go_ret2
      exact hands_nil _ _ _ (below_two _ _ _)
  yes := by
    intro a c len cap len' cap' p q w hr hr' hsm hsm' hp hq
    have HL : Hid (p.length = len) := by have := hr.hlen; rwa [length_ints] at this
    have HL' : Hid (q.length = len') := by have := hr'.hlen; rwa [length_ints] at this
    have hr2 := hr.below (below_two w (.cells #[.slice a len cap] 30) (.cells #[.slice c len' cap'] 30)) (Nat.le_refl _)
    have hr3 := hr'.below (below_two w (.cells #[.slice a len cap] 30) (.cells #[.slice c len' cap'] 30)) (Nat.le_refl _)
    have HB : Hid _ := boxes w 30 a c len cap len' cap' p q hr hr'
    by_cases h12 : len' ≤ len
    · have hmx : (len' : Int) ≤ (len : Int) := by omega
      go_enter Try.func27, Try.ntmps27
      go_wp2_with fail
      refine (elements_any _ _ _ _ _ hr2).mono ?_
      rintro e w' ⟨rfl, rfl⟩
      rw [allE_ints hp]
      go_wp2_with fail
      refine (elements_any _ _ _ _ _ hr3).mono ?_
      rintro e w' ⟨rfl, rfl⟩
      rw [allE_ints hq]
      go_wp2_with fail
      refine (laid_any _ _ (len : Int) (fun i => cf p i ^^^ cf q i) (w.heap.size + 2) none _ _ (add_asks w.heap.size (w.heap.size + 1) (w.heap.size + 2) a c len cap len' cap' p q hp hq (by omega) (by omega) (by omega) (by omega) len (by omega)) HB.out (by simp) (by omega) (by omega)).mono ?_
      rintro e w1 ⟨v, rfl, hown, _, hgr⟩
      rw [show norm (tabL (fun i => cf p i ^^^ cf q i) ((len : Int)).toNat) = norm (addL p q) from sumTo_norm p q len (by have := HL.out; omega) (by have := HL'.out; omega)] at hown
      go_wp2
      go_ret2
      exact hands_own _ hown (btrans (below_two _ _ _) (below_of_grown hgr (Nat.le_refl _) (by simp)))
    · have hmx : (len : Int) < (len' : Int) := by omega
      go_enter Try.func27, Try.ntmps27
      go_wp2_with fail
      refine (elements_any _ _ _ _ _ hr2).mono ?_
      rintro e w' ⟨rfl, rfl⟩
      rw [allE_ints hp]
      go_wp2_with fail
      refine (elements_any _ _ _ _ _ hr3).mono ?_
      rintro e w' ⟨rfl, rfl⟩
      rw [allE_ints hq]
      go_wp2_with fail
      refine (laid_any _ _ (len' : Int) (fun i => cf p i ^^^ cf q i) (w.heap.size + 2) none _ _ (add_asks w.heap.size (w.heap.size + 1) (w.heap.size + 2) a c len cap len' cap' p q hp hq (by omega) (by omega) (by omega) (by omega) len' (by omega)) HB.out (by simp) (by omega) (by omega)).mono ?_
      rintro e w1 ⟨v, rfl, hown, _, hgr⟩
      rw [show norm (tabL (fun i => cf p i ^^^ cf q i) ((len' : Int)).toNat) = norm (addL p q) from sumTo_norm p q len' (by have := HL.out; omega) (by have := HL'.out; omega)] at hown
      go_wp2
      go_ret2
      exact hands_own _ hown (btrans (below_two _ _ _) (below_of_grown hgr (Nat.le_refl _) (by simp)))

theorem evl_drop (p : List Nat) (x k : Nat) (hk : k < p.length) : evl (p.drop k) x = cf p k ^^^ gmul x (evl (p.drop (k + 1)) x) := by
  rw [List.drop_eq_getElem_cons hk]
  show p[k] ^^^ _ = _
  unfold cf
  rw [List.getElem?_eq_getElem hk]; rfl
theorem isP_drop {p : List Nat} (h : IsP p) (k : Nat) : IsP (p.drop k) := fun x hx => h x (List.mem_of_mem_drop hx)

set_option maxHeartbeats 1600000 in
set_option maxRecDepth 100000 in
theorem evalC : EvalC where
  no := by
    intro a len cap zs x w hr hsm hz
    cases h1 : allE zs
    · go_enter Try.func29, Try.ntmps29
      go_wp2_with fail
      refine (elements_any _ _ _ zs _ hr).mono ?_
      rintro e w' ⟨rfl, rfl⟩
      rw [h1]
      go_wp2_with fail
      go_ret2
      exact ⟨rfl, Below.refl _ _⟩
    · have h2 : allE [x] = false := by rw [h1] at hz; simpa [allE] using hz
      have hr2 := row_new .i64 w 3 w.heap.size rfl [x] 1 rfl (by decide) #[.int .i64 x] rfl
      go_enter Try.func29, Try.ntmps29
      go_wp2_with fail
      refine (elements_any _ _ _ zs _ hr).mono ?_
      rintro e w' ⟨rfl, rfl⟩
      rw [h1]
      go_wp2_with fail
      refine (elements_any _ _ _ [x] _ hr2).mono ?_
      rintro e w' ⟨rfl, rfl⟩
      rw [h2]
      go_wp2_with fail
      go_ret2
      exact ⟨rfl, below_one _ _⟩
  yes := by
    intro a len cap p x w hr hsm hp hx
    have HL : Hid (p.length = len) := by have := hr.hlen; rwa [length_ints] at this
    have h2 : allE [(x : Int)] = true := by simp [allE, isE_nat hx]
    have hr2 := row_new .i64 w 3 w.heap.size rfl [(x : Int)] 1 rfl (by decide) #[.int .i64 x] rfl
    have hr3 := hr.below (below_one w (.cells #[.int .i64 x] 3)) (Nat.le_refl _)
    go_enter Try.func29, Try.ntmps29
    go_wp2_with fail
    refine (elements_any _ _ _ _ _ hr).mono ?_
    rintro e w' ⟨rfl, rfl⟩
    rw [allE_ints hp]
    go_wp2_with fail
    refine (elements_any _ _ _ [(x : Int)] _ hr2).mono ?_
    rintro e w' ⟨rfl, rfl⟩
    rw [h2]
    go_wp2_with fail
    go_loopw [6, 7] (fun o y wr => ∃ k : Nat, k ≤ len ∧ y = .int .i64 ((k : Int) - 1) ∧ o = .int .i64 (evl (p.drop k) x : Nat) ∧ (w.alloc (.cells #[.int .i64 x] 3)).grownBy wr none) (fun _ y _ => (intOf y + 1).toNat)
    case atStart => exact ⟨len, Nat.le_refl _, rfl, by rw [List.drop_of_length_le (by have := HL.out; omega)]; rfl, World.grownBy.refl _ _⟩
    case round =>
      obtain ⟨k, hk, rfl, rfl, hg⟩ := hrel
      by_cases h0 : k = 0
      · subst h0
        go_wp2
        go_ret2
        exact ⟨rfl, btrans (below_one _ _) (below_of_grown hg (Nat.le_refl _) (by simp))⟩
      · obtain ⟨j, rfl⟩ := Nat.exists_eq_add_one_of_ne_zero h0
        have hrr := hr3.grown hg
        obtain ⟨b, off, rfl, hbs, hcell⟩ := hrr.hcell (by omega)
        have hc1 := hcell j (by omega)
        rw [ints_get] at hc1
        clear hcell hrr
        have hjj : (j : Int) < (len : Int) := by omega
        have c1 := cf_lt hp j
        have c2 := evl_lt (isP_drop hp (j + 1)) x hx
        have HS : Hid (evl (p.drop j) x = cf p j ^^^ gmul x (evl (p.drop (j + 1)) x)) := evl_drop p x j (by have := HL.out; omega)
        generalize evl (p.drop (j + 1)) x = o at *
        have c3 := gmul_lt o x c2
        rw [show ((j + 1 : Nat) : Int) - 1 = (j : Int) from by omega]
        go_wp2
        go_quiet (first | (go_at_call 48; with_reducible exact quiet_eq (times_any o x _ c2 hx)))
        go_wp2
        go_roundw
        case rel =>
          refine ⟨j, by omega, by go_num, ?_, hg.trans (grown_drewN _ _ _)⟩
          rw [HS.out, Nat.xor_comm, gmul_comm x o hx c2, xor_i64 _ _ (by omega) (by omega)]
        case measure => simp [intOf]

end Go.Proofs.Ytjiaomkjebbkpab
