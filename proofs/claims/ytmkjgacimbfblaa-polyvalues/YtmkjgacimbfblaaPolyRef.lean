/-
  Layer 3's reference (casemateref03): Is, Norm, at, Add, Mul, Eval, Derive give what the plain functions of polynomials give; nothing old turns.
-/
import Derived.Test.YtmkjgacimbfblaaPolyPlain
import Derived.Test.YtmkjgacimbfblaaGfRef
namespace Go.Proofs.Ytmkjgacimbfblaa
open Go.RowKit
set_option linter.unusedVariables false

theorem Try.info3 : (Try.prog.info? 3).map (fun i => (i.zero, i.size, i.bytes)) = some (some (.int .i64 0), 1, 8) := by kernel_rfl

/-- Coefficients as the program's numbers. -/
def ints (p : List Nat) : List Int := p.map fun n : Nat => (n : Int)
theorem length_ints (p : List Nat) : (ints p).length = p.length := by simp [ints]
theorem ints_get (p : List Nat) (i : Nat) : (ints p)[i]?.getD 0 = (cf p i : Int) := by
  unfold ints cf
  rw [List.getElem?_map]
  cases p[i]? <;> rfl
theorem ints_snoc (p : List Nat) (a : Nat) : ints (p ++ [a]) = ints p ++ [(a : Int)] := by simp [ints]
theorem ints_take (p : List Nat) (k : Nat) : (ints p).take k = ints (p.take k) := by simp [ints, List.map_take]
theorem ints_inj {p q : List Nat} (h : ints p = ints q) : p = q := by
  have hl : p.length = q.length := by rw [← length_ints p, h, length_ints]
  apply List.ext_getElem hl
  intro i h1 h2
  have h3 : (ints p)[i]?.getD 0 = (ints q)[i]?.getD 0 := by rw [h]
  rw [ints_get, ints_get] at h3
  unfold cf at h3
  rw [List.getElem?_eq_getElem h1, List.getElem?_eq_getElem h2] at h3
  exact Int.ofNat_inj.1 h3
/-- Are all elements? -/
def allE (zs : List Int) : Bool := zs.all isE
theorem allE_true {zs : List Int} (h : allE zs = true) : ∃ p, zs = ints p ∧ IsP p := by
  refine ⟨zs.map Int.toNat, ?_, ?_⟩
  · unfold ints
    rw [List.map_map]
    have e : zs.map ((fun n : Nat => (n : Int)) ∘ Int.toNat) = zs.map id := by
      apply List.map_congr_left
      intro x hx
      obtain ⟨n, rfl, _⟩ := isE_true (List.all_eq_true.1 h x hx)
      simp
    rw [e, List.map_id]
  · intro x hx
    obtain ⟨y, hy, rfl⟩ := List.mem_map.1 hx
    obtain ⟨n, rfl, hn⟩ := isE_true (List.all_eq_true.1 h y hy)
    simpa using hn
theorem allE_ints {p : List Nat} (h : IsP p) : allE (ints p) = true := by
  apply List.all_eq_true.2
  intro x hx
  obtain ⟨n, hn, rfl⟩ := List.mem_map.1 hx
  exact isE_nat (h n hn)
theorem allE_false (zs : List Int) (k : Nat) (hk : k < zs.length) (h : isE (zs[k]?.getD 0) = false) : allE zs = false := by
  rw [← Bool.not_eq_true]
  intro ha
  have := List.all_eq_true.1 ha _ (mem_getD zs k hk)
  rw [h] at this
  exact absurd this (by decide)
theorem allE_of (zs : List Int) (h : ∀ j, j < zs.length → isE (zs[j]?.getD 0) = true) : allE zs = true := by
  apply List.all_eq_true.2
  intro x hx
  obtain ⟨j, hj, rfl⟩ := List.mem_iff_getElem.1 hx
  have := h j hj
  rwa [List.getElem?_eq_getElem hj] at this

set_option maxHeartbeats 400000 in
theorem isP_any (a : Option Addr) (len cap : Nat) (zs : List Int) (w : World) (hr : Row .i64 w a len cap zs) :
    Calls Try.prog 16 #[.slice a len cap] w fun e w' => e = .returned (.bool (allE zs)) ∧ w = w' := by
  have hm := hr.hmax
  have hc := hr.hcap
  have HL : Hid (zs.length = len) := hr.hlen
  unfold maxLen at hm
  go_enter Try.func16, Try.ntmps16
  go_wp2
  go_loop [3] (fun y => ∃ i : Nat, i ≤ len ∧ y = .int .i64 i ∧ ∀ j, j < i → isE (zs[j]?.getD 0) = true) (fun y => len - (intOf y).toNat)
  case atStart => exact ⟨0, Nat.zero_le _, rfl, fun j hj => absurd hj (by omega)⟩
  case round =>
    obtain ⟨i, hi, rfl, hall0⟩ := hrel
    have hall : Hid (∀ j, j < i → isE (zs[j]?.getD 0) = true) := hall0
    clear hall0
    by_cases hlt : i < len
    · obtain ⟨b, off, rfl, hbs, hcell⟩ := hr.hcell (by omega)
      have hc1 := hcell i hlt
      clear hcell
      have hfn : Hid (isE (zs[i]?.getD 0) = false → allE zs = false) := fun hh => allE_false zs i (by have := HL.out; omega) hh
      generalize hp : zs[i]?.getD 0 = p at *
      have HP : Hid (zs[i]?.getD 0 = p) := hp
      clear hp
      cases hh : isE p
      · have hf : Hid (allE zs = false) := hfn.out hh
        go_wp2_with (go_at_call 20; refine (is_any p _).mono ?_; rintro e w' ⟨rfl, rfl⟩; rw [hh])
        go_ret
        exact ⟨ret_bool hf.out.symm, rfl⟩
      · go_wp2_with (go_at_call 20; refine (is_any p _).mono ?_; rintro e w' ⟨rfl, rfl⟩; rw [hh])
        go_round
        case rel =>
          refine ⟨i + 1, by omega, by go_num, fun j hj => ?_⟩
          by_cases e : j = i
          · subst e; rw [HP.out]; exact hh
          · exact hall.out j (by omega)
        case measure => simp [intOf]; omega
    · have hf : Hid (allE zs = true) := allE_of zs fun j hj => hall.out j (by have := HL.out; omega)
      go_wp2
      go_ret
      exact ⟨ret_bool hf.out.symm, rfl⟩

theorem take_norm (p : List Nat) (k : Nat) (hk : k ≤ p.length) (h : ∀ i, k ≤ i → cf p i = 0) (hl : k = 0 ∨ cf p (k - 1) ≠ 0) : p.take k = norm p := by
  have e : Eqv (p.take k) p := fun i => by
    by_cases hi : i < k
    · unfold cf; rw [List.getElem?_take, if_pos hi]
    · rw [cf_big _ _ (by simp; omega), h i (by omega)]
  rw [← norm_ext e]
  symm
  apply norm_of_last
  rcases hl with rfl | hl
  · exact .inl (by simp)
  · refine .inr ?_
    have hle : (p.take k).length = k := by simp; omega
    rw [hle, e]
    exact hl

theorem Row.take {k : IntKind} {w : World} {a : Option Addr} {len cap : Nat} {zs : List Int} (h : Row k w a len cap zs) (n : Nat) (hn : n ≤ len) : Row k w a n cap (zs.take n) := by
  have hl := h.hlen
  have hc := h.hcap
  refine ⟨by simp; omega, by omega, h.hmax, h.hnil, fun h0 => ?_⟩
  obtain ⟨b, off, rfl, hbs, hcell⟩ := h.hcell (by omega)
  refine ⟨b, off, rfl, hbs, fun i hi => ?_⟩
  rw [hcell i (by omega), List.getElem?_take, if_pos hi]
theorem norm_done {e : TypeId} {w w1 : World} {v' : Value} {p : List Nat} {k : Nat} (hT : p.take k = norm p) (hl : (ints (p.take k)).length = k)
    (hown : w1.ownsRow w.heap.size e 1 v' k ((ints (p.take k)).map (Value.int .i64))) (hgrow : w.grownBy w1 (Value.slice none 0 0).ownBlock) :
    w1.ownsRow w.heap.size e 1 v' (norm p).length ((ints (norm p)).map (Value.int .i64)) ∧ Below w.heap.size w w1 := by
  refine ⟨?_, (Below.refl _ _).grown hgrow (Nat.le_refl _) (fun j hj => by simp [Value.ownBlock] at hj)⟩
  rw [← hT]
  rw [length_ints] at hl
  rw [hl]
  exact hown

set_option maxHeartbeats 800000 in
theorem refNorm_any (a : Option Addr) (len cap : Nat) (p : List Nat) (w : World) (hr : Row .i64 w a len cap (ints p)) (hsm : len ≤ 100000) :
    Calls Try.prog 18 #[.slice a len cap] w fun e w' => ∃ v, e = .returned v ∧ w'.ownsRow w.heap.size 3 1 v (norm p).length ((ints (norm p)).map (Value.int .i64)) ∧ Below w.heap.size w w' := by
  obtain ⟨i0, hi0, hz0, hz1, hz2⟩ := info_parts Try.info3
  have HL : Hid (p.length = len) := by have := hr.hlen; rwa [length_ints] at this
  have hm := hr.hmax
  have hc := hr.hcap
  unfold maxLen at hm
  go_enter Try.func18, Try.ntmps18
  go_wp2
  go_loop [3] (fun y => ∃ k : Nat, k ≤ len ∧ y = .int .i64 k ∧ ∀ i, k ≤ i → cf p i = 0) (fun y => (intOf y).toNat)
  case atStart => exact ⟨len, Nat.le_refl _, rfl, fun i hi => cf_big p i (by have := HL.out; omega)⟩
  case round =>
    obtain ⟨k, hk, rfl, hz0'⟩ := hrel
    have HZ : Hid (∀ i, k ≤ i → cf p i = 0) := hz0'
    clear hz0'
    have hrk := hr.take k hk
    rw [ints_take] at hrk
    by_cases h0 : k = 0
    · subst h0
      have HT : Hid (p.take 0 = norm p) := take_norm p 0 (by omega) HZ.out (.inl rfl)
      go_wp2_with (at_builtin; refine wpList_append_row _ rfl _ _ 22 rfl w.heap.size 3 i0 (.int .i64 0) 8 Try.underlying22 hi0 hz0 hz1 hz2 rfl _ 0 [] rfl (World.ownsRow_nil _ _ _ _) .i64 a 0 cap _ rfl hrk (by unfold maxLen; omega) (by omega) (Nat.le_refl _) ?_)
      intro v' w1 hown1 hgrow1
      have R := norm_done HT.out hrk.hlen (by simpa using hown1) hgrow1
      go_wp2
      go_ret
      exact ⟨_, rfl, R.1, R.2⟩
    · obtain ⟨b, off, rfl, hbs, hcell⟩ := hr.hcell (by omega)
      have hc1 := hcell (k - 1) (by omega)
      rw [ints_get] at hc1
      by_cases hv : cf p (k - 1) = 0
      · have hq : (((cf p (k - 1) : Nat) : Int) == 0) = true := by simp [hv]
        have HV : Hid (cf p (k - 1) = 0) := hv
        clear hcell hrk hv
        go_wp2
        go_round
        case rel =>
          refine ⟨k - 1, by omega, by go_num, fun i hi => ?_⟩
          by_cases e : i = k - 1
          · subst e; exact HV.out
          · exact HZ.out i (by omega)
        case measure => simp [intOf]; omega
      · have hq : (((cf p (k - 1) : Nat) : Int) == 0) = false := by simp [hv]
        have HT : Hid (p.take k = norm p) := take_norm p k (by have := HL.out; omega) HZ.out (.inr hv)
        clear hcell hv
        go_wp2_with (at_builtin; refine wpList_append_row _ rfl _ _ 22 rfl w.heap.size 3 i0 (.int .i64 0) 8 Try.underlying22 hi0 hz0 hz1 hz2 rfl _ 0 [] rfl (World.ownsRow_nil _ _ _ _) .i64 (some ⟨b, off, none⟩) k cap _ rfl hrk (by unfold maxLen; omega) (by omega) (Nat.le_refl _) ?_)
        intro v' w1 hown1 hgrow1
        have R := norm_done HT.out hrk.hlen (by simpa using hown1) hgrow1
        go_wp2
        go_ret
        exact ⟨_, rfl, R.1, R.2⟩

set_option maxHeartbeats 400000 in
theorem refAt3_any (a : Option Addr) (len cap : Nat) (p : List Nat) (i : Nat) (w : World) (hr : Row .i64 w a len cap (ints p)) (hsm : len ≤ 100000) (hi : i ≤ 1000000) :
    Calls Try.prog 38 #[.slice a len cap, .int .i64 i] w fun e w' => e = .returned (.int .i64 (cf p i : Nat)) ∧ w = w' := by
  by_cases hlt : i < len
  · obtain ⟨b, off, rfl, hbs, hcell⟩ := hr.hcell (by omega)
    have hc1 := hcell i hlt
    rw [ints_get] at hc1
    clear hcell
    have hii : (i : Int) < (len : Int) := by omega
    go_enter Try.func38, Try.ntmps38
    go_wp2
    go_ret
    exact ⟨rfl, rfl⟩
  · have HZ : Hid (cf p i = 0) := cf_big p i (by have := hr.hlen; rw [length_ints] at this; omega)
    have hii : (len : Int) ≤ (i : Int) := by omega
    go_enter Try.func38, Try.ntmps38
    go_wp2
    go_ret
    exact ⟨ret_int (by rw [HZ.out]; rfl), rfl⟩

/-- The first n coefficients of a sum. -/
def sumTo (p q : List Nat) (n : Nat) : List Nat := (List.range n).map fun j => cf p j ^^^ cf q j
theorem sumTo_succ (p q : List Nat) (n : Nat) : sumTo p q (n + 1) = sumTo p q n ++ [cf p n ^^^ cf q n] := by simp [sumTo, List.range_succ]
theorem length_sumTo (p q : List Nat) (n : Nat) : (sumTo p q n).length = n := by simp [sumTo]
theorem sumTo_norm (p q : List Nat) (n : Nat) (h1 : p.length ≤ n) (h2 : q.length ≤ n) : norm (sumTo p q n) = norm (addL p q) := norm_ext fun i => by
  rw [cf_addL]
  by_cases h : i < n
  · simp [cf, sumTo, h]
  · rw [cf_big _ _ (by rw [length_sumTo]; omega), cf_big p i (by omega), cf_big q i (by omega)]; rfl

set_option maxHeartbeats 1600000 in
set_option maxRecDepth 100000 in
theorem refAdd_any (a c : Option Addr) (len cap len' cap' : Nat) (p q : List Nat) (w : World) (hr : Row .i64 w a len cap (ints p)) (hp : IsP p) (hr' : Row .i64 w c len' cap' (ints q)) (hq : IsP q) (hsm : len ≤ 10000) (hsm' : len' ≤ 10000) :
    Calls Try.prog 22 #[.slice a len cap, .slice c len' cap'] w fun e w' => ∃ v, e = .returned v ∧ w'.ownsRow w.heap.size 3 1 v (norm (addL p q)).length ((ints (norm (addL p q))).map (Value.int .i64)) ∧ Below w.heap.size w w' := by
  obtain ⟨i0, hi0, hz0, hz1, hz2⟩ := info_parts Try.info3
  have HL : Hid (p.length = len) := by have := hr.hlen; rwa [length_ints] at this
  have HL' : Hid (q.length = len') := by have := hr'.hlen; rwa [length_ints] at this
  go_enter Try.func22, Try.ntmps22
  go_wp2
  go_loopw [5, 6] (fun v y wr => ∃ i : Nat, i ≤ max len len' ∧ y = .int .i64 i ∧ wr.ownsRow w.heap.size 3 1 v i ((ints (sumTo p q i)).map (Value.int .i64)) ∧ Below w.heap.size w wr) (fun _ y _ => max len len' - (intOf y).toNat)
  case atStart => exact ⟨0, Nat.zero_le _, rfl, World.ownsRow_nil _ _ _ _, Below.refl _ _⟩
  case round =>
    obtain ⟨i, hi, rfl, hown, hnx⟩ := hrel
    have hsz := hnx.size
    have hrr := hr.below hnx (Nat.le_refl _)
    have hrr' := hr'.below hnx (Nat.le_refl _)
    by_cases hlt : i < len ∨ i < len'
    · have c1 := cf_lt hp i
      have c2 := cf_lt hq i
      have HS : Hid (sumTo p q (i + 1) = sumTo p q i ++ [cf p i ^^^ cf q i]) := sumTo_succ p q i
      have hi6 : i ≤ 1000000 := by omega
      by_cases hl1 : i < len
      all_goals
        go_wp2_with fail
        refine (refAt3_any _ _ _ p i _ hrr (by omega) hi6).mono ?_
        rintro e w' ⟨rfl, rfl⟩
        go_wp2_with fail
        refine (refAt3_any _ _ _ q i _ hrr' (by omega) hi6).mono ?_
        rintro e w' ⟨rfl, rfl⟩
        go_wp2_with fail
        refine (sum_any (cf p i) (cf q i) _ (by omega) (by omega)).mono ?_
        rintro e w' ⟨rfl, rfl⟩
        go_wp2_with (at_builtin; refine wpList_append_own _ rfl _ _ 22 rfl w.heap.size 3 i0 (.int .i64 0) 1 8 Try.underlying22 hi0 hz0 hz1 hz2 rfl (by decide) _ _ _ rfl (hown.alloc _) ⟨wr.heap.size, 0, none⟩ 1 1 [.int .i64 ((cf p i ^^^ cf q i : Nat) : Int)] rfl rfl (cell_one_new _ _ _) (by intro u hu; simp at hu; subst hu; rfl) (by unfold maxLen; omega) (by omega) (by simp; omega) ?_)
        intro v' w1 hown' hgrow _
        have R := rel_push hsz hown hnx hown' hgrow
        rw [← ints_snoc, ← HS.out] at R
        clear hown' hgrow
        go_wp2
        go_roundw
        case rel => exact ⟨i + 1, by omega, by go_num, R.1, R.2⟩
        case measure => simp [intOf]; omega
    · have e : i = max len len' := by omega
      have hrow := row_of_owns hown
      obtain ⟨a5, cp5, rfl, hrow5⟩ := hrow
      have HN : Hid (norm (sumTo p q i) = norm (addL p q)) := sumTo_norm p q i (by have := HL.out; omega) (by have := HL'.out; omega)
      clear e
      go_wp2_with fail
      refine (refNorm_any _ _ _ (sumTo p q i) _ hrow5 (by omega)).mono ?_
      rintro e w2 ⟨v, rfl, hown2, hb2⟩
      rw [HN.out] at hown2
      go_wp2
      go_ret
      exact ⟨_, rfl, owns_base hown2 hsz, hnx.trans (hb2.mono hsz)⟩

/-- The first n coefficients of a derivative. -/
def derTo (p : List Nat) (n : Nat) : List Nat := (List.range n).map fun i => if i % 2 = 0 then cf p (i + 1) else 0
theorem derTo_succ (p : List Nat) (n : Nat) : derTo p (n + 1) = derTo p n ++ [if n % 2 = 0 then cf p (n + 1) else 0] := by simp [derTo, List.range_succ]
theorem derTo_end (p : List Nat) : derTo p (p.length - 1) = derL p := rfl

set_option maxHeartbeats 1600000 in
theorem refDerive_any (a : Option Addr) (len cap : Nat) (p : List Nat) (w : World) (hr : Row .i64 w a len cap (ints p)) (hsm : len ≤ 10000) :
    Calls Try.prog 19 #[.slice a len cap] w fun e w' => ∃ v, e = .returned v ∧ w'.ownsRow w.heap.size 3 1 v (norm (derL p)).length ((ints (norm (derL p))).map (Value.int .i64)) ∧ Below w.heap.size w w' := by
  obtain ⟨i0, hi0, hz0, hz1, hz2⟩ := info_parts Try.info3
  have HL : Hid (p.length = len) := by have := hr.hlen; rwa [length_ints] at this
  go_enter Try.func19, Try.ntmps19
  go_wp2
  go_loopw [3, 4] (fun v y wr => ∃ i : Nat, i ≤ len - 1 ∧ y = .int .i64 i ∧ wr.ownsRow w.heap.size 3 1 v i ((ints (derTo p i)).map (Value.int .i64)) ∧ Below w.heap.size w wr) (fun _ y _ => len - 1 - (intOf y).toNat)
  case atStart => exact ⟨0, Nat.zero_le _, rfl, World.ownsRow_nil _ _ _ _, Below.refl _ _⟩
  case round =>
    obtain ⟨i, hi, rfl, hown, hnx⟩ := hrel
    have hsz := hnx.size
    by_cases hlt : i + 1 < len
    · have hrr := hr.below hnx (Nat.le_refl _)
      obtain ⟨b, off, rfl, hbs, hcell⟩ := hrr.hcell (by omega)
      have hc1 := hcell (i + 1) hlt
      rw [ints_get] at hc1
      clear hcell hrr
      have hii : (i : Int) + 1 < (len : Int) := by omega
      by_cases hd : i % 2 = 0
      · have HS : Hid (derTo p (i + 1) = derTo p i ++ [cf p (i + 1)]) := by show _ = _; rw [derTo_succ, if_pos hd]
        have hq : (((i : Int) % 2) == 0) = true := by simp; omega
        go_wp2_with (at_builtin; refine wpList_append_own _ rfl _ _ 22 rfl w.heap.size 3 i0 (.int .i64 0) 1 8 Try.underlying22 hi0 hz0 hz1 hz2 rfl (by decide) _ _ _ rfl (hown.alloc _) ⟨wr.heap.size, 0, none⟩ 1 1 [.int .i64 ((cf p (i + 1) : Nat) : Int)] rfl rfl (cell_one_new _ _ _) (by intro u hu; simp at hu; subst hu; rfl) (by unfold maxLen; omega) (by omega) (by simp; omega) ?_)
        intro v' w1 hown' hgrow _
        have R := rel_push hsz hown hnx hown' hgrow
        rw [← ints_snoc, ← HS.out] at R
        clear hown' hgrow
        go_wp2
        go_roundw
        case rel => exact ⟨i + 1, by omega, by go_num, R.1, R.2⟩
        case measure => simp [intOf]; omega
      · have HS : Hid (derTo p (i + 1) = derTo p i ++ [0]) := by show _ = _; rw [derTo_succ, if_neg hd]
        have hq : (((i : Int) % 2) == 0) = false := by simp; omega
        go_wp2_with (at_builtin; refine wpList_append_own _ rfl _ _ 22 rfl w.heap.size 3 i0 (.int .i64 0) 1 8 Try.underlying22 hi0 hz0 hz1 hz2 rfl (by decide) _ _ _ rfl (hown.alloc _) ⟨wr.heap.size, 0, none⟩ 1 1 [.int .i64 ((0 : Nat) : Int)] rfl rfl (cell_one_new _ _ _) (by intro u hu; simp at hu; subst hu; rfl) (by unfold maxLen; omega) (by omega) (by simp; omega) ?_)
        intro v' w1 hown' hgrow _
        have R := rel_push hsz hown hnx hown' hgrow
        rw [show ints (derTo p i) ++ [0] = ints (derTo p (i + 1)) from by rw [HS.out, ints_snoc]; rfl] at R
        clear hown' hgrow
        go_wp2
        go_roundw
        case rel => exact ⟨i + 1, by omega, by go_num, R.1, R.2⟩
        case measure => simp [intOf]; omega
    · have e : i = len - 1 := by omega
      subst e
      obtain ⟨a5, cp5, rfl, hrow5⟩ := row_of_owns hown
      have HN : Hid (derTo p (len - 1) = derL p) := by show _ = _; rw [← HL.out]; rfl
      have hii : (len : Int) ≤ ((len - 1 : Nat) : Int) + 1 := by omega
      go_wp2_with fail
      refine (refNorm_any _ _ _ (derTo p (len - 1)) _ hrow5 (by omega)).mono ?_
      rintro e w2 ⟨v, rfl, hown2, hb2⟩
      rw [HN.out] at hown2
      go_wp2
      go_ret
      exact ⟨_, rfl, owns_base hown2 hsz, hnx.trans (hb2.mono hsz)⟩

theorem take_snoc_nat (p : List Nat) (k : Nat) (h : k < p.length) : p.take (k + 1) = p.take k ++ [cf p k] := by
  rw [List.take_add_one, List.getElem?_eq_getElem h]
  unfold cf
  rw [List.getElem?_eq_getElem h]; rfl
theorem isP_take {p : List Nat} (h : IsP p) (k : Nat) : IsP (p.take k) := fun x hx => h x (List.mem_of_mem_take hx)
theorem quiet_eq {P : Program} {f : FuncId} {args : Array Value} {w : World} {n : Nat} {v : Value}
    (h : Calls P f args (w.drewN n) fun e w' => e = .returned v ∧ w.drewN n = w') : Calls P f args (w.drewN n) fun e w'' => e = .returned v ∧ ∃ m, w'' = w.drewN m :=
  h.mono fun _ _ ⟨he, hm⟩ => ⟨he, n, hm.symm⟩

set_option maxHeartbeats 1600000 in
set_option maxRecDepth 100000 in
theorem refEval_any (a : Option Addr) (len cap : Nat) (p : List Nat) (x : Nat) (w : World) (hr : Row .i64 w a len cap (ints p)) (hp : IsP p) (hx : x < 8192) (hsm : len ≤ 10000) :
    Calls Try.prog 21 #[.slice a len cap, .int .i64 x] w fun e w' => e = .returned (.int .i64 (evl p x : Nat)) ∧ Below w.heap.size w w' := by
  have HL : Hid (p.length = len) := by have := hr.hlen; rwa [length_ints] at this
  go_enter Try.func21, Try.ntmps21
  go_wp2
  go_loopw [5, 6] (fun o y wr => ∃ i : Nat, i ≤ len ∧ y = .int .i64 i ∧ o = .int .i64 (evl (p.take i) x : Nat) ∧ Below w.heap.size w wr) (fun _ y _ => len - (intOf y).toNat)
  case atStart => exact ⟨0, Nat.zero_le _, rfl, rfl, Below.refl _ _⟩
  case round =>
    obtain ⟨i, hi, rfl, rfl, hnx⟩ := hrel
    have hrr := hr.below hnx (Nat.le_refl _)
    by_cases hlt : i < len
    · obtain ⟨b, off, rfl, hbs, hcell⟩ := hrr.hcell (by omega)
      have hc1 := hcell i hlt
      rw [ints_get] at hc1
      clear hcell
      have hii : (i : Int) < (len : Int) := by omega
      have c1 := cf_lt hp i
      have c2 := gpow_lt x i hx
      have c3 := gmul_lt (cf p i) (gpow x i) c1
      have c4 := evl_lt (isP_take hp i) x hx
      have HS : Hid (evl (p.take (i + 1)) x = evl (p.take i) x ^^^ gmul (cf p i) (gpow x i)) := by
        have hil : i < p.length := by have := HL.out; omega
        show _ = _
        rw [take_snoc_nat p i hil, evl_snoc _ _ x c1 (isP_take hp i) hx, List.length_take, Nat.min_eq_left (by omega)]
      generalize evl (p.take i) x = o at *
      go_wp2
      go_quiet (first
        | (go_at_call 37; exact quiet_eq (refPow_any x i _ hx (by omega)))
        | (go_at_call 28; exact quiet_eq (refMul_any (cf p i) (gpow x i) _ c1 c2))
        | (go_at_call 27; exact quiet_eq (sum_any o (gmul (cf p i) (gpow x i)) _ (by omega) (by omega))))
      go_wp2
      go_roundw
      case rel => exact ⟨i + 1, by omega, by go_num, by rw [HS.out], below_drewN hnx _⟩
      case measure => simp [intOf]; omega
    · have e : i = len := by omega
      subst e
      rw [List.take_of_length_le (by have := HL.out; omega)]
      go_wp2
      go_ret
      exact ⟨rfl, hnx⟩

/-- What Mul holds behind i rounds of p's coefficients and k of q's, at the place j. -/
def mulAt (p q : List Nat) (i k j : Nat) : Nat := cf (mulL (p.take i) q) j ^^^ (if i ≤ j ∧ j < i + k then gmul (cf p i) (cf q (j - i)) else 0)
def mulTo (p q : List Nat) (i k : Nat) : List Nat := (List.range (p.length + q.length)).map (mulAt p q i k)
theorem length_mulTo (p q : List Nat) (i k : Nat) : (mulTo p q i k).length = p.length + q.length := by simp [mulTo]
theorem cf_mulTo (p q : List Nat) (i k j : Nat) (hj : j < p.length + q.length) : cf (mulTo p q i k) j = mulAt p q i k j := by simp [cf, mulTo, hj]
theorem mulTo_zero (p q : List Nat) : mulTo p q 0 0 = List.replicate (p.length + q.length) 0 := by
  apply List.ext_getElem
  · simp [mulTo]
  · intro j h1 h2
    simp only [mulTo, List.getElem_map, List.getElem_range, mulAt, List.getElem_replicate]
    rw [if_neg (by omega), Nat.xor_zero]
    rfl
theorem mulTo_step (p q : List Nat) (i k : Nat) (hk : i + k < p.length + q.length) : mulTo p q i (k + 1) = (mulTo p q i k).set (i + k) (cf (mulTo p q i k) (i + k) ^^^ gmul (cf p i) (cf q k)) := by
  have e0 := cf_mulTo p q i k (i + k) hk
  apply List.ext_getElem
  · simp [mulTo]
  · intro j h1 h2
    rw [List.getElem_set]
    by_cases e : i + k = j
    · subst e
      rw [if_pos rfl, e0]
      simp only [mulTo, List.getElem_map, List.getElem_range, mulAt]
      rw [if_pos (by omega), if_neg (by omega), Nat.xor_zero, show i + k - i = k from by omega]
    · rw [if_neg e]
      simp only [mulTo, List.getElem_map, List.getElem_range, mulAt]
      by_cases h : i ≤ j ∧ j < i + k
      · rw [if_pos h, if_pos (by omega)]
      · rw [if_neg h, if_neg (by omega)]
theorem cf_shift (n : Nat) (q : List Nat) (j : Nat) : cf (List.replicate n 0 ++ q) j = if n ≤ j then cf q (j - n) else 0 := by
  unfold cf
  by_cases h : n ≤ j
  · rw [if_pos h, List.getElem?_append_right (by simpa using h)]; simp
  · rw [if_neg h, List.getElem?_append_left (by simp; omega)]; simp [show j < n from by omega]
theorem mulL_snoc (p q : List Nat) (x : Nat) (hp : IsP p) (hq : IsP q) (hx : x < 8192) (j : Nat) : cf (mulL (p ++ [x]) q) j = cf (mulL p q) j ^^^ (if p.length ≤ j then gmul x (cf q (j - p.length)) else 0) := by
  induction p generalizing j with
  | nil =>
    show cf (addL (smul x q) [0]) j = 0 ^^^ _
    rw [cf_addL, cf_smul, Nat.zero_xor, if_pos (by simp)]
    cases j with
    | zero => rw [cf_zero, Nat.xor_zero]; rfl
    | succ j => rw [cf_succ, cf_nil, Nat.xor_zero]; rfl
  | cons y p ih =>
    show cf (addL (smul y q) (0 :: mulL (p ++ [x]) q)) j = cf (addL (smul y q) (0 :: mulL p q)) j ^^^ _
    rw [cf_addL, cf_addL, Nat.xor_assoc]
    congr 1
    cases j with
    | zero => rw [cf_zero, cf_zero, Nat.zero_xor, if_neg (by simp)]
    | succ j =>
      rw [cf_succ, cf_succ, ih (isP_cons hp).2]
      congr 1
      simp only [List.length_cons, Nat.add_le_add_iff_right, Nat.add_sub_add_right]
theorem mulTo_row (p q : List Nat) (i : Nat) (hp : IsP p) (hq : IsP q) (hi : i < p.length) : mulTo p q i q.length = mulTo p q (i + 1) 0 := by
  apply List.ext_getElem
  · simp [mulTo]
  · intro j h1 h2
    simp only [mulTo, List.getElem_map, List.getElem_range, mulAt]
    rw [if_neg (show ¬ (i + 1 ≤ j ∧ j < i + 1 + 0) by omega), Nat.xor_zero, take_snoc_nat p i hi, mulL_snoc _ q _ (isP_take hp i) hq (cf_lt hp i) j, List.length_take, Nat.min_eq_left (by omega)]
    congr 1
    by_cases h : i ≤ j
    · rw [if_pos h]
      by_cases h' : j < i + q.length
      · rw [if_pos ⟨h, h'⟩]
      · rw [if_neg (by omega), cf_big q _ (by omega), gmul_zero]
    · rw [if_neg h, if_neg (by omega)]
theorem isP_mulTo {p q : List Nat} (hp : IsP p) (i k : Nat) : IsP (mulTo p q i k) := by
  intro x hx
  obtain ⟨j, _, rfl⟩ := List.mem_map.1 hx
  refine xor_lt _ _ (cf_lt (isP_mulL q (isP_take hp i)) j) ?_
  split
  · exact gmul_lt _ _ (cf_lt hp i)
  · decide
theorem mulL_high (p q : List Nat) (j : Nat) (h : p.length + q.length ≤ j) : cf (mulL p q) j = 0 := by
  induction p generalizing j with
  | nil => rfl
  | cons x p ih =>
    rw [List.length_cons] at h
    show cf (addL (smul x q) (0 :: mulL p q)) j = 0
    rw [cf_addL, cf_smul, cf_big q j (by omega), gmul_zero, Nat.zero_xor]
    cases j with
    | zero => rfl
    | succ j => rw [cf_succ, ih j (by omega)]
theorem mulTo_end (p q : List Nat) : norm (mulTo p q p.length 0) = norm (mulL p q) := norm_ext fun j => by
  by_cases h : j < p.length + q.length
  · rw [cf_mulTo p q _ _ j h]
    unfold mulAt
    rw [if_neg (by omega), Nat.xor_zero, List.take_length]
  · rw [cf_big _ _ (by rw [length_mulTo]; omega), mulL_high p q j (by omega)]

end Go.Proofs.Ytmkjgacimbfblaa
