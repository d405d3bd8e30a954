/-
  The code of layer 5 (bch), as it landed: a row of sums behind a pointer: rowOf, turn, clean, gap return what they should.
-/
import Derived.Test.YtjiaomkjebbkpabBchCode3
namespace Go.Proofs.Ytjiaomkjebbkpab
open Go.RowKit
set_option linter.unusedVariables false

/-- A row of sums: the pointer's block holds a slice, whose block holds the sums; both were made behind B. -/
structure RowAt (T : TypeId) (w : World) (B g h n : Nat) (s : List Nat) : Prop where
  box : w.cell? ⟨g, 0, none⟩ = some (.slice (some ⟨h, 0, none⟩) n n)
  own : w.ownsRow B T 1 (.slice (some ⟨h, 0, none⟩) n n) n ((ints s).map (Value.int .i64))
  hg : B ≤ g
  hh : B ≤ h
  ne : g ≠ h
theorem RowAt.len {T : TypeId} {w : World} {B g h n : Nat} {s : List Nat} (r : RowAt T w B g h n s) : s.length = n := by have := r.own.1; simpa [length_ints] using this
theorem RowAt.below {T : TypeId} {w w' : World} {B g h n : Nat} {s : List Nat} (r : RowAt T w B g h n s) (hb : Below w.heap.size w w') : RowAt T w' B g h n s :=
  ⟨by rw [hb.cell (p := ⟨g, 0, none⟩) (lt_of_cell r.box)]; exact r.box, owns_below r.own hb, r.hg, r.hh, r.ne⟩
theorem RowAt.drewN {T : TypeId} {w : World} {B g h n : Nat} {s : List Nat} (r : RowAt T w B g h n s) (k : Nat) : RowAt T (w.drewN k) B g h n s := ⟨r.box, owns_drewN r.own k, r.hg, r.hh, r.ne⟩
theorem RowAt.drew {T : TypeId} {w : World} {B g h n : Nat} {s : List Nat} (r : RowAt T w B g h n s) : RowAt T w.drew B g h n s := r.drewN 1
theorem RowAt.base {T : TypeId} {w : World} {B B' g h n : Nat} {s : List Nat} (r : RowAt T w B g h n s) (hB : B' ≤ B) : RowAt T w B' g h n s := ⟨r.box, owns_base r.own hB, by have := r.hg; omega, by have := r.hh; omega, r.ne⟩
theorem RowAt.row {T : TypeId} {w : World} {B g h n : Nat} {s : List Nat} (r : RowAt T w B g h n s) : Row .i64 w (some ⟨h, 0, none⟩) n n (ints s) := by
  obtain ⟨a, cp, hv, hrow⟩ := row_of_owns r.own
  simp only [Value.slice.injEq, true_and] at hv
  obtain ⟨rfl, rfl⟩ := hv
  exact hrow
theorem RowAt.set {T : TypeId} {w : World} {B g h n : Nat} {s : List Nat} (r : RowAt T w B g h n s) (q x : Nat) : RowAt T (w.setCell ⟨h, q, none⟩ (.int .i64 (x : Int))) B g h n (s.set q x) := by
  have R := owned_set (q := q) (x := (x : Int)) r.hh r.own (Below.refl B w)
  rw [ints_set] at R
  exact ⟨(World.cell?_of_block (Below.heap_setCell w ⟨h, q, none⟩ _ g r.ne)).trans r.box, R.1, r.hg, r.hh, r.ne⟩

set_option maxHeartbeats 1600000 in
set_option maxRecDepth 100000 in
theorem rowTurn_any (B g h n q : Nat) (s : List Nat) (w : World) (r : RowAt 3 w B g h n s) (hs : IsP s) (hq : q ≤ 100000) (hn : n ≤ 1000) :
    Calls Try.prog 14 #[.pointer (some ⟨g, 0, none⟩), .int .i64 q] w fun e w' => (∃ v, e = .returned v) ∧ RowAt 3 w' B g h n (turnPart s q n) ∧ w.grownBy w' (some h) := by
  have HL : Hid (s.length = n) := r.len
  have HS : Hid (∀ k, k < n → turnPart s q (k + 1) = (turnPart s q k).set k (cf s k ^^^ gpow 2 ((k + 1) * q)) ∧ cf (turnPart s q k) k = cf s k) := fun k hk => ⟨turnPart_succ s q k (by have := HL.out; omega), cf_turnPart s q k (by have := HL.out; omega)⟩
  have r0 : RowAt 3 w B g h n (turnPart s q 0) := by rw [turnPart_zero]; exact r
  have hbox0 := r.box
  have hh := r.hh
  go_enter Try.func14, Try.ntmps14
  go_wp2
  go_loopw [10] (fun y wr => ∃ i : Nat, i ≤ n ∧ y = .int .i64 i ∧ RowAt 3 wr B g h n (turnPart s q i) ∧ w.grownBy wr (some h)) (fun y _ => n - (intOf y).toNat)
  case atStart => exact ⟨0, Nat.zero_le _, rfl, r0, World.grownBy.refl _ _⟩
  case round =>
    clear r0 hbox0 r
    obtain ⟨i, hi, rfl, r, hb⟩ := hrel
    by_cases hlt : i < n
    · obtain ⟨hS1, hS2⟩ := HS.out i hlt
      have hbox := r.box
      have hcl := owned_cell r.own i hlt
      have hfz := r.own.frozenAt i
      rw [ints_get, hS2] at hcl
      have c1 := cf_lt hs i
      have c2 := (pow2_ok ((i + 1) * q)).1
      have HR : Hid _ := r.set i (cf s i ^^^ gpow 2 ((i + 1) * q))
      rw [← hS1] at HR
      have HB : Hid _ := hb.trans (grown_set wr ⟨h, i, none⟩ (.int .i64 ((cf s i ^^^ gpow 2 ((i + 1) * q) : Nat) : Int)))
      clear hS1 hS2 r hb
      have hxor := xor_i64 (cf s i) (gpow 2 ((i + 1) * q)) (by omega) (by omega)
      have hpq : (i + 1) * q ≤ 1000 * 100000 := Nat.mul_le_mul (by omega) hq
      have u0 : (q : Int) * ((i : Int) + 1) = (((i + 1) * q : Nat) : Int) := by rw [Int.natCast_mul, Int.natCast_add, Int.mul_comm]; rfl
      generalize (i + 1) * q = pq at *
      have u1 : IntKind.i64.wrap ((pq : Nat) : Int) = (pq : Int) := by rw [IntKind.wrap_i64]; omega
      generalize cf s i = x at *
      have u5 : (i : Int) < (n : Int) := by omega
      have u2 : IntKind.i64.wrap ((i : Int) + 1) = (i : Int) + 1 := by rw [IntKind.wrap_i64]; omega
      go_wp2
      go_region_with (first
        | (go_at_call 24; refine (exp_nat pq _ (by omega)).mono ?_; rintro e w' ⟨rfl, rfl⟩))
      all_goals
        go_wp2
        go_roundw
        case rel => exact ⟨i + 1, by omega, by go_num, HR.out.drew, HB.out.trans (grown_drewN _ 1 _)⟩
        case measure => simp [intOf]; omega
    · have e : i = n := by omega
      subst e
      go_wp2
      go_end0
      exact ⟨⟨_, rfl⟩, r, hb⟩

set_option maxHeartbeats 800000 in
set_option maxRecDepth 100000 in
theorem rowClean_any (B g h n : Nat) (s : List Nat) (w : World) (r : RowAt 3 w B g h n s) (hn : n ≤ 1000) :
    Calls Try.prog 15 #[.pointer (some ⟨g, 0, none⟩)] w fun e w' => e = .returned (.bool (cleanB s)) ∧ w = w' := by
  have HL : Hid (s.length = n) := r.len
  have HT : Hid ((∀ i, i < n → cf s i = 0) → cleanB s = true) := fun h => (cleanB_iff s).2 fun i hi => h i (by have := HL.out; omega)
  have HF : Hid (∀ i, i < n → cf s i ≠ 0 → cleanB s = false) := fun i hi h => cleanB_false (by have := HL.out; omega) h
  have hbox := r.box
  have hrow := r.row
  clear r
  go_enter Try.func15, Try.ntmps15
  go_wp2
  go_loop [10] (fun y => ∃ i : Nat, i ≤ n ∧ y = .int .i64 i ∧ ∀ j, j < i → cf s j = 0) (fun y => n - (intOf y).toNat)
  case atStart => exact ⟨0, Nat.zero_le _, rfl, fun j hj => absurd hj (by omega)⟩
  case round =>
    obtain ⟨i, hi, rfl, hall0⟩ := hrel
    have hall : Hid (∀ j, j < i → cf s j = 0) := hall0
    clear hall0
    by_cases hlt : i < n
    · obtain ⟨b, off, he, hbs, hcell⟩ := hrow.hcell (by omega)
      simp only [Option.some.injEq, Addr.mk.injEq, and_true] at he
      obtain ⟨rfl, rfl⟩ := he
      have hc1 := hcell i hlt
      rw [ints_get, Nat.zero_add] at hc1
      clear hcell
      have hii : (i : Int) < (n : Int) := by omega
      by_cases hv : cf s i = 0
      · have HV : Hid (cf s i = 0) := hv
        rw [hv] at hc1
        clear hv
        go_wp2
        go_round
        case rel =>
          refine ⟨i + 1, by omega, by go_num, fun j hj => ?_⟩
          by_cases e : j = i
          · subst e; exact HV.out
          · exact hall.out j (by omega)
        case measure => simp [intOf]; omega
      · have HV : Hid (cleanB s = false) := HF.out i hlt hv
        have hq : (((cf s i : Nat) : Int) != 0) = true := by simp; omega
        clear hv
        go_wp2
        go_ret
        exact ⟨ret_bool HV.out.symm, rfl⟩
    · have HV : Hid (cleanB s = true) := HT.out fun j hj => hall.out j (by omega)
      go_wp2
      go_ret
      exact ⟨ret_bool HV.out.symm, rfl⟩

set_option maxHeartbeats 1600000 in
set_option maxRecDepth 100000 in
theorem rowGap_any (B g h n : Nat) (s : List Nat) (a : Option Addr) (len cap : Nat) (p : List Nat) (k : Nat) (w : World) (r : RowAt 3 w B g h n s) (hs : IsP s) (hr : Row .i64 w a len cap (ints p)) (hp : IsP p) (hn : n ≤ 1000) (hk : k < n) (hl : len ≤ k + 1) (h0 : 0 < len) :
    Calls Try.prog 26 #[.pointer (some ⟨g, 0, none⟩), .slice a len cap, .int .i64 k] w fun e w' => e = .returned (.int .i64 (cf (mulL p s) k : Nat)) ∧ w = w' := by
  have HL : Hid (p.length = len) := by have := hr.hlen; rwa [length_ints] at this
  have HLs : Hid (s.length = n) := r.len
  have HEND : Hid (cv p s k len = cf (mulL p s) k) := cv_stop p s hs k len hl (.inr (by have := HL.out; omega))
  have hbox := r.box
  have hrow := r.row
  clear r
  have hcap := hrow.hcap
  have v1 : (0 : Int) ≤ (k : Int) + 1 - (len : Int) := by omega
  have v2 : (k : Int) + 1 - (len : Int) ≤ (k : Int) + 1 := by omega
  have v3 : (k : Int) + 1 ≤ (n : Int) := by omega
  have v4 : ((k : Int) + 1 - (len : Int)).toNat = k + 1 - len := by omega
  have v5 : ((k : Int) + 1).toNat = k + 1 := by omega
  obtain ⟨o, ho⟩ : ∃ o, k + 1 - len = o := ⟨_, rfl⟩
  have HC : Hid (∀ i, i < len → w.cell? ⟨h, o + (len - 1 - i), none⟩ = some (.int .i64 (cf s (k - i) : Nat))) := fun i hi => by
    obtain ⟨b, off, he, hbs, hcell⟩ := hrow.hcell (by omega)
    simp only [Option.some.injEq, Addr.mk.injEq, and_true] at he
    obtain ⟨rfl, rfl⟩ := he
    have hc1 := hcell (k - i) (by omega)
    rw [ints_get, Nat.zero_add] at hc1
    rw [show o + (len - 1 - i) = k - i from by omega]
    exact hc1
  have ho2 : k + 1 - o = len := by omega
  go_enter Try.func26, Try.ntmps26
  go_wp2
  try rw [ho2]
  clear v1 v2 v3 v4 v5 hrow hcap
  have HO : Hid (k + 1 - len = o) := ho
  clear ho ho2
  go_loop [8, 27] (fun v y => ∃ i : Nat, i ≤ len ∧ y = .int .i64 i ∧ v = .int .i64 (cv p s k i : Nat)) (fun _ y => len - (intOf y).toNat)
  case atStart => exact ⟨0, Nat.zero_le _, rfl, rfl⟩
  case round =>
    obtain ⟨i, hi, rfl, rfl⟩ := hrel
    by_cases hlt : i < len
    · obtain ⟨b, off, rfl, hbs, hcell⟩ := hr.hcell (by omega)
      have hc1 := hcell i hlt
      rw [ints_get] at hc1
      clear hcell
      have hc2 := HC.out i hlt
      have c1 := cf_lt hp i
      have c2 := cf_lt hs (k - i)
      have c3 := gmul_lt (cf p i) (cf s (k - i)) c1
      have c4 := cv_lt s hp k i
      have HS : Hid (cv p s k (i + 1) = cv p s k i ^^^ gmul (cf p i) (cf s (k - i))) := rfl
      generalize cv p s k i = oo at *
      generalize hlj : len - 1 - i = j at *
      have u1 : IntKind.i64.wrap ((len : Int) - 1) = (len : Int) - 1 := by rw [IntKind.wrap_i64]; omega
      have u2 : IntKind.i64.wrap ((len : Int) - 1 - (i : Int)) = (j : Int) := by rw [IntKind.wrap_i64]; omega
      have u2' : (len : Int) - 1 - (i : Int) = (j : Int) := by omega
      have u3 : (j : Int) < (len : Int) := by omega
      have u5 : (i : Int) < (len : Int) := by omega
      clear hlj
      go_wp2_with fail
      refine (ctimes_any (cf p i) (cf s (k - i)) _ c1 c2).mono ?_
      rintro e w' ⟨rfl, rfl⟩
      go_wp2_with fail
      go_round
      case rel => exact ⟨i + 1, by omega, by go_num, by rw [HS.out, xor_i64 _ _ (by omega) (by omega)]⟩
      case measure => simp [intOf]; omega
    · have e : i = len := by omega
      subst e
      rw [HEND.out]
      go_wp2
      go_ret
      exact ⟨rfl, rfl⟩

end Go.Proofs.Ytjiaomkjebbkpab
