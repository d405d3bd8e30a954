/-
  The contracts of the reference's All and Apart, and of bits.Apart: each hands back a new row of the numbers that the plain functions give; nothing old turns.
-/
import Derived.Test.YtmdiblknjgkpoaaTwo
namespace Go.Proofs.Ytmdiblknjgkpoaa
open Go.RowKit
set_option linter.unusedVariables false

theorem Try.info3 : (Try.prog.info? 3).map (fun i => (i.zero, i.size, i.bytes)) = some (some (.int .i64 0), 1, 8) := by kernel_rfl
theorem Try.info5 : (Try.prog.info? 5).map (fun i => (i.zero, i.size, i.bytes)) = some (some (.int .u8 0), 1, 1) := by kernel_rfl

/-- A row reads as it did where nothing old has turned. -/
theorem Row.below {k : IntKind} {w w' : World} {a : Option Addr} {len cap : Nat} {zs : List Int} {B : Nat} (h : Row k w a len cap zs) (hb : Below B w w') (hB : w.heap.size ≤ B) : Row k w' a len cap zs := by
  refine ⟨h.hlen, h.hcap, h.hmax, h.hnil, fun h0 => ?_⟩
  obtain ⟨b, off, rfl, hbs, hcell⟩ := h.hcell h0
  refine ⟨b, off, rfl, by have := hb.size; omega, fun i hi => ?_⟩
  rw [hb.cell (by show b < B; omega)]
  exact hcell i hi

/-- What a call owns reads as a row. -/
theorem row_of_owns {k : IntKind} {e : TypeId} {w : World} {base : Nat} {v : Value} {n : Nat} {zs : List Int} (h : w.ownsRow base e 1 v n (zs.map (Value.int k))) :
    ∃ a cap, v = .slice a n cap ∧ Row k w a n cap zs := by
  have hl : zs.length = n := by have := h.1; simpa using this
  rcases h.2 with ⟨rfl, hn⟩ | ⟨g, cap, cur, rfl, hg, hh, hnc, hcm, hcs, htake⟩
  · subst hn
    exact ⟨none, 0, rfl, hl, Nat.le_refl _, Nat.zero_le _, fun _ => rfl, fun h0 => absurd h0 (by omega)⟩
  · refine ⟨_, cap, rfl, hl, hnc, hcm, by simp, fun h0 => ⟨g, 0, rfl, ?_, fun i hi => ?_⟩⟩
    · rcases Nat.lt_or_ge g w.heap.size with hh' | hh'
      · exact hh'
      · rw [Array.getElem?_eq_none hh'] at hh; simp at hh
    · rw [Nat.zero_add, h.cellAt i (by omega)]
      simp [List.getElem?_map, List.getElem?_eq_getElem (show i < zs.length from by omega)]

/-- Behind 'append(out, x)': out, the call's own, has one number more. -/
theorem rel_push {B : Nat} {e : TypeId} {k : IntKind} {w wr w1 : World} {v v' : Value} {o : Obj} {n : Nat} {xs : List Int} {x : Int} (hB : B ≤ wr.heap.size)
    (hown : wr.ownsRow B e 1 v n (xs.map (Value.int k))) (hnx : Below B w wr)
    (hown' : w1.ownsRow B e 1 v' (n + 1) (xs.map (Value.int k) ++ [.int k x])) (hgrow : (wr.alloc o).grownBy w1 v.ownBlock) :
    w1.ownsRow B e 1 v' (n + 1) ((xs ++ [x]).map (Value.int k)) ∧ Below B w w1 :=
  ⟨by simpa using hown', (hnx.alloc hB o).grown hgrow (by simp; omega) (fun j hj => (hown.lt j hj).1)⟩

set_option maxHeartbeats 800000 in
theorem all_any (a : Option Addr) (len cap : Nat) (z : List Int) (w : World) (hr : Row .u8 w a len cap z) (hb : IsB z) (hsm : len ≤ 1000) :
    Calls Try.prog 10 #[.slice a len cap] w fun e w' => ∃ v, e = .returned v ∧ w'.ownsRow w.heap.size 3 1 v (8 * len) ((bitsTo z (8 * len)).map (Value.int .i64)) ∧ Below w.heap.size w w' := by
  obtain ⟨i0, hi0, hz0, hz1, hz2⟩ := info_parts Try.info3
  go_enter Try.func10, Try.ntmps10
  go_wp2
  go_loopw [3, 4] (fun v y wr => ∃ i : Nat, i ≤ 8 * len ∧ y = .int .i64 i ∧ wr.ownsRow w.heap.size 3 1 v i ((bitsTo z i).map (Value.int .i64)) ∧ Below w.heap.size w wr) (fun _ y _ => 8 * len - (intOf y).toNat)
  case atStart => exact ⟨0, Nat.zero_le _, rfl, World.ownsRow_nil _ _ _ _, Below.refl _ _⟩
  case round =>
    obtain ⟨i, hi, rfl, hown, hnx⟩ := hrel
    have hsz := hnx.size
    by_cases hlt : i < 8 * len
    · have hrr := hr.below hnx (Nat.le_refl _)
      go_wp2_with (first
        | (go_at_call 20; refine (refAt_any _ _ _ i z _ hrr hb hlt hsm).mono ?_; rintro e w' ⟨rfl, rfl⟩)
        | (at_builtin; refine wpList_append_own _ rfl _ _ 24 rfl w.heap.size 3 i0 (.int .i64 0) 1 8 Try.underlying24 hi0 hz0 hz1 hz2 rfl (by decide) _ _ _ rfl (hown.alloc _) ⟨wr.heap.size, 0, none⟩ 1 1 [.int .i64 (bitI z i)] rfl rfl ?c1 ?c2 ?c3 ?c4 ?c5 ?_))
      case c1 => exact cell_one_new _ _ _
      case c2 => intro u hu; simp at hu; subst hu; rfl
      case c3 => unfold maxLen; omega
      case c4 => omega
      case c5 => simp; omega
      intro v' w1 hown' hgrow _
      have R := rel_push hsz hown hnx hown' hgrow
      clear hown' hgrow hown hrr
      go_wp2
      go_roundw
      case rel => exact ⟨i + 1, by omega, by go_num, by rw [bitsTo_succ]; exact R.1, R.2⟩
      case measure => simp [intOf]; omega
    · have e : i = 8 * len := by omega
      subst e
      go_wp2
      go_ret
      exact ⟨_, rfl, hown, hnx⟩

set_option maxHeartbeats 800000 in
theorem refApart_any (a c : Option Addr) (len cap cap' : Nat) (x y : List Int) (w : World) (hr : Row .u8 w a len cap x) (hb : IsB x) (hr' : Row .u8 w c len cap' y) (hb' : IsB y) (hsm : len ≤ 1000) :
    Calls Try.prog 19 #[.slice a len cap, .slice c len cap'] w fun e w' => ∃ v, e = .returned v ∧ w'.ownsRow w.heap.size 3 1 v (apartTo x y (8 * len)).length ((apartTo x y (8 * len)).map (Value.int .i64)) ∧ Below w.heap.size w w' := by
  obtain ⟨i0, hi0, hz0, hz1, hz2⟩ := info_parts Try.info3
  go_enter Try.func19, Try.ntmps19
  go_wp2
  go_loopw [5, 6] (fun v y' wr => ∃ i : Nat, i ≤ 8 * len ∧ y' = .int .i64 i ∧ wr.ownsRow w.heap.size 3 1 v (apartTo x y i).length ((apartTo x y i).map (Value.int .i64)) ∧ Below w.heap.size w wr) (fun _ y' _ => 8 * len - (intOf y').toNat)
  case atStart => exact ⟨0, Nat.zero_le _, rfl, World.ownsRow_nil _ _ _ _, Below.refl _ _⟩
  case round =>
    obtain ⟨i, hi, rfl, hown, hnx⟩ := hrel
    have hsz := hnx.size
    by_cases hlt : i < 8 * len
    · have hrr := hr.below hnx (Nat.le_refl _)
      have hrr' := hr'.below hnx (Nat.le_refl _)
      have hle := apartTo_le x y i
      by_cases hne : bitI x i = bitI y i
      · have hq : (bitI x i != bitI y i) = false := by simp [hne]
        have HE : Hid (apartTo x y (i + 1) = apartTo x y i) := apartTo_miss x y i hne
        clear hne
        go_wp2_with fail
        refine (refAt_any _ _ _ i x _ hrr hb hlt hsm).mono ?_
        rintro e w' ⟨rfl, rfl⟩
        go_wp2_with fail
        refine (refAt_any _ _ _ i y _ hrr' hb' hlt hsm).mono ?_
        rintro e w' ⟨rfl, rfl⟩
        go_wp2_with fail
        go_roundw
        case rel => exact ⟨i + 1, by omega, by go_num, by rw [HE.out]; exact hown, hnx⟩
        case measure => simp [intOf]; omega
      · have hq : (bitI x i != bitI y i) = true := by simp [hne]
        have HE : Hid (apartTo x y (i + 1) = apartTo x y i ++ [(i : Int)]) := apartTo_hit x y i hne
        clear hne
        go_wp2_with fail
        refine (refAt_any _ _ _ i x _ hrr hb hlt hsm).mono ?_
        rintro e w' ⟨rfl, rfl⟩
        go_wp2_with fail
        refine (refAt_any _ _ _ i y _ hrr' hb' hlt hsm).mono ?_
        rintro e w' ⟨rfl, rfl⟩
        go_wp2_with (at_builtin; refine wpList_append_own _ rfl _ _ 24 rfl w.heap.size 3 i0 (.int .i64 0) 1 8 Try.underlying24 hi0 hz0 hz1 hz2 rfl (by decide) _ _ _ rfl (hown.alloc _) ⟨wr.heap.size, 0, none⟩ 1 1 [.int .i64 (i : Int)] rfl rfl ?c1 ?c2 ?c3 ?c4 ?c5 ?_)
        case c1 => exact cell_one_new _ _ _
        case c2 => intro u hu; simp at hu; subst hu; rfl
        case c3 => unfold maxLen; omega
        case c4 => omega
        case c5 => simp; omega
        intro v' w1 hown' hgrow _
        have R := rel_push hsz hown hnx hown' hgrow
        clear hown' hgrow hown hrr hrr'
        go_wp2
        go_roundw
        case rel => exact ⟨i + 1, by omega, by go_num, by rw [HE.out, List.length_append]; exact R.1, R.2⟩
        case measure => simp [intOf]; omega
    · have e : i = 8 * len := by omega
      subst e
      go_wp2
      go_ret
      exact ⟨_, rfl, hown, hnx⟩

theorem bitAt_nat (n k : Nat) : bitAt (n : Int) k = ((n / 2 ^ k % 2 : Nat) : Int) := by
  unfold bitAt; simp
theorem xor_range (x y : Int) (h0 : 0 ≤ x) (h1 : x ≤ 255) (g0 : 0 ≤ y) (g1 : y ≤ 255) : 0 ≤ bits .xor .u8 x y ∧ bits .xor .u8 x y ≤ 255 := by
  rw [u8_xor x y h0 (by omega) g0 (by omega)]
  have := @Nat.xor_lt_two_pow x.toNat y.toNat 8 (by omega) (by omega)
  omega
theorem xor_bit (x y : Int) (h0 : 0 ≤ x) (h1 : x ≤ 255) (g0 : 0 ≤ y) (g1 : y ≤ 255) (k : Nat) : (bitAt (bits .xor .u8 x y) k == 1) = (bitAt x k != bitAt y k) := by
  rw [u8_xor x y h0 (by omega) g0 (by omega)]
  have ex : x = (x.toNat : Int) := by omega
  have ey : y = (y.toNat : Int) := by omega
  rw [ex, ey]
  generalize x.toNat = m
  generalize y.toNat = n
  simp only [Int.toNat_natCast, bitAt_nat]
  have hx := Nat.testBit_xor m n k
  simp only [Nat.testBit_eq_decide_div_mod_eq] at hx
  have e1 : (m ^^^ n) / 2 ^ k % 2 = 0 ∨ (m ^^^ n) / 2 ^ k % 2 = 1 := by omega
  have e2 : m / 2 ^ k % 2 = 0 ∨ m / 2 ^ k % 2 = 1 := by omega
  have e3 : n / 2 ^ k % 2 = 0 ∨ n / 2 ^ k % 2 = 1 := by omega
  rcases e1 with e1 | e1 <;> rcases e2 with e2 | e2 <;> rcases e3 with e3 | e3 <;> rw [e1, e2, e3] at hx ⊢ <;> simp at hx ⊢

theorem bitI_at (z : List Int) (i k : Nat) (hk : k < 8) : bitI z (8 * i + k) = bitAt (z[i]?.getD 0) k := by
  unfold bitI
  rw [show (8 * i + k) / 8 = i from by omega, show (8 * i + k) % 8 = k from by omega]

theorem owns_drewN {w : World} {base : Nat} {e : TypeId} {size : Nat} {v : Value} {n : Nat} {xs : List Value} (h : w.ownsRow base e size v n xs) (m : Nat) : (w.drewN m).ownsRow base e size v n xs := h

set_option maxHeartbeats 800000 in
theorem apart_no (a c : Option Addr) (len cap len' cap' : Nat) (w : World) (hl : len ≤ maxLen) (hl' : len' ≤ maxLen) (hne : len ≠ len') :
    Calls Try.prog 17 #[.slice a len cap, .slice c len' cap'] w fun e w' => e = .returned (.tuple #[.slice none 0 0, .int .i64 1]) ∧ w = w' := by
  have hq : ((len : Int) != (len' : Int)) = true := by simp; omega
  go_enter Try.func17, Try.ntmps17
  go_wp2
  go_ret2
  exact ⟨rfl, rfl⟩

set_option maxHeartbeats 800000 in
theorem apart_yes (a c : Option Addr) (len cap cap' : Nat) (x y : List Int) (w : World) (hr : Row .u8 w a len cap x) (hb : IsB x) (hr' : Row .u8 w c len cap' y) (hb' : IsB y) (hsm : len ≤ 1000) :
    Calls Try.prog 17 #[.slice a len cap, .slice c len cap'] w fun e w' => ∃ v, e = .returned (.tuple #[v, .int .i64 0]) ∧ w'.ownsRow w.heap.size 3 1 v (apartTo x y (8 * len)).length ((apartTo x y (8 * len)).map (Value.int .i64)) ∧ Below w.heap.size w w' := by
  obtain ⟨i0, hi0, hz0, hz1, hz2⟩ := info_parts Try.info3
  have hq : ((len : Int) != (len : Int)) = false := by simp
  go_enter Try.func17, Try.ntmps17
  go_wp2
  go_loopw [6, 17] (fun v y' wr => ∃ i : Nat, i ≤ len ∧ y' = .int .i64 i ∧ wr.ownsRow w.heap.size 3 1 v (apartTo x y (8 * i)).length ((apartTo x y (8 * i)).map (Value.int .i64)) ∧ Below w.heap.size w wr) (fun _ y' _ => len - (intOf y').toNat)
  case atStart => exact ⟨0, Nat.zero_le _, rfl, World.ownsRow_nil _ _ _ _, Below.refl _ _⟩
  case round =>
    obtain ⟨i, hi, rfl, hown, hnx⟩ := hrel
    by_cases hlt : i < len
    · have hrr := hr.below hnx (Nat.le_refl _)
      have hrr' := hr'.below hnx (Nat.le_refl _)
      obtain ⟨b, off, rfl, hbs, hcell⟩ := hrr.hcell (by omega)
      obtain ⟨b', off', rfl, hbs', hcell'⟩ := hrr'.hcell (by omega)
      have hc1 := hcell i hlt
      have hc2 := hcell' i hlt
      clear hcell hcell' hrr hrr'
      have hx := hb.idx i
      have hy := hb'.idx i
      have hu := xor_range _ _ hx.1 hx.2 hy.1 hy.2
      have HX : Hid (∀ k, (bitAt (bits .xor .u8 (x[i]?.getD 0) (y[i]?.getD 0)) k == 1) = (bitAt (x[i]?.getD 0) k != bitAt (y[i]?.getD 0) k)) := fun k => xor_bit _ _ hx.1 hx.2 hy.1 hy.2 k
      have hlt' : (i : Int) < (len : Int) := by omega
      go_wp2
      go_quiet (fail)
      generalize bits BinOp.xor IntKind.u8 (x[i]?.getD 0) (y[i]?.getD 0) = u at *
      clear hc1 hc2 hx hy hr hr'
      go_wp2
      go_loopw [6, 29] (fun v y' wq => ∃ k : Nat, k ≤ 8 ∧ y' = .int .i64 k ∧ wq.ownsRow w.heap.size 3 1 v (apartTo x y (8 * i + k)).length ((apartTo x y (8 * i + k)).map (Value.int .i64)) ∧ Below w.heap.size w wq) (fun _ y' _ => 8 - (intOf y').toNat)
      case atStart => exact ⟨0, Nat.zero_le _, rfl, owns_drewN hown _, below_drewN hnx _⟩
      case round =>
        obtain ⟨k, hk, rfl, hown2, hnx2⟩ := hrel
        have hsz := hnx2.size
        clear hown hnx
        by_cases hlt2 : k < 8
        · have hle := apartTo_le x y (8 * i + k)
          have hxk := HX.out k
          have e1 := bitI_at x i k hlt2
          have e2 := bitI_at y i k hlt2
          rw [← e1, ← e2] at hxk
          by_cases hne : bitI x (8 * i + k) = bitI y (8 * i + k)
          · have hq1 : (bitAt u k == 1) = false := by rw [hxk]; simp [hne]
            have HE : Hid (apartTo x y (8 * i + (k + 1)) = apartTo x y (8 * i + k)) := apartTo_miss x y (8 * i + k) hne
            clear hne hxk e1 e2
            go_wp2_with (go_at_call 22; refine (bit_any _ k _ hu.1 hu.2 hlt2).mono ?_; rintro e w' ⟨rfl, rfl⟩)
            go_roundw
            case rel => exact ⟨k + 1, by omega, by go_num, by rw [HE.out]; exact hown2, hnx2⟩
            case measure => simp [intOf]; omega
          · have hq1 : (bitAt u k == 1) = true := by rw [hxk]; simp [hne]
            have HE : Hid (apartTo x y (8 * i + (k + 1)) = apartTo x y (8 * i + k) ++ [((8 * i + k : Nat) : Int)]) := apartTo_hit x y (8 * i + k) hne
            clear hne hxk e1 e2
            go_wp2_with (first
              | (go_at_call 22; refine (bit_any _ k _ hu.1 hu.2 hlt2).mono ?_; rintro e w' ⟨rfl, rfl⟩)
              | (at_builtin; refine wpList_append_own _ rfl _ _ 24 rfl w.heap.size 3 i0 (.int .i64 0) 1 8 Try.underlying24 hi0 hz0 hz1 hz2 rfl (by decide) _ _ _ rfl (hown2.alloc _) ⟨_, 0, none⟩ 1 1 [.int .i64 ((i : Int) * 8 + (k : Int))] rfl rfl ?c1 ?c2 ?c3 ?c4 ?c5 ?_))
            case c1 => exact cell_one_new _ _ _
            case c2 => intro u hu; simp at hu; subst hu; rfl
            case c3 => unfold maxLen; omega
            case c4 => omega
            case c5 => simp; omega
            intro v' w1 hown' hgrow _
            have R := rel_push hsz hown2 hnx2 hown' hgrow
            clear hown' hgrow hown2
            go_wp2
            go_roundw
            case rel => exact ⟨k + 1, by omega, by go_num, by rw [HE.out, List.length_append, show (((8 * i + k : Nat) : Int)) = (i : Int) * 8 + (k : Int) from by omega]; exact R.1, R.2⟩
            case measure => simp [intOf]; omega
        · have e : k = 8 := by omega
          subst e
          go_wp2
          go_roundw
          case rel => exact ⟨i + 1, by omega, by go_num, hown2, hnx2⟩
          case measure => simp [intOf]; omega
    · have e : i = len := by omega
      subst e
      go_wp2
      go_ret2
      exact ⟨_, rfl, hown, hnx⟩

end Go.Proofs.Ytmdiblknjgkpoaa
