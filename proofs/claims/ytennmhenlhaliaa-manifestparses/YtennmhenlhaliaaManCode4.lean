/-
  The code of layer 20 (manifest), as it landed: the reader: need, take, number.
-/
import Derived.Test.YtennmhenlhaliaaManCode3
import Derived.Test.YtennmhenlhaliaaNumCode
import Derived.WalkSmall
namespace Go.Proofs.Ytennmhenlhaliaa.N
open Go.RowKit
set_option linter.unusedVariables false
set_option maxRecDepth 8192

/-- The panic by which a reader gives up. -/
def gaveUp : List PanicEntry := [{ v := .iface 26 (.int .i64 4), recovered := false }]
theorem need_yes (g : Nat) (w : World) : Calls Try.prog 26 #[.pointer (some ⟨g, 0, none⟩), .bool true] w fun e w' => e = .returned (.tuple #[]) ∧ w = w' := by
  go_enter Try.func26, Try.ntmps26
  go_wp2_with fail
  go_end0
  first | exact ⟨rfl, rfl⟩ | simp
theorem need_no (g : Nat) (w : World) : Calls Try.prog 26 #[.pointer (some ⟨g, 0, none⟩), .bool false] w fun e w' => e = .panicked gaveUp ∧ w = w' := by
  go_enter Try.func26, Try.ntmps26
  go_wp2_with fail
  exact ⟨rfl, rfl, rfl⟩
/-- The reader at g has the bytes z left. -/
structure RAt (w : World) (g : Nat) (a : Option Addr) (n c : Nat) (z : List Int) : Prop where
  box : w.heap[g]? = some (.cells #[.slice a n c] 51 (0, 0))
  row : Row .u8 w a n c z
  apart : 0 < n → ∀ q, a = some q → q.block < g
theorem row_set {k : IntKind} {w : World} {a : Option Addr} {n c g j : Nat} {z : List Int} (h : Row k w a n c z) (hg : ∀ q, a = some q → q.block ≠ g) (v : Value) : Row k (w.setCell ⟨g, j, none⟩ v) a n c z := by
  refine ⟨h.hlen, h.hcap, h.hmax, h.hnil, fun h0 => ?_⟩
  obtain ⟨b, off, rfl, hb, hc⟩ := h.hcell h0
  refine ⟨b, off, rfl, by simpa using hb, fun i hi => ?_⟩
  rw [World.cell?_of_block (w := w) (Below.heap_setCell w _ v b (hg _ rfl))]
  exact hc i hi
theorem RAt.step {w : World} {g b off n c k : Nat} {z : List Int} (H : RAt w g (some ⟨b, off, none⟩) n c z) (h0 : 0 < n) (hk : k ≤ n) (a' : Option Addr) (ha : a' = some ⟨b, off + k, none⟩ ∨ (k = n ∧ a' = some ⟨b, off, none⟩)) :
    RAt (w.setCell ⟨g, 0, none⟩ (.slice a' (n - k) (c - k))) g a' (n - k) (c - k) (z.drop k) := by
  have hbg := H.apart h0 _ rfl
  have hp : ∀ q, a' = some q → q.block < g := fun q hq => by
    rcases ha with rfl | ⟨_, rfl⟩ <;> (cases hq; exact hbg)
  refine ⟨by rw [heap_setCell_same w g 0 _ _ _ H.box]; rfl, row_set ?_ (fun q hq => Nat.ne_of_lt (hp q hq)) _, fun _ => hp⟩
  rcases ha with rfl | ⟨rfl, rfl⟩
  · exact row_drop H.row k hk
  · have hl := H.row.hlen
    have hc := H.row.hcap
    have hm := H.row.hmax
    exact ⟨by rw [List.length_drop]; omega, by omega, by omega, (fun h => by cases h), fun h => absurd h (by omega)⟩
theorem take_no {w : World} {g : Nat} {a : Option Addr} {n c : Nat} {z : List Int} (h : RAt w g a n c z) (k : Nat) (hk : n < k) (hk2 : k ≤ 1000) :
    Calls Try.prog 27 #[.pointer (some ⟨g, 0, none⟩), .int .i64 (k : Int)] w fun e w' => e = .panicked gaveUp ∧ w = w' := by
  have c0 : w.cell? ⟨g, 0, none⟩ = some (.slice a n c) := man_c h.box 0
  have f0 := arr_unfrozen h.box 0
  have hk' : ¬ (k : Int) ≤ (n : Int) := by omega
  go_enter Try.func27, Try.ntmps27
  go_wp2_with fail
  refine (need_no g w).mono ?_
  rintro e w' ⟨rfl, rfl⟩
  go_wp2_with fail
  exact ⟨rfl, rfl, rfl⟩
theorem take_yes {w : World} {g : Nat} {a : Option Addr} {n c : Nat} {z : List Int} (h : RAt w g a n c z) (k : Nat) (h0 : 0 < k) (hk : k ≤ n) :
    Calls Try.prog 27 #[.pointer (some ⟨g, 0, none⟩), .int .i64 (k : Int)] w fun e w' => ∃ a', e = .returned (.slice a k c) ∧ w' = w.setCell ⟨g, 0, none⟩ (.slice a' (n - k) (c - k)) ∧ RAt w' g a' (n - k) (c - k) (z.drop k) := by
  have c0 : w.cell? ⟨g, 0, none⟩ = some (.slice a n c) := man_c h.box 0
  have f0 := arr_unfrozen h.box 0
  have hcap := h.row.hcap
  have hmax := h.row.hmax
  unfold maxLen at hmax
  have hk' : (k : Int) ≤ (n : Int) := by omega
  obtain ⟨b, off, rfl, hbs, _⟩ := h.row.hcell (by omega)
  have H : Hid (RAt w g (some ⟨b, off, none⟩) n c z) := h
  clear h
  by_cases hck : c = k
  · obtain rfl : n = k := by omega
    subst hck
    have HR := H.out.step (by omega) (Nat.le_refl _) (some ⟨b, off, none⟩) (.inr ⟨rfl, rfl⟩)
    simp only [Nat.sub_self] at HR ⊢
    go_enter Try.func27, Try.ntmps27
    go_wp2_with fail
    refine (need_yes g w).mono ?_
    rintro e w' ⟨rfl, rfl⟩
    go_wp2_with fail
    go_ret
    exact ⟨_, rfl, rfl, HR⟩
  · have HR := H.out.step (by omega) hk (some ⟨b, off + k, none⟩) (.inl rfl)
    go_enter Try.func27, Try.ntmps27
    go_wp2_with fail
    refine (need_yes g w).mono ?_
    rintro e w' ⟨rfl, rfl⟩
    go_wp2_with fail
    go_ret
    exact ⟨_, rfl, rfl, HR⟩
theorem number_no {w : World} {g : Nat} {a : Option Addr} {n c : Nat} {z : List Int} (h : RAt w g a n c z) (hn : n < 4) :
    Calls Try.prog 28 #[.pointer (some ⟨g, 0, none⟩)] w fun e w' => e = .panicked gaveUp ∧ w = w' := by
  have ht := take_no h 4 hn (by decide)
  go_enter Try.func28, Try.ntmps28
  go_wp2_with fail
  refine ht.mono ?_
  rintro e w' ⟨rfl, rfl⟩
  go_wp2_with fail
  exact ⟨rfl, rfl, rfl⟩
set_option maxHeartbeats 800000 in
theorem number_yes {w : World} {g : Nat} {a : Option Addr} {n c : Nat} {z : List Int} (h : RAt w g a n c z) (hz : IsB z) (hn : 4 ≤ n) :
    Calls Try.prog 28 #[.pointer (some ⟨g, 0, none⟩)] w fun e w' => ∃ a', e = .returned (.int .i64 (numAt z 0)) ∧ w' = w.setCell ⟨g, 0, none⟩ (.slice a' (n - 4) (c - 4)) ∧ RAt w' g a' (n - 4) (c - 4) (z.drop 4) := by
  have ht := take_yes h 4 (by decide) hn
  have hr := fun v => row_set (j := 0) (row_take h.row 4 hn) (fun q hq => Nat.ne_of_lt (h.apart (by omega) q hq)) v
  have hmx := h.row.hmax
  have hcp := h.row.hcap
  unfold maxLen at hmx
  have hb := isB_take hz 4
  have HN : Hid (numTo (z.take 4) 0 4 = numAt z 0) := by
    show _ = _
    rw [numTo_four]
    simp [numAt]
  clear h
  go_enter Try.func28, Try.ntmps28
  go_wp2_with fail
  refine ht.mono ?_
  rintro e w1 ⟨a', rfl, hw1, H1⟩
  have HW : Hid (w1 = _) := hw1
  replace hr := hr (.slice a' (n - 4) (c - 4))
  rw [← hw1] at hr
  have HR : Hid (RAt w1 g a' (n - 4) (c - 4) (z.drop 4)) := H1
  obtain ⟨b, off, rfl, hbs, hcell⟩ := hr.hcell (by decide)
  clear ht hw1 H1 hr
  generalize z.take 4 = y at *
  go_wp2_with fail
  go_loop [3, 9] (fun n y' => ∃ k : Nat, k ≤ 4 ∧ y' = .int .i64 (k : Int) ∧ n = .int .i64 (numTo y 0 k)) (fun _ y' => 4 - (RowKit.intOf y').toNat)
  case atStart => exact ⟨0, Nat.zero_le _, rfl, rfl⟩
  case round =>
    obtain ⟨k, hk, rfl, rfl⟩ := hrel
    by_cases hlt : k < 4
    · have hc1 := hcell k hlt
      have hx := hb.idx (0 + k)
      have hn := numTo_bd hb 0 k
      have HS : Hid (numTo y 0 (k + 1) = numTo y 0 k + y[0 + k]?.getD 0 * 256 ^ k) := rfl
      have HO : Hid (bits .or .i64 (numTo y 0 k) (wrap64 (y[0 + k]?.getD 0 * 2 ^ (8 * k))) = numTo y 0 k + y[0 + k]?.getD 0 * 256 ^ k) := or_num _ _ k hlt hn.1 hn.2 hx.1 hx.2
      rw [Nat.zero_add] at hx HS HO
      clear hcell
      generalize numTo y 0 k = nn at *
      generalize y[k]?.getD 0 = x at *
      have hk4 : (k : Int) < 4 := by omega
      go_wp2
      go_round
      case rel => exact ⟨k + 1, by omega, by go_num, by rw [HO.out, HS.out]⟩
      case measure => simp [RowKit.intOf]; omega
    · have e : k = 4 := by omega
      subst e
      rw [HN.out]
      go_wp2
      go_ret
      exact ⟨rfl, a', HW.out, HR.out⟩
end Go.Proofs.Ytennmhenlhaliaa.N
