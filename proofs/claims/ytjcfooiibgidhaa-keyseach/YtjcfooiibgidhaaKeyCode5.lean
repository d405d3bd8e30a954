/-
  The code of layer 21 (keys), as it landed: the binary search, place.
-/
import Derived.Test.YtjcfooiibgidhaaKeyOwn
namespace Go.Proofs.Ytjcfooiibgidhaa.N
open Go.RowKit
set_option linter.unusedVariables false
set_option maxRecDepth 8192

/-- A variable that holds a slice; one that holds a number. -/
structure KBox (w : World) (gr gx : Nat) (a : Option Addr) (n c : Nat) (l : List Ky) (x : Int) : Prop where
  ring : w.cell? ⟨gr, 0, none⟩ = some (.slice a n c)
  num : w.cell? ⟨gx, 0, none⟩ = some (.int .i64 x)
  row : KRow w a n c l
theorem KBox.below {w w' : World} {gr gx : Nat} {a : Option Addr} {n c : Nat} {l : List Ky} {x : Int} (h : KBox w gr gx a n c l x) (q : Below w.heap.size w w') : KBox w' gr gx a n c l x :=
  ⟨by rw [q.cell (lt_of_cell h.ring)]; exact h.ring, by rw [q.cell (lt_of_cell h.num)]; exact h.num, h.row.below q (Nat.le_refl _)⟩
set_option maxHeartbeats 800000 in
theorem closure21_any {w : World} {gr gx : Nat} {a : Option Addr} {n c : Nat} {l : List Ky} {x : Int} (h : KBox w gr gx a n c l x) (i : Nat) (hi : i < n) :
    Calls Try.prog 29 #[.int .i64 (i : Int), .pointer (some ⟨gr, 0, none⟩), .pointer (some ⟨gx, 0, none⟩)] w fun e w' => e = .returned (.bool (decide (x ≤ (kyI l i).num))) ∧ Below w.heap.size w w' := by
  obtain ⟨b, off, rfl, hbs, hcell⟩ := h.row.hcell (by omega)
  have hx := kr_num (hcell i hi)
  have hm := h.row.hmax
  have hc := h.row.hcap
  have c1 := h.ring
  have c2 := h.num
  unfold maxLen at hm
  have hi' : (i : Int) < (n : Int) := by omega
  clear h hcell
  generalize (kyI l i).num = y at *
  go_enter Try.func29, Try.ntmps29
  go_wp2_with fail
  refine av_open (fun w' => Below w.heap.size w w') (by kernel_rfl) ?_
  refine held_reads (rs := [0, 1, 2, 3, 4, 5, 6, 7]) (fuel := 0) (by kernel_rfl) (fun c d v a w h => by cases d <;> exact h) (by kernel_rfl) ((Below.refl _ _).drew) (fun K hK => ?_)
  refine calm_do (.slice (some ⟨b, off, none⟩) n c) rfl (by rfl) (fun w' hw' => ?_) ?_
  · have d1 : w'.cell? ⟨gr, 0, none⟩ = some (.slice (some ⟨b, off, none⟩) n c) := by rw [hw'.cell (lt_of_cell c1)]; exact c1
    go_simp
  go_simp
  refine calm_move _ rfl (by rfl) rfl ?_
  go_simp
  refine calm_do (.pointer (some ⟨b, off + i * 34, none⟩)) rfl (by rfl) (fun w' hw' => ?_) ?_
  · go_simp
  go_simp
  refine calm_do (.pointer (some ⟨b, off + i * 34, none⟩)) rfl (by rfl) (fun w' hw' => ?_) ?_
  · go_simp
  go_simp
  refine calm_do (.int .i64 y) rfl (by rfl) (fun w' hw' => ?_) ?_
  · have d1 : w'.cell? ⟨b, off + i * 34, none⟩ = some (.int .i64 y) := by rw [hw'.cell (lt_of_cell hx)]; exact hx
    go_simp
  go_simp
  refine calm_do (.int .i64 x) rfl (by rfl) (fun w' hw' => ?_) ?_
  · have d1 : w'.cell? ⟨gx, 0, none⟩ = some (.int .i64 x) := by rw [hw'.cell (lt_of_cell c2)]; exact c2
    go_simp
  go_simp
  refine calm_do (.bool (decide (x ≤ y))) rfl (by rfl) (fun w' hw' => ?_) ?_
  · go_simp
  go_simp
  refine calm_assign _ rfl (by rfl) rfl ?_
  go_simp
  refine calm_nil (hK.out _ ?_)
  clear hK K
  refine wpAnyH_done (by kernel_rfl) ?_ _
  go_wp2_with fail
  go_ret
  exact ⟨rfl, (Below.refl _ _).drew⟩
/-- Below c the numbers are less, from c on they are not. -/
structure Part (l : List Ky) (x : Int) (n lo hi : Nat) : Prop where
  lt : ∀ t, t < lo → (kyI l t).num < x
  ge : ∀ t, hi ≤ t → t < n → x ≤ (kyI l t).num
set_option maxHeartbeats 1600000 in
theorem search21_any {w : World} {gr gx : Nat} {a : Option Addr} {n c : Nat} {l : List Ky} {x : Int} (h : KBox w gr gx a n c l x) (hm : mayK l = true) :
    Calls Try.prog 28 #[.int .i64 (n : Int), .func (.func 29) #[] #[.pointer (some ⟨gr, 0, none⟩), .pointer (some ⟨gx, 0, none⟩)]] w fun e w' => ∃ p : Nat, p ≤ n ∧ e = .returned (.int .i64 (p : Int)) ∧ Part l x n p p ∧ Below w.heap.size w w' := by
  have hn8 : n ≤ 8 := by rw [← h.row.hlen]; exact (mayK_yes hm).1
  have HN : Hid (l.length = n) := h.row.hlen
  have HF : Hid (∀ w', Below w.heap.size w w' → ∀ i, i < n → Calls Try.prog 29 #[.int .i64 (i : Int), .pointer (some ⟨gr, 0, none⟩), .pointer (some ⟨gx, 0, none⟩)] w' fun e w'' => e = .returned (.bool (decide (x ≤ (kyI l i).num))) ∧ Below w'.heap.size w' w'') :=
    fun w' q i hi => closure21_any (h.below q) i hi
  have HM : Hid (mayK l = true) := hm
  have heg : ∀ args w, Sem.run Try.prog (callFunc 29 args) w = .ok (.enter 29 args) w := fun _ _ => rfl
  clear h hm
  go_enter Try.func28, Try.ntmps28
  go_wp2_with fail
  go_loopw [5, 6] (fun s5 s6 wr => ∃ lo hi : Nat, s5 = .int .i64 (lo : Int) ∧ s6 = .int .i64 (hi : Int) ∧ lo ≤ hi ∧ hi ≤ n ∧ Hid (Part l x n lo hi) ∧ Below w.heap.size w wr) (fun s5 s6 _ => (RowKit.intOf s6 - RowKit.intOf s5).toNat)
  case atStart => exact ⟨0, n, rfl, rfl, Nat.zero_le _, Nat.le_refl _, ⟨fun t ht => absurd ht (Nat.not_lt_zero _), fun t h1 h2 => by omega⟩, Below.refl _ _⟩
  case round =>
    obtain ⟨lo, hi, rfl, rfl, hlh, hin, HP, q⟩ := hrel
    by_cases hlt : lo < hi
    · have hc := HF.out wr q ((lo + hi) / 2) (by omega)
      have HA : Hid ((kyI l ((lo + hi) / 2)).num < x → Part l x n ((lo + hi) / 2 + 1) hi) := fun h9 => ⟨fun t ht => by
        rcases Nat.lt_or_ge t ((lo + hi) / 2) with h1 | h1
        · have := mayK_lt HM.out h1 (by rw [HN.out]; omega); omega
        · obtain rfl : t = (lo + hi) / 2 := by omega
          exact h9, HP.out.ge⟩
      have HB : Hid (x ≤ (kyI l ((lo + hi) / 2)).num → Part l x n lo ((lo + hi) / 2)) := fun h9 => ⟨HP.out.lt, fun t ht htn => by
        rcases Nat.lt_or_ge ((lo + hi) / 2) t with h1 | h1
        · have := mayK_lt HM.out h1 (by rw [HN.out]; exact htn); omega
        · obtain rfl : t = (lo + hi) / 2 := by omega
          exact h9⟩
      rw [show (((lo + hi) / 2 : Nat) : Int) = ((lo : Int) + (hi : Int)) / 2 by omega] at hc
      by_cases hp : x ≤ (kyI l ((lo + hi) / 2)).num
      · rw [decide_eq_true hp] at hc
        have HP2 := HB.out hp
        have HP3 : Hid (Part l x n lo ((lo + hi) / 2)) := HP2
        clear HA HB HP2 hp HP
        go_wp2_with fail
        refine hc.mono ?_
        rintro e w2 ⟨rfl, q2⟩
        have q3 := btrans q q2
        clear hc q2
        go_wp2_with fail
        go_roundw
        case rel => exact ⟨lo, (lo + hi) / 2, rfl, by go_num, by omega, by omega, HP3, q3⟩
        case measure => simp [RowKit.intOf]; omega
      · rw [decide_eq_false hp] at hc
        have HP2 := HA.out (by omega)
        have HP3 : Hid (Part l x n ((lo + hi) / 2 + 1) hi) := HP2
        clear HA HB HP2 hp HP
        go_wp2_with fail
        refine hc.mono ?_
        rintro e w2 ⟨rfl, q2⟩
        have q3 := btrans q q2
        clear hc q2
        go_wp2_with fail
        go_roundw
        case rel => exact ⟨(lo + hi) / 2 + 1, hi, by go_num, rfl, by omega, by omega, HP3, q3⟩
        case measure => simp [RowKit.intOf]; omega
    · obtain rfl : hi = lo := by omega
      go_wp2_with fail
      go_ret
      exact ⟨hi, hin, rfl, HP.out, q⟩
end Go.Proofs.Ytjcfooiibgidhaa.N
