/-
 The document's answer of layer 11: Count; the law's healthy.
-/
import Derived.Test.YtbafkakhhelcmaaGreatStoreRef4
namespace Go.Proofs.YtbafkakhhelcmaaGreat
open Go.RowKit Go.Maps
set_option linter.unusedVariables false
set_option maxRecDepth 8192

/-- How many of the first k are so. -/
def cntB (f : Nat → Bool) : Nat → Nat
 | 0 => 0
 | k + 1 => cntB f k + if f k then 1 else 0
theorem cntB_le (f : Nat → Bool) (k : Nat) : cntB f k ≤ k := by
 induction k with
 | zero => exact Nat.le_refl _
 | succ k ih => unfold cntB; split <;> omega
set_option maxHeartbeats 1600000 in
theorem refCount11_any (hb db L c1 c2 : Nat) (M : Int → Option (List Int)) (hL : L ≤ 1000) (w : World) (h : MapAt w hb db L M) : Calls Tryz.prog 21 #[mapV hb db L c1 c2] w fun e w' => e = .returned (.int .i64 ((cntB (fun i => (M i).isSome) L : Nat) : Int)) ∧ Below w.heap.size w w' := by
 have HB : Hid (Below w.heap.size w (w.alloc (.cells #[.slice (some ⟨hb, 0, none⟩) L c1, .slice (some ⟨db, 0, none⟩) L c2] 40))) := below_one w _
 have hs := h.hs.below HB.out
 have v0 := vrow_box w 40 (.slice (some ⟨hb, 0, none⟩) L c1) (.slice (some ⟨db, 0, none⟩) L c2)
 have b0 := v0.at 0 (by omega)
 simp only [if_true] at b0
 clear h v0
 unfold mapV
 go_enter Tryz.func21, Tryz.ntmps21
 go_wp2_with fail
 generalize w.alloc (.cells #[.slice (some ⟨hb, 0, none⟩) L c1, .slice (some ⟨db, 0, none⟩) L c2] 40) = w0 at *
 go_loopw [3, 4] (fun n i wr => wr = w0 ∧ ∃ k : Nat, k ≤ L ∧ i = .int .i64 (k : Int) ∧ n = .int .i64 ((cntB (fun i => (M i).isSome) k : Nat) : Int)) (fun _ i _ => L - (RowKit.intOf i).toNat)
 case atStart => exact ⟨rfl, 0, by omega, rfl, rfl⟩
 case round =>
  obtain ⟨rfl, k, hk, rfl, rfl⟩ := hrel
  by_cases hlt : k < L
  ·have hlt' : (k : Int) < (L : Int) := by omega
   have x := hs.at k hlt
   have hcl := cntB_le (fun i : Nat => (M i).isSome) k
   cases hM : (M k).isSome
   ·have HE : Hid (cntB (fun i : Nat => (M i).isSome) (k + 1) = cntB (fun i : Nat => (M i).isSome) k) := by show cntB _ k + (if (M k).isSome then 1 else 0) = _; rw [hM]; simp
    rw [hM] at x
    generalize cntB (fun i : Nat => (M i).isSome) k = cn at *
    go_wp2_with fail
    go_roundw
    case rel => exact ⟨trivial, k + 1, by omega, by go_num, by rw [HE.out]⟩
    case measure => simp [RowKit.intOf]; omega
   ·have HE : Hid (cntB (fun i : Nat => (M i).isSome) (k + 1) = cntB (fun i : Nat => (M i).isSome) k + 1) := by show cntB _ k + (if (M k).isSome then 1 else 0) = _; rw [hM]; simp
    rw [hM] at x
    generalize cntB (fun i : Nat => (M i).isSome) k = cn at *
    go_wp2_with fail
    go_roundw
    case rel => exact ⟨trivial, k + 1, by omega, by go_num, by rw [HE.out]; go_num⟩
    case measure => simp [RowKit.intOf]; omega
  ·obtain rfl : k = L := by omega
   have hge : ¬ (k : Int) < (k : Int) := by omega
   go_wp2_with fail
   go_ret
   exact ⟨rfl, HB.out⟩
set_option maxHeartbeats 1600000 in
theorem healthy11_any (ib n c : Nat) (ill : Nat → Bool) (hn : n ≤ 1000) (w : World) (h : VRow w ib 4 n (fun i => .bool (ill i))) : Calls Tryz.prog 20 #[.slice (some ⟨ib, 0, none⟩) n c] w fun e w' => e = .returned (.int .i64 ((cntB (fun i => !ill i) n : Nat) : Int)) ∧ w = w' := by
 go_enter Tryz.func20, Tryz.ntmps20
 go_wp2_with fail
 go_loopw [3, 4] (fun m i wr => wr = w ∧ ∃ k : Nat, k ≤ n ∧ i = .int .i64 (k : Int) ∧ m = .int .i64 ((cntB (fun i => !ill i) k : Nat) : Int)) (fun _ i _ => n - (RowKit.intOf i).toNat)
 case atStart => exact ⟨rfl, 0, by omega, rfl, rfl⟩
 case round =>
  obtain ⟨rfl, k, hk, rfl, rfl⟩ := hrel
  by_cases hlt : k < n
  ·have hlt' : (k : Int) < (n : Int) := by omega
   have x := h.at k hlt
   have hcl := cntB_le (fun i : Nat => !ill i) k
   cases hM : ill k
   ·have HE : Hid (cntB (fun i : Nat => !ill i) (k + 1) = cntB (fun i : Nat => !ill i) k + 1) := by show cntB _ k + (if !ill k then 1 else 0) = _; rw [hM]; simp
    rw [hM] at x
    generalize cntB (fun i : Nat => !ill i) k = cn at *
    go_wp2_with fail
    go_roundw
    case rel => exact ⟨trivial, k + 1, by omega, by go_num, by rw [HE.out]; go_num⟩
    case measure => simp [RowKit.intOf]; omega
   ·have HE : Hid (cntB (fun i : Nat => !ill i) (k + 1) = cntB (fun i : Nat => !ill i) k) := by show cntB _ k + (if !ill k then 1 else 0) = _; rw [hM]; simp
    rw [hM] at x
    generalize cntB (fun i : Nat => !ill i) k = cn at *
    go_wp2_with fail
    go_roundw
    case rel => exact ⟨trivial, k + 1, by omega, by go_num, by rw [HE.out]⟩
    case measure => simp [RowKit.intOf]; omega
  ·obtain rfl : k = n := by omega
   have hge : ¬ (k : Int) < (k : Int) := by omega
   go_wp2_with fail
   go_ret
   exact ⟨rfl, rfl⟩
end Go.Proofs.YtbafkakhhelcmaaGreat
