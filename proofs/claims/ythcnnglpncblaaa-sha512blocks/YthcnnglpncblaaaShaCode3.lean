/-
  The code of layer 13 (sha256): spread.
-/
import Derived.Test.YthcnnglpncblaaaShaCode2
namespace Go.Proofs.Ythcnnglpncblaaa
open Go.RowKit
set_option linter.unusedVariables false
set_option maxRecDepth 8192

/-- Of a word the first j bytes. -/
def pwr (z : List Nat) (i : Nat) : Nat → Nat
  | 0 => 0
  | j + 1 => pwr z i j * 256 + z[4 * i + j]?.getD 0
theorem pwr_lt (z : List Nat) (h : ∀ x ∈ z, x < 256) (i j : Nat) : pwr z i j < 256 ^ j := by
  induction j with
  | zero => simp [pwr]
  | succ j ih =>
    have := getD_lt (by decide) h (4 * i + j)
    simp only [pwr, Nat.pow_succ]
    omega
theorem pwr_four (z : List Nat) (i : Nat) : pwr z i 4 = word4 z i := by simp [pwr, word4]
/-- The array behind k bytes. -/
def wb (z : List Nat) (k : Nat) : List Nat := (List.range 64).map fun i => pwr z i (min 4 (k - 4 * i))
theorem wb_length (z : List Nat) (k : Nat) : (wb z k).length = 64 := by simp [wb]
theorem wb_zero (z : List Nat) : wb z 0 = List.replicate 64 0 := by
  apply List.ext_getElem (by simp [wb])
  intro i h1 h2
  rw [List.getElem_replicate]
  simp only [wb, List.getElem_map, List.getElem_range]
  rw [show min 4 (0 - 4 * i) = 0 from by omega, pwr]
theorem wb_get (z : List Nat) (k i : Nat) (hi : i < 64) : (wb z k)[i]?.getD 0 = pwr z i (min 4 (k - 4 * i)) := by simp [wb, hi]
theorem wb_at (z : List Nat) (k : Nat) (hk : k < 64) : (wb z k)[k / 4]?.getD 0 = pwr z (k / 4) (k % 4) := by
  rw [wb_get z k (k / 4) (by omega)]; congr 1; omega
theorem wb_next (z : List Nat) (k : Nat) (hk : k < 64) : (wb z k).set (k / 4) (pwr z (k / 4) (k % 4) * 256 + z[k]?.getD 0) = wb z (k + 1) := by
  apply List.ext_getElem (by simp [wb])
  intro i h1 h2
  simp only [wb, List.length_map, List.length_range] at h2
  rw [List.getElem_set]
  by_cases e : k / 4 = i
  · rw [if_pos e]
    subst e
    simp only [wb, List.getElem_map, List.getElem_range]
    rw [show min 4 (k + 1 - 4 * (k / 4)) = k % 4 + 1 from by omega, pwr, show 4 * (k / 4) + k % 4 = k from by omega]
  · rw [if_neg e]
    simp only [wb, List.getElem_map, List.getElem_range]
    congr 1
    omega
theorem wb_full (z : List Nat) : wb z 64 = words16 z ++ List.replicate 48 0 := by
  apply List.ext_getElem (by simp [wb, words16])
  intro i h1 h2
  simp only [wb, List.length_map, List.length_range] at h1
  rcases Nat.lt_or_ge i 16 with h | h
  · rw [List.getElem_append_left (by simp [words16]; exact h)]
    simp only [wb, words16, List.getElem_map, List.getElem_range]
    rw [show min 4 (64 - 4 * i) = 4 from by omega, pwr_four]
  · rw [List.getElem_append_right (by simp [words16]; exact h)]
    simp only [wb, List.getElem_map, List.getElem_range, List.getElem_replicate]
    rw [show min 4 (64 - 4 * i) = 0 from by omega, pwr]
theorem or_byte (a b : Nat) (hb : b < 256) : (a * 256) ||| b = a * 256 + b := by
  have := Nat.two_pow_add_eq_or_of_lt (i := 8) hb a
  rw [Nat.mul_comm, ← this]
/-- The array behind k words more. -/
def ws (z : List Nat) (k : Nat) : List Nat := moreW (words16 z) k ++ List.replicate (48 - k) 0
theorem ws_length (z : List Nat) (k : Nat) (hk : k ≤ 48) : (ws z k).length = 64 := by simp [ws, moreW_length, words16_length]; omega
theorem ws_zero (z : List Nat) : ws z 0 = wb z 64 := by rw [wb_full]; rfl
theorem ws_full (z : List Nat) : ws z 48 = spreadL z := by simp [ws, spreadL]
theorem ws_get (z : List Nat) (k i : Nat) (hi : i < 16 + k) : (ws z k)[i]?.getD 0 = (moreW (words16 z) k)[i]?.getD 0 := by
  unfold ws; rw [List.getElem?_append_left (by rw [moreW_length, words16_length]; exact hi)]
theorem ws_next (z : List Nat) (k : Nat) (hk : k < 48) : (ws z k).set (16 + k) (nextW (moreW (words16 z) k)) = ws z (k + 1) := by
  unfold ws
  have hl : (moreW (words16 z) k).length = 16 + k := by rw [moreW_length, words16_length]
  rw [List.set_append_right _ _ (by omega), hl, Nat.sub_self, show 48 - k = (48 - (k + 1)) + 1 from by omega, List.replicate_succ, List.set_cons_zero, moreW, List.append_assoc]
  rfl
end Go.Proofs.Ythcnnglpncblaaa
