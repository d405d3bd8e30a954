/-
  The code of layer 15 (nums), as it landed: Cmp.
-/
import Derived.Test.YtacicjnhpklkfaaDoorNumCode
namespace Go.Proofs.YtacicjnhpklkfaaDoor.N
open Go.RowKit
set_option linter.unusedVariables false
set_option maxRecDepth 8192

def cmpI (x y : Int) : Int := if x < y then -1 else if y < x then 1 else 0
theorem cmpN_I (a b : Nat) : cmpI (a : Int) (b : Int) = cmpN a b := by
  unfold cmpI cmpN
  simp only [Int.ofNat_lt]
theorem cmpN_short {a b : List Nat} (ha : Nrm a) (hb : Nrm b) (h : a.length ≠ b.length) : cmpN a.length b.length = cmpN (vL a) (vL b) := by
  unfold cmpN
  rcases Nat.lt_trichotomy a.length b.length with h1 | h1 | h1
  · rw [if_pos h1, if_pos (Nrm.short ha.dig hb h1)]
  · exact absurd h1 h
  · have := Nrm.short hb.dig ha h1
    rw [if_neg (by omega), if_pos h1, if_neg (by omega), if_pos this]
theorem cmpN_digit {a b : List Nat} {n i : Nat} (ha : Dig a) (hb : Dig b) (hla : a.length = n) (hlb : b.length = n) (hi : i < n) (h : ∀ j, i < j → j < n → dg a j = dg b j) (hne : dg a i ≠ dg b i) : cmpN (dg a i) (dg b i) = cmpN (vL a) (vL b) := by
  have h1 := vTo_above (f := dg a) (g := dg b) hi ha.at hb.at h hne
  have h2 := vTo_above (f := dg b) (g := dg a) hi hb.at ha.at (fun j x y => (h j x y).symm) (fun e => hne e.symm)
  rw [vL_to a n (by omega), vL_to b n (by omega)] at h1
  rw [vL_to a n (by omega), vL_to b n (by omega)] at h2
  unfold cmpN
  simp only [h1, h2]
end Go.Proofs.YtacicjnhpklkfaaDoor.N
