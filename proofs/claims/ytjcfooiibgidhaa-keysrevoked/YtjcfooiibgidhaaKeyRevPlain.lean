/-
  Layer 21, plain: keys that are revoked one behind the other.
-/
import Derived.Test.YtjcfooiibgidhaaKeyPlain
namespace Go.Proofs.Ytjcfooiibgidhaa.N
open Go.RowKit
set_option linter.unusedVariables false
set_option maxRecDepth 8192

/-- What Revoke makes, or what stays. -/
def revN (l : List Ky) (x : Int) : List Ky := match placeK l x with | some i => revK l i | none => l
theorem revN_some {l : List Ky} {x : Int} {i : Nat} (h : placeK l x = some i) : revN l x = revK l i := by unfold revN; rw [h]
theorem revN_none {l : List Ky} {x : Int} (h : placeK l x = none) : revN l x = l := by unfold revN; rw [h]
theorem revN_len (l : List Ky) (x : Int) : (revN l x).length = l.length := by
  unfold revN
  split
  · exact revK_len ..
  · rfl
theorem revN_ok {l : List Ky} (h : ∀ s ∈ l, s.Ok) (x : Int) : ∀ s ∈ revN l x, s.Ok := by
  unfold revN
  split
  · exact revK_ok h _
  · exact h
theorem revN_may {l : List Ky} (h : mayK l = true) (x : Int) : mayK (revN l x) = true := by
  unfold revN
  split
  · exact mayK_rev _ h
  · exact h
theorem revN_place (l : List Ky) (x y : Int) : placeK (revN l x) y = placeK l y := by
  unfold revN
  split
  · exact placeK_rev ..
  · rfl
theorem revN_self (l : List Ky) (x : Int) : fndC (revN l x) x = 190 := by
  cases h : placeK l x with
  | none => rw [revN_none h]; exact (fnd_none h).2
  | some i =>
    have h2 : placeK (revN l x) x = some i := by rw [revN_place]; exact h
    refine (fnd_rev h2 ?_).2
    rw [revN_some h, revK_at l i (placeK_some h).1, if_pos rfl]
theorem revN_at {l : List Ky} {x y : Int} {j : Nat} (hj : placeK l y = some j) : (kyI (revN l x) j).dig = (kyI l j).dig ∧ ((kyI l j).rev = true → (kyI (revN l x) j).rev = true) ∧ (x ≠ y → (kyI (revN l x) j).rev = (kyI l j).rev) := by
  cases h : placeK l x with
  | none => rw [revN_none h]; exact ⟨rfl, id, fun _ => rfl⟩
  | some i =>
    rw [revN_some h, revK_at l i (placeK_some hj).1]
    by_cases e : i = j
    · subst e
      rw [if_pos rfl]
      refine ⟨rfl, fun _ => rfl, fun hne => absurd ?_ hne⟩
      rw [← (placeK_some h).2, ← (placeK_some hj).2]
    · rw [if_neg e]
      exact ⟨rfl, id, fun _ => rfl⟩
theorem revN_keep {l : List Ky} {y : Int} (x : Int) (h : fndC l y = 190) : fndC (revN l x) y = 190 := by
  cases hj : placeK l y with
  | none => exact (fnd_none (by rw [revN_place]; exact hj)).2
  | some j =>
    have h2 : placeK (revN l x) y = some j := by rw [revN_place]; exact hj
    cases hr : (kyI l j).rev
    · have := (fnd_some hj hr).2
      rw [h] at this
      exact absurd this (by decide)
    · exact (fnd_rev h2 ((revN_at (x := x) hj).2.1 hr)).2
theorem revN_other {l : List Ky} {x y : Int} (hne : x ≠ y) : fndD (revN l x) y = fndD l y ∧ fndC (revN l x) y = fndC l y := by
  cases hj : placeK l y with
  | none =>
    have h1 := fnd_none (l := revN l x) (x := y) (by rw [revN_place]; exact hj)
    have h2 := fnd_none hj
    rw [h1.1, h1.2, h2.1, h2.2]
    exact ⟨rfl, rfl⟩
  | some j =>
    have h2 : placeK (revN l x) y = some j := by rw [revN_place]; exact hj
    have h3 := revN_at (x := x) hj
    cases hr : (kyI l j).rev
    · have e1 := fnd_some hj hr
      have e2 := fnd_some h2 (by rw [h3.2.2 hne]; exact hr)
      rw [e1.1, e1.2, e2.1, e2.2, h3.1]
      exact ⟨rfl, rfl⟩
    · have e1 := fnd_rev hj hr
      have e2 := fnd_rev h2 (h3.2.1 hr)
      rw [e1.1, e1.2, e2.1, e2.2]
      exact ⟨rfl, rfl⟩
def revTo (l : List Ky) (z : List Int) : Nat → List Ky
  | 0 => l
  | k + 1 => revN (revTo l z k) (z[k]?.getD 0)
theorem revTo_len (l : List Ky) (z : List Int) : ∀ k, (revTo l z k).length = l.length
  | 0 => rfl
  | k + 1 => by show (revN _ _).length = _; rw [revN_len, revTo_len l z k]
theorem revTo_ok {l : List Ky} (h : ∀ s ∈ l, s.Ok) (z : List Int) : ∀ k, ∀ s ∈ revTo l z k, s.Ok
  | 0 => h
  | k + 1 => revN_ok (revTo_ok h z k) _
theorem revTo_may {l : List Ky} (h : mayK l = true) (z : List Int) : ∀ k, mayK (revTo l z k) = true
  | 0 => h
  | k + 1 => revN_may (revTo_may h z k) _
theorem revTo_gone (l : List Ky) (z : List Int) : ∀ {k j : Nat}, j < k → fndC (revTo l z k) (z[j]?.getD 0) = 190
  | 0, _, h => absurd h (Nat.not_lt_zero _)
  | k + 1, j, h => by
    rcases Nat.lt_or_ge j k with h1 | h1
    · exact revN_keep _ (revTo_gone l z h1)
    · obtain rfl : j = k := by omega
      exact revN_self _ _
/-- Is the number among the first k? -/
def hitTo (z : List Int) (x : Int) : Nat → Bool
  | 0 => false
  | k + 1 => hitTo z x k || (z[k]?.getD 0 == x)
theorem revTo_hit {l : List Ky} {z : List Int} {x : Int} : ∀ {k : Nat}, hitTo z x k = true → fndC (revTo l z k) x = 190
  | 0, h => by cases h
  | k + 1, h => by
    have h : (hitTo z x k || (z[k]?.getD 0 == x)) = true := h
    rcases (Bool.or_eq_true _ _).mp h with h1 | h1
    · exact revN_keep _ (revTo_hit h1)
    · rw [← eq_of_beq h1]
      exact revN_self _ _
theorem revTo_miss {l : List Ky} {z : List Int} {x : Int} : ∀ {k : Nat}, hitTo z x k = false → fndD (revTo l z k) x = fndD l x ∧ fndC (revTo l z k) x = fndC l x
  | 0, _ => ⟨rfl, rfl⟩
  | k + 1, h => by
    have h : (hitTo z x k || (z[k]?.getD 0 == x)) = false := h
    rw [Bool.or_eq_false_iff] at h
    have h1 := revTo_miss (l := l) h.1
    have h2 := revN_other (l := revTo l z k) (fun e : z[k]?.getD 0 = x => by rw [e] at h; simp at h)
    show fndD (revN _ _) x = _ ∧ fndC (revN _ _) x = _
    rw [h2.1, h2.2, h1.1, h1.2]
    exact ⟨rfl, rfl⟩
end Go.Proofs.Ytjcfooiibgidhaa.N
