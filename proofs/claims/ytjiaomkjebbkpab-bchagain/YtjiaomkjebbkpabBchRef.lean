/-
  Layer 5's reference (casemateref05): Bytes, May, Word, Apart, Sums, Is give what the plain functions give; nothing old turns.
-/
import Derived.Test.YtjiaomkjebbkpabBchPlain2
namespace Go.Proofs.Ytjiaomkjebbkpab
open Go.RowKit
set_option linter.unusedVariables false

/-- What a call owns stays as it is where nothing old turns. -/
theorem owns_below {w w' : World} {base : Nat} {e : TypeId} {size : Nat} {v : Value} {n : Nat} {xs : List Value} (h : w.ownsRow base e size v n xs) (hb : Below w.heap.size w w') : w'.ownsRow base e size v n xs := by
  refine ⟨h.1, ?_⟩
  rcases h.2 with h2 | ⟨g, cap, cur, hv, hg, hh, r⟩
  · exact .inl h2
  · have hlt : g < w.heap.size := by
      rcases Nat.lt_or_ge g w.heap.size with hh' | hh'
      · exact hh'
      · rw [Array.getElem?_eq_none hh'] at hh; simp at hh
    exact .inr ⟨g, cap, cur, hv, hg, by rw [hb.block g hlt]; exact hh, r⟩

/-- May t, so many bytes of data and so many more bytes be? -/
def mayB (t : Int) (len : Nat) (m : Int) : Bool := decide (1 ≤ t ∧ t ≤ 8 ∧ 1 ≤ len ∧ len ≤ 512 ∧ m = (13 * t + 7) / 8)
theorem padB_succ (n : Nat) (p : List Nat) : padB (n + 1) p = padB n p ++ [cf p n] := by simp [padB, List.range_succ]
theorem ints_append (p q : List Nat) : ints (p ++ q) = ints p ++ ints q := by simp [ints]

/-- The sums of a word. -/
def sumsTo (p : List Nat) (n : Nat) : List Nat := (List.range n).map fun i => evl p (gpow 2 (i + 1))
theorem sumsTo_succ (p : List Nat) (n : Nat) : sumsTo p (n + 1) = sumsTo p n ++ [evl p (gpow 2 (n + 1))] := by simp [sumsTo, List.range_succ]
theorem length_sumsTo (p : List Nat) (n : Nat) : (sumsTo p n).length = n := by simp [sumsTo]
theorem cf_sumsTo (p : List Nat) (n i : Nat) (h : i < n) : cf (sumsTo p n) i = evl p (gpow 2 (i + 1)) := by simp [cf, sumsTo, h]
theorem sums_code (t : Nat) (p : List Nat) : code t p ↔ ∀ i, i < 2 * t → cf (sumsTo p (2 * t)) i = 0 := by
  constructor
  · intro h i hi
    rw [cf_sumsTo p _ i hi]
    exact h (i + 1) (by omega) (by omega)
  · intro h i h1 h2
    have := h (i - 1) (by omega)
    rwa [cf_sumsTo p _ _ (by omega), show i - 1 + 1 = i from by omega] at this

end Go.Proofs.Ytjiaomkjebbkpab
