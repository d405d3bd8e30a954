/-
  Layer 4's reference (casemateref04) and the reference's Put of any list of bits: Degree, Bytes, Add, Value give what the plain functions give; nothing old turns.
-/
import Derived.Test.YtjiaomkjebbkpabBpolyPlain
import Derived.Test.YtjiaomkjebbkpabPolyRef
import Derived.Test.YtjiaomkjebbkpabBits
namespace Go.Proofs.Ytjiaomkjebbkpab
open Go.RowKit
set_option linter.unusedVariables false

theorem ints_bts (z : List Int) : ints (bts z) = bitsTo z (8 * z.length) := by
  unfold ints bts bitsTo
  rw [List.map_map]
  apply List.map_congr_left
  intro i _
  show ((bitI z i).toNat : Int) = bitI z i
  rcases bitI_01 z i with h | h <;> rw [h] <;> rfl

theorem putTo_full {l : List Nat} (h : Is01 l) : putTo (pk l) l.length = pk l := by
  unfold putTo
  rw [length_pk]
  show _ = (List.range ((l.length + 7) / 8)).map fun j => (byteOf l j : Int)
  apply List.map_congr_left
  intro j hj
  have hj := List.mem_range.1 hj
  show ((pk l)[j]?.getD 0) % 2 ^ (min 8 (l.length - 8 * j)) = (byteOf l j : Int)
  rw [pk_at]
  have h0 := h.cf (8 * j); have h1 := h.cf (8 * j + 1); have h2 := h.cf (8 * j + 2); have h3 := h.cf (8 * j + 3)
  have h4 := h.cf (8 * j + 4); have h5 := h.cf (8 * j + 5); have h6 := h.cf (8 * j + 6); have h7 := h.cf (8 * j + 7)
  have hz : ∀ k, l.length - 8 * j ≤ k → cf l (8 * j + k) = 0 := fun k hk => cf_big _ _ (by omega)
  have hb := byteOf_lt h j
  unfold byteOf at hb ⊢
  rcases (show min 8 (l.length - 8 * j) = 1 ∨ min 8 (l.length - 8 * j) = 2 ∨ min 8 (l.length - 8 * j) = 3 ∨ min 8 (l.length - 8 * j) = 4 ∨ min 8 (l.length - 8 * j) = 5 ∨ min 8 (l.length - 8 * j) = 6 ∨ min 8 (l.length - 8 * j) = 7 ∨ min 8 (l.length - 8 * j) = 8 by omega) with e | e | e | e | e | e | e | e
  · have := hz 1 (by omega); have := hz 2 (by omega); have := hz 3 (by omega); have := hz 4 (by omega); have := hz 5 (by omega); have := hz 6 (by omega); have := hz 7 (by omega); rw [e]; omega
  · have := hz 2 (by omega); have := hz 3 (by omega); have := hz 4 (by omega); have := hz 5 (by omega); have := hz 6 (by omega); have := hz 7 (by omega); rw [e]; omega
  · have := hz 3 (by omega); have := hz 4 (by omega); have := hz 5 (by omega); have := hz 6 (by omega); have := hz 7 (by omega); rw [e]; omega
  · have := hz 4 (by omega); have := hz 5 (by omega); have := hz 6 (by omega); have := hz 7 (by omega); rw [e]; omega
  · have := hz 5 (by omega); have := hz 6 (by omega); have := hz 7 (by omega); rw [e]; omega
  · have := hz 6 (by omega); have := hz 7 (by omega); rw [e]; omega
  · have := hz 7 (by omega); rw [e]; omega
  · rw [e]; omega

theorem length_addL (p q : List Nat) : (addL p q).length = max p.length q.length := by
  induction p generalizing q with
  | nil => show q.length = max 0 q.length; omega
  | cons x p ih =>
    cases q with
    | nil => show (x :: p).length = max (x :: p).length 0; omega
    | cons y q => show (addL p q).length + 1 = _; rw [ih]; simp only [List.length_cons]; omega
theorem sumTo_end (p q : List Nat) : sumTo p q (max p.length q.length) = addL p q := by
  apply List.ext_getElem
  · rw [length_sumTo, length_addL]
  · intro i h1 h2
    have := cf_addL p q i
    unfold cf at this
    rw [List.getElem?_eq_getElem h2] at this
    simp only [Option.getD_some] at this
    rw [this]
    simp only [sumTo, List.getElem_map, List.getElem_range]
    rfl
theorem xor_int {a b : Nat} (ha : a < 2) (hb : b < 2) : ((a ^^^ b : Nat) : Int) = ((a : Int) + (b : Int)) % 2 := by rw [xor_01 ha hb]; omega

theorem drop_cons (p : List Nat) (k : Nat) (h : k < p.length) : p.drop k = cf p k :: p.drop (k + 1) := by
  rw [List.drop_eq_getElem_cons h]
  unfold cf
  rw [List.getElem?_eq_getElem h]; rfl

end Go.Proofs.Ytjiaomkjebbkpab
