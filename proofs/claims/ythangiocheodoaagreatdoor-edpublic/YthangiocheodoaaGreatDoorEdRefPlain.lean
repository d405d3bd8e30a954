/-
 Layer 19, in plain words: the document's sum of places (x and y over z, d taken as a quotient), and what it makes of so many times; two places of one point.
-/
import Derived.Test.YthangiocheodoaaGreatDoorCurveRef
import Derived.Test.YthangiocheodoaaGreatDoorEdPlain
namespace Go.Proofs.YthangiocheodoaaGreatDoor.N
set_option linter.unusedVariables false
set_option maxRecDepth 8192

/-- The document's sum of places. -/
def rplus3 (p q : T3) : T3 :=
 ⟨n66 * (p.z * q.z) * (p.x * q.y + p.y * q.x) * (n66 * (p.z * q.z * (p.z * q.z)) + n65 * (p.x * q.y * (p.y * q.x))),
  n66 * (p.z * q.z) * (p.y * q.y + p.x * q.x) * (n66 * (p.z * q.z * (p.z * q.z)) - n65 * (p.x * q.y * (p.y * q.x))),
  (n66 * (p.z * q.z * (p.z * q.z)) - n65 * (p.x * q.y * (p.y * q.x))) * (n66 * (p.z * q.z * (p.z * q.z)) + n65 * (p.x * q.y * (p.y * q.x)))⟩
theorem rdown_gen (m d n z x y u v : Fp) (h : m * d = -n) : m * (z * z) - n * (x * v * (y * u)) = m * (z * z + d * (x * u * (y * v))) := by grind
theorem rup_gen (m d n z x y u v : Fp) (h : m * d = -n) : m * (z * z) + n * (x * v * (y * u)) = m * (z * z - d * (x * u * (y * v))) := by grind
theorem rone_gen (m z s u : Fp) : m * z * s * (m * u) = m * m * (z * s * u) := by grind
theorem rtwo_gen (m u v : Fp) : m * u * (m * v) = m * m * (u * v) := by grind
theorem rmany_gen (c x z : Fp) : c * (x * z) = x * (c * z) := by grind
def many3 (c : Fp) (t : T3) : T3 := ⟨c * t.x, c * t.y, c * t.z⟩
theorem rplus_many (p q : T3) : rplus3 p q = many3 (n66 * n66) (plus3 p q) := by
 unfold rplus3 many3 plus3
 rw [rdown_gen n66 cD n65 (p.z * q.z) p.x p.y q.x q.y n66_cD, rup_gen n66 cD n65 (p.z * q.z) p.x p.y q.x q.y n66_cD, rone_gen, rone_gen, rtwo_gen n66 (p.z * q.z * (p.z * q.z) + cD * (p.x * q.x * (p.y * q.y)))]
theorem Stands.many {t : T3} {p : Pt} (h : Stands t p) {c : Fp} (hc : c ≠ 0) : Stands (many3 c t) p :=
 ⟨fp_mul_ne hc h.z, by show c * t.x = p.x * (c * t.z); rw [h.x]; exact rmany_gen _ _ _, by show c * t.y = p.y * (c * t.z); rw [h.y]; exact rmany_gen _ _ _⟩
theorem Stands.rplus {s t : T3} {p q : Pt} (hs : Stands s p) (ht : Stands t q) (hp : OnC p) (hq : OnC q) : Stands (rplus3 s t) (psum p q) := by
 rw [rplus_many]
 exact (hs.plus ht hp hq).many (fp_mul_ne n66_ne n66_ne)
/-- One bit more. -/
theorem Stands.bit0 {s : T3} {p : Pt} {m : Nat} (hs : Stands s (ptimes m p)) (hp : OnC p) : Stands (rplus3 s s) (ptimes (2 * m) p) := by
 rw [Nat.two_mul, ptimes_add hp]
 exact hs.rplus hs (ptimes_on hp m) (ptimes_on hp m)
theorem Stands.bit1 {s t : T3} {p : Pt} {m : Nat} (hs : Stands s (ptimes m p)) (ht : Stands t p) (hp : OnC p) : Stands (rplus3 s t) (ptimes (m + 1) p) := by
 rw [ptimes_add hp, ptimes_one hp]
 exact hs.rplus ht (ptimes_on hp m) hp
/-- What comes of the upper j bits of v's T ones. -/
def rbit (o : T3) (b : Bool) (p : T3) : T3 := if b then rplus3 (rplus3 o o) p else rplus3 o o
def rrun (p : T3) (v T : Nat) : Nat → T3
 | 0 => zero3
 | j + 1 => rbit (rrun p v T j) (decide (v / 2 ^ (T - (j + 1)) % 2 = 1)) p
theorem rrun_step (p : T3) (v T L : Nat) (h : L + 1 ≤ T) : rrun p v T (T - L) = rbit (rrun p v T (T - (L + 1))) (decide (v / 2 ^ L % 2 = 1)) p := by
 obtain ⟨j, hj⟩ : ∃ j, T - (L + 1) = j := ⟨_, rfl⟩
 have e : T - L = j + 1 := by omega
 have e2 : T - (j + 1) = L := by omega
 rw [hj, e]
 show rbit (rrun p v T j) (decide (v / 2 ^ (T - (j + 1)) % 2 = 1)) p = _
 rw [e2]
theorem Stands.rrun {s : T3} {p : Pt} (hs : Stands s p) (hp : OnC p) (v T : Nat) (hv : v < 2 ^ T) : ∀ j, j ≤ T → Stands (N.rrun s v T j) (ptimes (v / 2 ^ (T - j)) p)
 | 0, _ => by
  rw [Nat.sub_zero, Nat.div_eq_of_lt hv]
  exact Stands.zero
 | j + 1, hj => by
  have ih := Stands.rrun hs hp v T hv j (by omega)
  have hn : v / 2 ^ (T - (j + 1)) = 2 * (v / 2 ^ (T - j)) + v / 2 ^ (T - (j + 1)) % 2 := by
   have : T - j = T - (j + 1) + 1 := by omega
   rw [this, Nat.pow_succ, ← Nat.div_div_eq_div_mul]
   omega
  have h2 := ih.bit0 hp
  show Stands (rbit (N.rrun s v T j) (decide (v / 2 ^ (T - (j + 1)) % 2 = 1)) s) _
  generalize v / 2 ^ (T - j) = m at *
  rcases Nat.mod_two_eq_zero_or_one (v / 2 ^ (T - (j + 1))) with h | h
  ·rw [h] at hn
   rw [h, hn, Nat.add_zero]
   exact h2
  ·rw [h] at hn
   rw [h, hn]
   exact h2.bit1 hs hp
theorem Stands.rall {s : T3} {p : Pt} (hs : Stands s p) (hp : OnC p) (v T : Nat) (hv : v < 2 ^ T) : Stands (N.rrun s v T T) (ptimes v p) := by
 have := hs.rrun hp v T hv T (Nat.le_refl _)
 rwa [Nat.sub_self, Nat.pow_zero, Nat.div_one] at this
/-- A byte's bits from the top on, by doubling. -/
theorem top_bits : ∀ (x : Fin 256) (k : Fin 8), decide (128 ≤ x.val * 2 ^ k.val % 256) = decide (x.val / 2 ^ (7 - k.val) % 2 = 1) := by decide +kernel
theorem top_next (x k : Nat) : 2 * (x * 2 ^ k % 256) % 256 = x * 2 ^ (k + 1) % 256 := by
 rw [Nat.pow_succ, ← Nat.mul_assoc, Nat.mul_comm _ 2]
 generalize x * 2 ^ k = y
 omega
theorem same_gen (a b z w : Fp) : a * z * w = b * w * z ↔ z * w * a = z * w * b := by grind
/-- Two places of one point. -/
theorem same_iff {s t : T3} {p q : Pt} (hs : Stands s p) (ht : Stands t q) : (s.x * t.z = t.x * s.z ∧ s.y * t.z = t.y * s.z) ↔ p = q := by
 have hz := fp_mul_ne hs.z ht.z
 rw [hs.x, hs.y, ht.x, ht.y, same_gen, same_gen]
 constructor
 ·rintro ⟨h1, h2⟩
  exact Pt.ext (fp_cancel hz h1) (fp_cancel hz h2)
 ·rintro rfl; exact ⟨rfl, rfl⟩
end Go.Proofs.YthangiocheodoaaGreatDoor.N
