/-
  Layer 17, in plain words: numbers taken round as Fp; points with a third number: their sum, doubled, so many times.
-/
import Derived.Test.YtgofapndgjfnhaaDoorCurvePlain3
namespace Go.Proofs.YtgofapndgjfnhaaDoor.N
set_option linter.unusedVariables false
set_option maxRecDepth 8192

theorem fp_sub (a b : Fp) : (a - b).val = (a.val + (fP - b.val)) % fP := by
  rw [Fin.sub_def, Nat.add_comm]
theorem finv_val (a : Fp) : (finv a).val = a.val ^ (fP - 2) % fP := by
  show pwM fP 256 a.val (fP - 2) % fP = _
  rw [pwM_eq fP 256 a.val (fP - 2) (by decide), Nat.mod_mod]
theorem fp_pos {a : Fp} (h : a ≠ 0) : a.val ≠ 0 := fun e => h (Fin.ext e)
theorem cD_val : cD.val = dN := rfl
/-- A point with a third number. -/
structure T3 where
  x : Fp
  y : Fp
  z : Fp
/-- What plus, doubled make. -/
def plus3 (p q : T3) : T3 :=
  ⟨p.z * q.z * (p.x * q.y + p.y * q.x) * (p.z * q.z * (p.z * q.z) - cD * (p.x * q.x * (p.y * q.y))),
   p.z * q.z * (p.y * q.y + p.x * q.x) * (p.z * q.z * (p.z * q.z) + cD * (p.x * q.x * (p.y * q.y))),
   (p.z * q.z * (p.z * q.z) + cD * (p.x * q.x * (p.y * q.y))) * (p.z * q.z * (p.z * q.z) - cD * (p.x * q.x * (p.y * q.y)))⟩
def dbl3 (p : T3) : T3 :=
  ⟨(p.x * p.y + p.x * p.y) * (p.z * p.z + p.z * p.z - (p.y * p.y - p.x * p.x)), (p.y * p.y + p.x * p.x) * (p.y * p.y - p.x * p.x), (p.y * p.y - p.x * p.x) * (p.z * p.z + p.z * p.z - (p.y * p.y - p.x * p.x))⟩
def after3 (o : T3) (b : Bool) (p : T3) : T3 := if b then plus3 (dbl3 o) p else dbl3 o
def zero3 : T3 := ⟨0, 1, 1⟩
/-- What comes of the upper j bits of v's T ones. -/
def run3 (p : T3) (v T : Nat) : Nat → T3
  | 0 => zero3
  | j + 1 => after3 (run3 p v T j) (decide (v / 2 ^ (T - (j + 1)) % 2 = 1)) p
/-- (X, Y, Z) stands for (X / Z, Y / Z). -/
structure Stands (t : T3) (p : Pt) : Prop where
  z : t.z ≠ 0
  x : t.x = p.x * t.z
  y : t.y = p.y * t.z
theorem plus_gen (d x1 y1 z1 x2 y2 z2 rx ry : Fp) (hx : rx * (1 + d * x1 * x2 * y1 * y2) = x1 * y2 + y1 * x2) (hy : ry * (1 - d * x1 * x2 * y1 * y2) = y1 * y2 + x1 * x2) :
    (z1 * z2 * (z1 * z2) + d * ((x1 * z1) * (x2 * z2) * ((y1 * z1) * (y2 * z2))) = z1 * z2 * (z1 * z2) * (1 + d * x1 * x2 * y1 * y2)) ∧
    (z1 * z2 * (z1 * z2) - d * ((x1 * z1) * (x2 * z2) * ((y1 * z1) * (y2 * z2))) = z1 * z2 * (z1 * z2) * (1 - d * x1 * x2 * y1 * y2)) ∧
    z1 * z2 * ((x1 * z1) * (y2 * z2) + (y1 * z1) * (x2 * z2)) * (z1 * z2 * (z1 * z2) - d * ((x1 * z1) * (x2 * z2) * ((y1 * z1) * (y2 * z2)))) = rx * ((z1 * z2 * (z1 * z2) + d * ((x1 * z1) * (x2 * z2) * ((y1 * z1) * (y2 * z2)))) * (z1 * z2 * (z1 * z2) - d * ((x1 * z1) * (x2 * z2) * ((y1 * z1) * (y2 * z2))))) ∧
    z1 * z2 * ((y1 * z1) * (y2 * z2) + (x1 * z1) * (x2 * z2)) * (z1 * z2 * (z1 * z2) + d * ((x1 * z1) * (x2 * z2) * ((y1 * z1) * (y2 * z2)))) = ry * ((z1 * z2 * (z1 * z2) + d * ((x1 * z1) * (x2 * z2) * ((y1 * z1) * (y2 * z2)))) * (z1 * z2 * (z1 * z2) - d * ((x1 * z1) * (x2 * z2) * ((y1 * z1) * (y2 * z2))))) := by
  have e1 : z1 * z2 * (z1 * z2) + d * ((x1 * z1) * (x2 * z2) * ((y1 * z1) * (y2 * z2))) = z1 * z2 * (z1 * z2) * (1 + d * x1 * x2 * y1 * y2) := by grind
  have e2 : z1 * z2 * (z1 * z2) - d * ((x1 * z1) * (x2 * z2) * ((y1 * z1) * (y2 * z2))) = z1 * z2 * (z1 * z2) * (1 - d * x1 * x2 * y1 * y2) := by grind
  refine ⟨e1, e2, ?_, ?_⟩
  · rw [e1, e2]; grind
  · rw [e1, e2]; grind
theorem Stands.plus {s t : T3} {p q : Pt} (hs : Stands s p) (ht : Stands t q) (hp : OnC p) (hq : OnC q) : Stands (plus3 s t) (psum p q) := by
  have h := psum_is hp hq
  have g := plus_gen cD p.x p.y s.z q.x q.y t.z (psum p q).x (psum p q).y h.x h.y
  have n1 := plus_ne hp hq
  have n2 := minus_ne hp hq
  have hz := fp_mul_ne hs.z ht.z
  have e : plus3 s t = plus3 ⟨p.x * s.z, p.y * s.z, s.z⟩ ⟨q.x * t.z, q.y * t.z, t.z⟩ := by
    have h1 : s = ⟨p.x * s.z, p.y * s.z, s.z⟩ := by rw [← hs.x, ← hs.y]
    have h2 : t = ⟨q.x * t.z, q.y * t.z, t.z⟩ := by rw [← ht.x, ← ht.y]
    rw [← h1, ← h2]
  rw [e]
  refine ⟨?_, g.2.2.1, g.2.2.2⟩
  show (_ : Fp) * _ ≠ 0
  rw [g.1, g.2.1]
  exact fp_mul_ne (fp_mul_ne (fp_mul_ne hz hz) n1) (fp_mul_ne (fp_mul_ne hz hz) n2)
theorem dbl_gen (d x y z rx ry : Fp) (hc : y * y - x * x = 1 + d * x * x * y * y) (hx : rx * (1 + d * x * x * y * y) = x * y + y * x) (hy : ry * (1 - d * x * x * y * y) = y * y + x * x) :
    (y * z * (y * z) - x * z * (x * z) = z * z * (1 + d * x * x * y * y)) ∧ (z * z + z * z - (y * z * (y * z) - x * z * (x * z)) = z * z * (1 - d * x * x * y * y)) ∧
    (x * z * (y * z) + x * z * (y * z)) * (z * z + z * z - (y * z * (y * z) - x * z * (x * z))) = rx * ((y * z * (y * z) - x * z * (x * z)) * (z * z + z * z - (y * z * (y * z) - x * z * (x * z)))) ∧
    (y * z * (y * z) + x * z * (x * z)) * (y * z * (y * z) - x * z * (x * z)) = ry * ((y * z * (y * z) - x * z * (x * z)) * (z * z + z * z - (y * z * (y * z) - x * z * (x * z)))) := by
  have e1 : y * z * (y * z) - x * z * (x * z) = z * z * (1 + d * x * x * y * y) := by grind
  have e2 : z * z + z * z - z * z * (1 + d * x * x * y * y) = z * z * (1 - d * x * x * y * y) := by grind
  refine ⟨e1, by rw [e1, e2], ?_, ?_⟩
  · rw [e1, e2]; grind
  · rw [e1, e2]; grind
theorem Stands.dbl {s : T3} {p : Pt} (hs : Stands s p) (hp : OnC p) : Stands (dbl3 s) (psum p p) := by
  have h := psum_is hp hp
  have g := dbl_gen cD p.x p.y s.z (psum p p).x (psum p p).y hp h.x h.y
  have n1 := plus_ne hp hp
  have n2 := minus_ne hp hp
  have hz := fp_mul_ne hs.z hs.z
  have e : dbl3 s = dbl3 ⟨p.x * s.z, p.y * s.z, s.z⟩ := by
    have h1 : s = ⟨p.x * s.z, p.y * s.z, s.z⟩ := by rw [← hs.x, ← hs.y]
    rw [← h1]
  rw [e]
  refine ⟨?_, g.2.2.1, g.2.2.2⟩
  show (p.y * s.z * (p.y * s.z) - p.x * s.z * (p.x * s.z)) * (s.z * s.z + s.z * s.z - (p.y * s.z * (p.y * s.z) - p.x * s.z * (p.x * s.z))) ≠ 0
  rw [g.2.1, g.1]
  exact fp_mul_ne (fp_mul_ne hz n1) (fp_mul_ne hz n2)
theorem fp_mul_one (a : Fp) : a * 1 = a := by grind
theorem Stands.one (p : Pt) : Stands ⟨p.x, p.y, 1⟩ p := ⟨one_ne, (fp_mul_one _).symm, (fp_mul_one _).symm⟩
theorem Stands.zero : Stands zero3 pzero := Stands.one pzero
/-- So many times, by bits. -/
theorem Stands.run {s : T3} {p : Pt} (hs : Stands s p) (hp : OnC p) (v T : Nat) (hv : v < 2 ^ T) : ∀ j, j ≤ T → Stands (run3 s v T j) (ptimes (v / 2 ^ (T - j)) p)
  | 0, _ => by
    rw [Nat.sub_zero, Nat.div_eq_of_lt hv]
    exact Stands.zero
  | j + 1, hj => by
    have ih := Stands.run hs hp v T hv j (by omega)
    have hn : v / 2 ^ (T - (j + 1)) = 2 * (v / 2 ^ (T - j)) + v / 2 ^ (T - (j + 1)) % 2 := by
      have : T - j = T - (j + 1) + 1 := by omega
      rw [this, Nat.pow_succ, ← Nat.div_div_eq_div_mul]
      omega
    have h2 := ih.dbl (ptimes_on hp _)
    rw [← ptimes_add hp] at h2
    show Stands (after3 (run3 s v T j) (decide (v / 2 ^ (T - (j + 1)) % 2 = 1)) s) _
    generalize v / 2 ^ (T - j) = m at *
    rcases Nat.mod_two_eq_zero_or_one (v / 2 ^ (T - (j + 1))) with h | h
    · rw [h] at hn
      rw [h, hn, Nat.add_zero, Nat.two_mul]
      exact h2
    · rw [h] at hn
      rw [h, hn, Nat.two_mul]
      exact h2.plus hs (ptimes_on hp _) hp
theorem Stands.all {s : T3} {p : Pt} (hs : Stands s p) (hp : OnC p) (v T : Nat) (hv : v < 2 ^ T) : Stands (run3 s v T T) (ptimes v p) := by
  have := hs.run hp v T hv T (Nat.le_refl _)
  rwa [Nat.sub_self, Nat.pow_zero, Nat.div_one] at this
/-- Divided in the end. -/
theorem div_gen (x z i : Fp) (h : z * i = 1) : x * z * (1 * i) = x := by grind
theorem Stands.div {s : T3} {p : Pt} (hs : Stands s p) : s.x * (1 * finv s.z) = p.x ∧ s.y * (1 * finv s.z) = p.y := by
  have h := finv_mul hs.z
  exact ⟨by rw [hs.x]; exact div_gen _ _ _ h, by rw [hs.y]; exact div_gen _ _ _ h⟩
end Go.Proofs.YtgofapndgjfnhaaDoor.N
