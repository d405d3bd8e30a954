/-
  Layer 13, in plain words: words of 32 bits as numbers; the rounds of a block; padding; what the digest is.
-/
namespace Go.Proofs.Ythcnnglpncblaaa
set_option linter.unusedVariables false
set_option maxRecDepth 8192

/-- x with its bits n places lower, those that fall out at the top. -/
def rr (x n : Nat) : Nat := x / 2 ^ n + x % 2 ^ n * 2 ^ (32 - n)
def sg0 (x : Nat) : Nat := rr x 7 ^^^ rr x 18 ^^^ x / 8
def sg1 (x : Nat) : Nat := rr x 17 ^^^ rr x 19 ^^^ x / 1024
def bg0 (x : Nat) : Nat := rr x 2 ^^^ rr x 13 ^^^ rr x 22
def bg1 (x : Nat) : Nat := rr x 6 ^^^ rr x 11 ^^^ rr x 25
def chs (e f g : Nat) : Nat := (e &&& f) ^^^ ((4294967295 - e) &&& g)
def mjr (a b c : Nat) : Nat := (a &&& b) ^^^ (a &&& c) ^^^ (b &&& c)

theorem rr_lt (x n : Nat) (hx : x < 4294967296) (hn : n ≤ 32) : rr x n < 4294967296 := by
  unfold rr
  have hp : 0 < 2 ^ n := Nat.two_pow_pos n
  have e : 2 ^ n * 2 ^ (32 - n) = 4294967296 := by rw [← Nat.pow_add, show n + (32 - n) = 32 from by omega]
  have h1 : x / 2 ^ n < 2 ^ (32 - n) := (Nat.div_lt_iff_lt_mul hp).2 (by rw [Nat.mul_comm, e]; exact hx)
  have h2 : x % 2 ^ n + 1 ≤ 2 ^ n := Nat.mod_lt _ hp
  have h3 := Nat.mul_le_mul_right (2 ^ (32 - n)) h2
  rw [e, Nat.add_mul] at h3
  omega
/-- As RotateLeft32 makes it. -/
theorem rr_or (x n : Nat) (hx : x < 4294967296) (hn : n ≤ 32) : (x * 2 ^ (32 - n) % 4294967296) ||| (x / 2 ^ n) = rr x n := by
  have hp : 0 < 2 ^ n := Nat.two_pow_pos n
  have e : 2 ^ n * 2 ^ (32 - n) = 4294967296 := by rw [← Nat.pow_add, show n + (32 - n) = 32 from by omega]
  have h1 : x / 2 ^ n < 2 ^ (32 - n) := (Nat.div_lt_iff_lt_mul hp).2 (by rw [Nat.mul_comm, e]; exact hx)
  have h2 : x * 2 ^ (32 - n) % 4294967296 = 2 ^ (32 - n) * (x % 2 ^ n) := by
    rw [← e, Nat.mul_mod_mul_right, Nat.mul_comm]
  rw [h2, ← Nat.two_pow_add_eq_or_of_lt h1]
  unfold rr
  rw [Nat.mul_comm (x % 2 ^ n), Nat.add_comm]

theorem xlt {a b : Nat} (ha : a < 4294967296) (hb : b < 4294967296) : a ^^^ b < 4294967296 := Nat.xor_lt_two_pow (n := 32) ha hb
theorem alt {a b : Nat} (hb : b < 4294967296) : a &&& b < 4294967296 := Nat.and_lt_two_pow (n := 32) _ hb
theorem dlt {a b : Nat} (ha : a < 4294967296) : a / b < 4294967296 := Nat.lt_of_le_of_lt (Nat.div_le_self a b) ha
theorem mlt (a : Nat) : a % 4294967296 < 4294967296 := Nat.mod_lt _ (by decide)
theorem sg0_lt {x : Nat} (h : x < 4294967296) : sg0 x < 4294967296 := xlt (xlt (rr_lt _ _ h (by decide)) (rr_lt _ _ h (by decide))) (dlt h)
theorem sg1_lt {x : Nat} (h : x < 4294967296) : sg1 x < 4294967296 := xlt (xlt (rr_lt _ _ h (by decide)) (rr_lt _ _ h (by decide))) (dlt h)
theorem bg0_lt {x : Nat} (h : x < 4294967296) : bg0 x < 4294967296 := xlt (xlt (rr_lt _ _ h (by decide)) (rr_lt _ _ h (by decide))) (rr_lt _ _ h (by decide))
theorem bg1_lt {x : Nat} (h : x < 4294967296) : bg1 x < 4294967296 := xlt (xlt (rr_lt _ _ h (by decide)) (rr_lt _ _ h (by decide))) (rr_lt _ _ h (by decide))
theorem chs_lt {e f g : Nat} (hf : f < 4294967296) (hg : g < 4294967296) : chs e f g < 4294967296 := xlt (alt hf) (alt hg)
theorem mjr_lt {a b c : Nat} (hb : b < 4294967296) (hc : c < 4294967296) : mjr a b c < 4294967296 := xlt (xlt (alt hb) (alt hc)) (alt hc)

/-- The words a to h. -/
structure S8 where
  a : Nat
  b : Nat
  c : Nat
  d : Nat
  e : Nat
  f : Nat
  g : Nat
  h : Nat
def S8.t1 (s : S8) (k w : Nat) : Nat := s.h + bg1 s.e + chs s.e s.f s.g + k + w
def S8.t2 (s : S8) : Nat := bg0 s.a + mjr s.a s.b s.c
def S8.rnd (s : S8) (k w : Nat) : S8 := ⟨(s.t1 k w + s.t2) % 4294967296, s.a, s.b, s.c, (s.d + s.t1 k w) % 4294967296, s.e, s.f, s.g⟩
def rndTo (s : S8) (K w : List Nat) : Nat → S8
  | 0 => s
  | k + 1 => (rndTo s K w k).rnd (K[k]?.getD 0) (w[k]?.getD 0)
def S8.plus (s r : S8) : S8 := ⟨(s.a + r.a) % 4294967296, (s.b + r.b) % 4294967296, (s.c + r.c) % 4294967296, (s.d + r.d) % 4294967296, (s.e + r.e) % 4294967296, (s.f + r.f) % 4294967296, (s.g + r.g) % 4294967296, (s.h + r.h) % 4294967296⟩
structure S8.Ok (s : S8) : Prop where
  a : s.a < 4294967296
  b : s.b < 4294967296
  c : s.c < 4294967296
  d : s.d < 4294967296
  e : s.e < 4294967296
  f : s.f < 4294967296
  g : s.g < 4294967296
  h : s.h < 4294967296
def S8.list (s : S8) : List Nat := [s.a, s.b, s.c, s.d, s.e, s.f, s.g, s.h]

theorem S8.Ok.rnd {s : S8} (h : s.Ok) (k w : Nat) : (s.rnd k w).Ok := ⟨mlt _, h.a, h.b, h.c, mlt _, h.e, h.f, h.g⟩
theorem S8.Ok.to {s : S8} (h : s.Ok) (K w : List Nat) (k : Nat) : (rndTo s K w k).Ok := by
  induction k with
  | zero => exact h
  | succ k ih => exact ih.rnd _ _
theorem S8.plus_ok (s r : S8) : (s.plus r).Ok := ⟨mlt _, mlt _, mlt _, mlt _, mlt _, mlt _, mlt _, mlt _⟩

/-- The i-th word of a block, four bytes, the highest first. -/
def word4 (z : List Nat) (i : Nat) : Nat := ((z[4 * i]?.getD 0 * 256 + z[4 * i + 1]?.getD 0) * 256 + z[4 * i + 2]?.getD 0) * 256 + z[4 * i + 3]?.getD 0
def nextW (l : List Nat) : Nat := (l[l.length - 16]?.getD 0 + sg0 (l[l.length - 15]?.getD 0) + l[l.length - 7]?.getD 0 + sg1 (l[l.length - 2]?.getD 0)) % 4294967296
def moreW (l : List Nat) : Nat → List Nat
  | 0 => l
  | k + 1 => moreW l k ++ [nextW (moreW l k)]
def words16 (z : List Nat) : List Nat := (List.range 16).map (word4 z)
def spreadL (z : List Nat) : List Nat := moreW (words16 z) 48
theorem moreW_length (l : List Nat) (k : Nat) : (moreW l k).length = l.length + k := by
  induction k with
  | zero => rfl
  | succ k ih => simp [moreW, ih]; omega
theorem moreW_lt (l : List Nat) (h : ∀ x ∈ l, x < 4294967296) (k : Nat) : ∀ x ∈ moreW l k, x < 4294967296 := by
  induction k with
  | zero => exact h
  | succ k ih =>
    intro x hx
    simp only [moreW, List.mem_append, List.mem_singleton] at hx
    rcases hx with hx | rfl
    · exact ih x hx
    · exact mlt _
theorem getD_lt {l : List Nat} {B : Nat} (hB : 0 < B) (h : ∀ x ∈ l, x < B) (i : Nat) : l[i]?.getD 0 < B := by
  rcases Nat.lt_or_ge i l.length with hi | hi
  · rw [List.getElem?_eq_getElem hi]; exact h _ (List.getElem_mem hi)
  · rw [List.getElem?_eq_none hi]; exact hB
theorem word4_lt (z : List Nat) (h : ∀ x ∈ z, x < 256) (i : Nat) : word4 z i < 4294967296 := by
  unfold word4
  have h0 := getD_lt (by decide) h (4 * i)
  have h1 := getD_lt (by decide) h (4 * i + 1)
  have h2 := getD_lt (by decide) h (4 * i + 2)
  have h3 := getD_lt (by decide) h (4 * i + 3)
  omega
theorem words16_lt (z : List Nat) (h : ∀ x ∈ z, x < 256) : ∀ x ∈ words16 z, x < 4294967296 := by
  intro x hx
  simp only [words16, List.mem_map] at hx
  obtain ⟨i, _, rfl⟩ := hx
  exact word4_lt z h i
theorem words16_length (z : List Nat) : (words16 z).length = 16 := by simp [words16]
theorem spreadL_length (z : List Nat) : (spreadL z).length = 64 := by rw [spreadL, moreW_length, words16_length]
theorem spreadL_lt (z : List Nat) (h : ∀ x ∈ z, x < 256) : ∀ x ∈ spreadL z, x < 4294967296 := moreW_lt _ (words16_lt z h) _

/-- What a block makes of a state. -/
def mixL (K : List Nat) (s : S8) (z : List Nat) : S8 := s.plus (rndTo s K (spreadL z) 64)

/-- Whole blocks of 64 bytes, one behind the other. -/
def blocksTo (K : List Nat) (s : S8) (z : List Nat) : Nat → S8
  | 0 => s
  | k + 1 => mixL K (blocksTo K s z k) ((z.drop (64 * k)).take 64)
theorem blocksTo_ok {K : List Nat} {s : S8} (h : s.Ok) (z : List Nat) (k : Nat) : (blocksTo K s z k).Ok := by
  cases k with
  | zero => exact h
  | succ k => exact S8.plus_ok _ _

/-- n in 8 bytes, the highest first. -/
def be8 (n : Nat) : List Nat := [n / 72057594037927936 % 256, n / 281474976710656 % 256, n / 1099511627776 % 256, n / 4294967296 % 256, n / 16777216 % 256, n / 65536 % 256, n / 256 % 256, n % 256]
def be4 (n : Nat) : List Nat := [n / 16777216 % 256, n / 65536 % 256, n / 256 % 256, n % 256]
/-- How many noughts the padding of n bytes has. -/
def noughts (n : Nat) : Nat := (119 - n % 64) % 64
def padL (n : Nat) : List Nat := 128 :: (List.replicate (noughts n) 0 ++ be8 (8 * n))
def S8.bytes (s : S8) : List Nat := be4 s.a ++ be4 s.b ++ be4 s.c ++ be4 s.d ++ be4 s.e ++ be4 s.f ++ be4 s.g ++ be4 s.h
theorem padL_length (n : Nat) : (padL n).length = noughts n + 9 := by simp [padL, be8]
theorem pad_whole (n : Nat) : (n + (noughts n + 9)) % 64 = 0 := by unfold noughts; omega
theorem noughts_lt (n : Nat) : noughts n < 64 := by unfold noughts; omega
theorem be8_lt (n : Nat) : ∀ x ∈ be8 n, x < 256 := by
  intro x hx
  simp only [be8, List.mem_cons, List.not_mem_nil, or_false] at hx
  rcases hx with h | h | h | h | h | h | h | h <;> omega
theorem padL_lt (n : Nat) : ∀ x ∈ padL n, x < 256 := by
  intro x hx
  simp only [padL, List.mem_cons, List.mem_append, List.mem_replicate] at hx
  rcases hx with h | ⟨_, h⟩ | h
  · omega
  · omega
  · exact be8_lt _ x h
/-- The digest. -/
def sumL (K : List Nat) (s0 : S8) (z : List Nat) : List Nat := (blocksTo K s0 (z ++ padL z.length) ((z.length + (noughts z.length + 9)) / 64)).bytes
theorem be4_lt (n : Nat) : ∀ x ∈ be4 n, x < 256 := by
  intro x hx
  simp only [be4, List.mem_cons, List.not_mem_nil, or_false] at hx
  rcases hx with h | h | h | h <;> omega

/-- Blocks hang on their own bytes alone. -/
theorem blocksTo_same (K : List Nat) (s : S8) (z y : List Nat) (k : Nat) (h : z.take (64 * k) = y.take (64 * k)) : blocksTo K s z k = blocksTo K s y k := by
  induction k with
  | zero => rfl
  | succ k ih =>
    have h1 : z.take (64 * k) = y.take (64 * k) := by
      have := congrArg (List.take (64 * k)) h
      simpa [List.take_take, Nat.min_eq_left (show 64 * k ≤ 64 * (k + 1) from by omega)] using this
    have h2 : (z.drop (64 * k)).take 64 = (y.drop (64 * k)).take 64 := by
      have := congrArg (List.drop (64 * k)) h
      simpa [List.drop_take, show 64 * (k + 1) - 64 * k = 64 from by omega] using this
    simp only [blocksTo, ih h1, h2]
theorem blocksTo_add (K : List Nat) (s : S8) (z : List Nat) (j k : Nat) : blocksTo K s z (j + k) = blocksTo K (blocksTo K s z j) (z.drop (64 * j)) k := by
  induction k with
  | zero => rfl
  | succ k ih =>
    rw [← Nat.add_assoc, blocksTo, blocksTo, ih, List.drop_drop, show 64 * j + 64 * k = 64 * (j + k) from by omega]

/-- The lowest n bits of a xor, of an and: what the document's loops make. -/
theorem mod_succ (x i : Nat) : x % 2 ^ (i + 1) = x % 2 ^ i + x / 2 ^ i % 2 * 2 ^ i := by
  rw [Nat.pow_succ, Nat.mod_mul, Nat.mul_comm (2 ^ i)]
theorem bit_xor (a b i : Nat) : (a ^^^ b) / 2 ^ i % 2 = if a / 2 ^ i % 2 = b / 2 ^ i % 2 then 0 else 1 := by
  have h := Nat.testBit_xor a b i
  simp only [Nat.testBit_eq_decide_div_mod_eq] at h
  have e1 : (a ^^^ b) / 2 ^ i % 2 = 0 ∨ (a ^^^ b) / 2 ^ i % 2 = 1 := by omega
  have e2 : a / 2 ^ i % 2 = 0 ∨ a / 2 ^ i % 2 = 1 := by omega
  have e3 : b / 2 ^ i % 2 = 0 ∨ b / 2 ^ i % 2 = 1 := by omega
  rcases e1 with e1 | e1 <;> rcases e2 with e2 | e2 <;> rcases e3 with e3 | e3 <;> rw [e1, e2, e3] at h <;> simp at h <;> rw [e1, e2, e3] <;> rfl
theorem bit_and (a b i : Nat) : (a &&& b) / 2 ^ i % 2 = a / 2 ^ i % 2 * (b / 2 ^ i % 2) := by
  have h := Nat.testBit_and a b i
  simp only [Nat.testBit_eq_decide_div_mod_eq] at h
  have e1 : (a &&& b) / 2 ^ i % 2 = 0 ∨ (a &&& b) / 2 ^ i % 2 = 1 := by omega
  have e2 : a / 2 ^ i % 2 = 0 ∨ a / 2 ^ i % 2 = 1 := by omega
  have e3 : b / 2 ^ i % 2 = 0 ∨ b / 2 ^ i % 2 = 1 := by omega
  rcases e1 with e1 | e1 <;> rcases e2 with e2 | e2 <;> rcases e3 with e3 | e3 <;> rw [e1, e2, e3] at h <;> simp at h <;> rw [e1, e2, e3]
theorem xorW_step (a b i : Nat) : (a ^^^ b) % 2 ^ (i + 1) = (a ^^^ b) % 2 ^ i + (if a / 2 ^ i % 2 = b / 2 ^ i % 2 then 0 else 2 ^ i) := by
  rw [mod_succ, bit_xor]; split <;> simp
theorem andW_step (a b i : Nat) : (a &&& b) % 2 ^ (i + 1) = (a &&& b) % 2 ^ i + a / 2 ^ i % 2 * (b / 2 ^ i % 2) * 2 ^ i := by rw [mod_succ, bit_and]
theorem div_step2 (a i : Nat) : a / 2 ^ i / 2 = a / 2 ^ (i + 1) := by rw [Nat.div_div_eq_div_mul, Nat.pow_succ]

/-- The program's sums, one after the other, without what goes beyond. -/
theorem t1_wraps (h b c k w : Nat) : ((((h + b) % 4294967296 + c) % 4294967296 + k) % 4294967296 + w) % 4294967296 = (h + b + c + k + w) % 4294967296 := by omega
theorem S8.step_a (s : S8) (k w : Nat) : (s.t1 k w % 4294967296 + s.t2 % 4294967296) % 4294967296 = (s.t1 k w + s.t2) % 4294967296 := by omega
theorem S8.step_e (s : S8) (k w : Nat) : (s.d + s.t1 k w % 4294967296) % 4294967296 = (s.d + s.t1 k w) % 4294967296 := by omega
end Go.Proofs.Ythcnnglpncblaaa
