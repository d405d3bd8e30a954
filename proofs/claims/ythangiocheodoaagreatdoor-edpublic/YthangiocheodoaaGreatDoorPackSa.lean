/-
 Layer 13, in plain words: words of 32 bits as numbers; the rounds of a block; padding; what the digest is.
-/
import Derived.Test.YthangiocheodoaaGreatDoorPackA
import Derived.Shelf.Bits.Mul64
import Derived.Laws.BitsAllLaws
import Derived.Deep.MidRow
import Derived.Deep.WholeRow
namespace Go.Proofs.YthangiocheodoaaGreatDoor
set_option linter.unusedVariables false
set_option maxRecDepth 8192

/-- x with its bits n places lower, those that fall out at the top. -/
def rr (x n : Nat) : Nat := x / 2 ^ n + x % 2 ^ n * 2 ^ (32 - n)
def sg0 (x : Nat) : Nat := rr x 7 ^^^ rr x 18 ^^^ x / 8
def sg1 (x : Nat) : Nat := rr x 17 ^^^ rr x 19 ^^^ x / 1024
def bg0 (x : Nat) : Nat := rr x 2 ^^^ rr x 13 ^^^ rr x 22
def bg1 (x : Nat) : Nat := rr x 6 ^^^ rr x 11 ^^^ rr x 25
def chs (e f g : Nat) : Nat := (e &&& f) ^^^ ((4294967295 - e) &&& g)
def mjr (a b c : Nat) : Nat := (a &&& b) ^^^ (a &&& c) ^^^ (b &&& c)

theorem rr_lt (x n : Nat) (hx : x < 4294967296) (hn : n ≤ 32) : rr x n < 4294967296 := by
 unfold rr
 have hp : 0 < 2 ^ n := Nat.two_pow_pos n
 have e : 2 ^ n * 2 ^ (32 - n) = 4294967296 := by rw [← Nat.pow_add, show n + (32 - n) = 32 from by omega]
 have h1 : x / 2 ^ n < 2 ^ (32 - n) := (Nat.div_lt_iff_lt_mul hp).2 (by rw [Nat.mul_comm, e]; exact hx)
 have h2 : x % 2 ^ n + 1 ≤ 2 ^ n := Nat.mod_lt _ hp
 have h3 := Nat.mul_le_mul_right (2 ^ (32 - n)) h2
 rw [e, Nat.add_mul] at h3
 omega
/-- As RotateLeft32 makes it. -/
theorem rr_or (x n : Nat) (hx : x < 4294967296) (hn : n ≤ 32) : (x * 2 ^ (32 - n) % 4294967296) ||| (x / 2 ^ n) = rr x n := by
 have hp : 0 < 2 ^ n := Nat.two_pow_pos n
 have e : 2 ^ n * 2 ^ (32 - n) = 4294967296 := by rw [← Nat.pow_add, show n + (32 - n) = 32 from by omega]
 have h1 : x / 2 ^ n < 2 ^ (32 - n) := (Nat.div_lt_iff_lt_mul hp).2 (by rw [Nat.mul_comm, e]; exact hx)
 have h2 : x * 2 ^ (32 - n) % 4294967296 = 2 ^ (32 - n) * (x % 2 ^ n) := by
  rw [← e, Nat.mul_mod_mul_right, Nat.mul_comm]
 rw [h2, ← Nat.two_pow_add_eq_or_of_lt h1]
 unfold rr
 rw [Nat.mul_comm (x % 2 ^ n), Nat.add_comm]

theorem xlt {a b : Nat} (ha : a < 4294967296) (hb : b < 4294967296) : a ^^^ b < 4294967296 := Nat.xor_lt_two_pow (n := 32) ha hb
theorem alt {a b : Nat} (hb : b < 4294967296) : a &&& b < 4294967296 := Nat.and_lt_two_pow (n := 32) _ hb
theorem dlt {a b : Nat} (ha : a < 4294967296) : a / b < 4294967296 := Nat.lt_of_le_of_lt (Nat.div_le_self a b) ha
theorem mlt (a : Nat) : a % 4294967296 < 4294967296 := Nat.mod_lt _ (by decide)
/-- The words a to h. -/
structure S8 where
 a : Nat
 b : Nat
 c : Nat
 d : Nat
 e : Nat
 f : Nat
 g : Nat
 h : Nat
def S8.t1 (s : S8) (k w : Nat) : Nat := s.h + bg1 s.e + chs s.e s.f s.g + k + w
def S8.t2 (s : S8) : Nat := bg0 s.a + mjr s.a s.b s.c
def S8.rnd (s : S8) (k w : Nat) : S8 := ⟨(s.t1 k w + s.t2) % 4294967296, s.a, s.b, s.c, (s.d + s.t1 k w) % 4294967296, s.e, s.f, s.g⟩
def rndTo (s : S8) (K w : List Nat) : Nat → S8
 | 0 => s
 | k + 1 => (rndTo s K w k).rnd (K[k]?.getD 0) (w[k]?.getD 0)
def S8.plus (s r : S8) : S8 := ⟨(s.a + r.a) % 4294967296, (s.b + r.b) % 4294967296, (s.c + r.c) % 4294967296, (s.d + r.d) % 4294967296, (s.e + r.e) % 4294967296, (s.f + r.f) % 4294967296, (s.g + r.g) % 4294967296, (s.h + r.h) % 4294967296⟩
structure S8.Ok (s : S8) : Prop where
 a : s.a < 4294967296
 b : s.b < 4294967296
 c : s.c < 4294967296
 d : s.d < 4294967296
 e : s.e < 4294967296
 f : s.f < 4294967296
 g : s.g < 4294967296
 h : s.h < 4294967296
def S8.list (s : S8) : List Nat := [s.a, s.b, s.c, s.d, s.e, s.f, s.g, s.h]

theorem S8.Ok.rnd {s : S8} (h : s.Ok) (k w : Nat) : (s.rnd k w).Ok := ⟨mlt _, h.a, h.b, h.c, mlt _, h.e, h.f, h.g⟩
theorem S8.Ok.to {s : S8} (h : s.Ok) (K w : List Nat) (k : Nat) : (rndTo s K w k).Ok := by
 induction k with
 | zero => exact h
 | succ k ih => exact ih.rnd _ _
theorem S8.plus_ok (s r : S8) : (s.plus r).Ok := ⟨mlt _, mlt _, mlt _, mlt _, mlt _, mlt _, mlt _, mlt _⟩

/-- The i-th word of a block, four bytes, the highest first. -/
def word4 (z : List Nat) (i : Nat) : Nat := ((z[4 * i]?.getD 0 * 256 + z[4 * i + 1]?.getD 0) * 256 + z[4 * i + 2]?.getD 0) * 256 + z[4 * i + 3]?.getD 0
def nextW (l : List Nat) : Nat := (l[l.length - 16]?.getD 0 + sg0 (l[l.length - 15]?.getD 0) + l[l.length - 7]?.getD 0 + sg1 (l[l.length - 2]?.getD 0)) % 4294967296
def moreW (l : List Nat) : Nat → List Nat
 | 0 => l
 | k + 1 => moreW l k ++ [nextW (moreW l k)]
def words16 (z : List Nat) : List Nat := (List.range 16).map (word4 z)
def spreadL (z : List Nat) : List Nat := moreW (words16 z) 48
theorem moreW_length (l : List Nat) (k : Nat) : (moreW l k).length = l.length + k := by
 induction k with
 | zero => rfl
 | succ k ih => simp [moreW, ih]; omega
theorem moreW_lt (l : List Nat) (h : ∀ x ∈ l, x < 4294967296) (k : Nat) : ∀ x ∈ moreW l k, x < 4294967296 := by
 induction k with
 | zero => exact h
 | succ k ih =>
  intro x hx
  simp only [moreW, List.mem_append, List.mem_singleton] at hx
  rcases hx with hx | rfl
  ·exact ih x hx
  ·exact mlt _
theorem getD_lt {l : List Nat} {B : Nat} (hB : 0 < B) (h : ∀ x ∈ l, x < B) (i : Nat) : l[i]?.getD 0 < B := by
 rcases Nat.lt_or_ge i l.length with hi | hi
 ·rw [List.getElem?_eq_getElem hi]; exact h _ (List.getElem_mem hi)
 ·rw [List.getElem?_eq_none hi]; exact hB
theorem word4_lt (z : List Nat) (h : ∀ x ∈ z, x < 256) (i : Nat) : word4 z i < 4294967296 := by
 unfold word4
 have h0 := getD_lt (by decide) h (4 * i)
 have h1 := getD_lt (by decide) h (4 * i + 1)
 have h2 := getD_lt (by decide) h (4 * i + 2)
 have h3 := getD_lt (by decide) h (4 * i + 3)
 omega
theorem words16_lt (z : List Nat) (h : ∀ x ∈ z, x < 256) : ∀ x ∈ words16 z, x < 4294967296 := by
 intro x hx
 simp only [words16, List.mem_map] at hx
 obtain ⟨i, _, rfl⟩ := hx
 exact word4_lt z h i
theorem words16_length (z : List Nat) : (words16 z).length = 16 := by simp [words16]
theorem spreadL_length (z : List Nat) : (spreadL z).length = 64 := by rw [spreadL, moreW_length, words16_length]
theorem spreadL_lt (z : List Nat) (h : ∀ x ∈ z, x < 256) : ∀ x ∈ spreadL z, x < 4294967296 := moreW_lt _ (words16_lt z h) _

/-- What a block makes of a state. -/
def mixL (K : List Nat) (s : S8) (z : List Nat) : S8 := s.plus (rndTo s K (spreadL z) 64)

/-- Whole blocks of 64 bytes, one behind the other. -/
def blocksTo (K : List Nat) (s : S8) (z : List Nat) : Nat → S8
 | 0 => s
 | k + 1 => mixL K (blocksTo K s z k) ((z.drop (64 * k)).take 64)
theorem blocksTo_ok {K : List Nat} {s : S8} (h : s.Ok) (z : List Nat) (k : Nat) : (blocksTo K s z k).Ok := by
 cases k with
 | zero => exact h
 | succ k => exact S8.plus_ok _ _

/-- n in 8 bytes, the highest first. -/
def be8 (n : Nat) : List Nat := [n / 72057594037927936 % 256, n / 281474976710656 % 256, n / 1099511627776 % 256, n / 4294967296 % 256, n / 16777216 % 256, n / 65536 % 256, n / 256 % 256, n % 256]
def be4 (n : Nat) : List Nat := [n / 16777216 % 256, n / 65536 % 256, n / 256 % 256, n % 256]
/-- How many noughts the padding of n bytes has. -/
def noughts (n : Nat) : Nat := (119 - n % 64) % 64
def padL (n : Nat) : List Nat := 128 :: (List.replicate (noughts n) 0 ++ be8 (8 * n))
def S8.bytes (s : S8) : List Nat := be4 s.a ++ be4 s.b ++ be4 s.c ++ be4 s.d ++ be4 s.e ++ be4 s.f ++ be4 s.g ++ be4 s.h
theorem padL_length (n : Nat) : (padL n).length = noughts n + 9 := by simp [padL, be8]
theorem pad_whole (n : Nat) : (n + (noughts n + 9)) % 64 = 0 := by unfold noughts; omega
theorem noughts_lt (n : Nat) : noughts n < 64 := by unfold noughts; omega
theorem be8_lt (n : Nat) : ∀ x ∈ be8 n, x < 256 := by
 intro x hx
 simp only [be8, List.mem_cons, List.not_mem_nil, or_false] at hx
 rcases hx with h | h | h | h | h | h | h | h <;> omega
theorem padL_lt (n : Nat) : ∀ x ∈ padL n, x < 256 := by
 intro x hx
 simp only [padL, List.mem_cons, List.mem_append, List.mem_replicate] at hx
 rcases hx with h | ⟨_, h⟩ | h
 ·omega
 ·omega
 ·exact be8_lt _ x h
/-- The digest. -/
def sumL (K : List Nat) (s0 : S8) (z : List Nat) : List Nat := (blocksTo K s0 (z ++ padL z.length) ((z.length + (noughts z.length + 9)) / 64)).bytes
/-- Blocks hang on their own bytes alone. -/
theorem blocksTo_same (K : List Nat) (s : S8) (z y : List Nat) (k : Nat) (h : z.take (64 * k) = y.take (64 * k)) : blocksTo K s z k = blocksTo K s y k := by
 induction k with
 | zero => rfl
 | succ k ih =>
  have h1 : z.take (64 * k) = y.take (64 * k) := by
   have := congrArg (List.take (64 * k)) h
   simpa [List.take_take, Nat.min_eq_left (show 64 * k ≤ 64 * (k + 1) from by omega)] using this
  have h2 : (z.drop (64 * k)).take 64 = (y.drop (64 * k)).take 64 := by
   have := congrArg (List.drop (64 * k)) h
   simpa [List.drop_take, show 64 * (k + 1) - 64 * k = 64 from by omega] using this
  simp only [blocksTo, ih h1, h2]
theorem div_step2 (a i : Nat) : a / 2 ^ i / 2 = a / 2 ^ (i + 1) := by rw [Nat.div_div_eq_div_mul, Nat.pow_succ]

end Go.Proofs.YthangiocheodoaaGreatDoor

/-
 Layer 13, in plain words: primes, and the first bits behind the point of their roots: the numbers, held against the loops of the code and of the document.
-/
namespace Go.Proofs.YthangiocheodoaaGreatDoor
set_option linter.unusedVariables false
set_option maxRecDepth 8192

/-- The first hundred primes. -/
def prL : List Nat := [2, 3, 5, 7, 11, 13, 17, 19, 23, 29, 31, 37, 41, 43, 47, 53, 59, 61, 67, 71, 73, 79, 83, 89, 97, 101, 103, 107, 109, 113, 127, 131, 137, 139, 149, 151, 157, 163, 167, 173, 179, 181, 191, 193, 197, 199, 211, 223, 227, 229, 233, 239, 241, 251, 257, 263, 269, 271, 277, 281, 283, 293, 307, 311, 313, 317, 331, 337, 347, 349, 353, 359, 367, 373, 379, 383, 389, 397, 401, 409, 419, 421, 431, 433, 439, 443, 449, 457, 461, 463, 467, 479, 487, 491, 499, 503, 509, 521, 523, 541]
/-- The first 32 bits behind the point of the cube roots of the first 64. -/
def KL : List Nat := [1116352408, 1899447441, 3049323471, 3921009573, 961987163, 1508970993, 2453635748, 2870763221, 3624381080, 310598401, 607225278, 1426881987, 1925078388, 2162078206, 2614888103, 3248222580, 3835390401, 4022224774, 264347078, 604807628, 770255983, 1249150122, 1555081692, 1996064986, 2554220882, 2821834349, 2952996808, 3210313671, 3336571891, 3584528711, 113926993, 338241895, 666307205, 773529912, 1294757372, 1396182291, 1695183700, 1986661051, 2177026350, 2456956037, 2730485921, 2820302411, 3259730800, 3345764771, 3516065817, 3600352804, 4094571909, 275423344, 430227734, 506948616, 659060556, 883997877, 958139571, 1322822218, 1537002063, 1747873779, 1955562222, 2024104815, 2227730452, 2361852424, 2428436474, 2756734187, 3204031479, 3329325298]
/-- Of the square roots of the first 8. -/
def SL : List Nat := [1779033703, 3144134277, 1013904242, 2773480762, 1359893119, 2600822924, 528734635, 1541459225]
def S0 : S8 := ⟨1779033703, 3144134277, 1013904242, 2773480762, 1359893119, 2600822924, 528734635, 1541459225⟩

/-- Those below p. -/
def prTo (p : Nat) : List Nat := prL.filter (fun q => Nat.blt q p)
/-- As the code asks. -/
def apartP (p : Nat) : List Nat → Bool
 | [] => true
 | q :: l => bif Nat.blt p (q * q) then true else bif Nat.beq (p % q) 0 then false else apartP p l
/-- As the document asks. -/
def apartR (p : Nat) (l : List Nat) : Bool := l.all (fun q => !(Nat.beq (p % q) 0))
def chk13 (p : Nat) : Bool :=
 (prTo (p + 1) == (bif prL.contains p then prTo p ++ [p] else prTo p)) && (apartP p (prTo p) == prL.contains p) && (apartR p (prTo p) == prL.contains p) && (prTo p == prL.take (prTo p).length)
theorem chk13_all : ((List.range 541).all (fun i => chk13 (i + 2))) = true := by decide +kernel
theorem chk13_at (p : Nat) (h2 : 2 ≤ p) (hp : p ≤ 542) : chk13 p = true := by
 have h := List.all_eq_true.1 chk13_all (p - 2) (List.mem_range.2 (by omega))
 rwa [show p - 2 + 2 = p from by omega] at h
theorem prTo_all (p : Nat) (h : 542 ≤ p) : prTo p = prL := by
 unfold prTo
 rw [List.filter_eq_self]
 intro x hx
 have h1 : ∀ x ∈ prL, x < 542 := by decide +kernel
 have := h1 x hx
 rw [Nat.blt_eq]; omega
theorem prL_length : prL.length = 100 := by decide +kernel
theorem prTo_two : prTo 2 = [] := by decide +kernel
theorem prTo_few {p n : Nat} (hn : n ≤ 100) (h : (prTo p).length < n) : p ≤ 541 := by
 rcases Nat.lt_or_ge p 542 with h1 | h1
 ·omega
 ·rw [prTo_all p h1, prL_length] at h; omega
theorem prTo_next (p : Nat) (h2 : 2 ≤ p) (hp : p ≤ 541) : prTo (p + 1) = (if apartP p (prTo p) = true then prTo p ++ [p] else prTo p) ∧ apartR p (prTo p) = apartP p (prTo p) := by
 have h := chk13_at p h2 (by omega)
 unfold chk13 at h
 simp only [Bool.and_eq_true, beq_iff_eq] at h
 obtain ⟨⟨⟨h1, h3⟩, h4⟩, _⟩ := h
 rw [h3, h4]
 refine ⟨?_, rfl⟩
 rw [h1]
 cases prL.contains p <;> rfl
theorem prTo_take (p : Nat) (h2 : 2 ≤ p) (hp : p ≤ 542) : prTo p = prL.take (prTo p).length := by
 have h := chk13_at p h2 hp
 unfold chk13 at h
 simp only [Bool.and_eq_true, beq_iff_eq] at h
 exact h.2
theorem prL_lt : ∀ x ∈ prL, x < 542 := by decide +kernel
theorem prL_pos : ∀ x ∈ prL, 0 < x := by decide +kernel
theorem prTo_mem {p x : Nat} (h : x ∈ prTo p) : 0 < x ∧ x < 542 := by
 unfold prTo at h
 have := (List.mem_filter.1 h).1
 exact ⟨prL_pos x this, prL_lt x this⟩

/-- The code's root: of bits from the highest on those that keep the power's top below the limit. -/
def rtTo (f : Nat → Nat) (lim : Nat) : Nat → Nat
 | 0 => 0
 | k + 1 => bif Nat.blt (f (rtTo f lim k ||| 2 ^ (34 - k))) lim then rtTo f lim k ||| 2 ^ (34 - k) else rtTo f lim k
def sqT (r : Nat) : Nat := r * r / 18446744073709551616
def cbT (r : Nat) : Nat := (r * r / 18446744073709551616 * r + r * r % 18446744073709551616 * r / 18446744073709551616) % 18446744073709551616
/-- The document's root. -/
def frTo (pw lim : Nat) : Nat → Nat
 | 0 => 0
 | k + 1 => bif Nat.blt lim ((frTo pw lim k + 2 ^ (38 - k)) ^ pw) then frTo pw lim k else frTo pw lim k + 2 ^ (38 - k)
theorem SL_code : (prL.take 8).map (fun p => rtTo sqT p 35 % 4294967296) = SL := by decide +kernel
theorem KL_code : (prL.take 64).map (fun p => rtTo cbT (p * 4294967296) 35 % 4294967296) = KL := by decide +kernel
theorem SL_doc : (prL.take 8).map (fun p => frTo 2 (p * 18446744073709551616) 39 % 4294967296) = SL := by decide +kernel
theorem KL_doc : (prL.take 64).map (fun p => frTo 3 (p * 79228162514264337593543950336) 39 % 4294967296) = KL := by decide +kernel
theorem KL_length : KL.length = 64 := by decide +kernel
theorem KL_lt : ∀ x ∈ KL, x < 4294967296 := by decide +kernel
theorem S0_ok : S0.Ok := by constructor <;> decide +kernel
theorem S0_list : S0.list = SL := by decide +kernel

end Go.Proofs.YthangiocheodoaaGreatDoor

/-
 Layer 13, in plain words: numbers as digits of 16 bits, the lowest first: sums of products with carries, comparisons.
-/
namespace Go.Proofs.YthangiocheodoaaGreatDoor
set_option linter.unusedVariables false
set_option maxRecDepth 8192

/-- What the first n digits say. -/
def vTo (f : Nat → Nat) : Nat → Nat
 | 0 => 0
 | n + 1 => vTo f n + f n * 65536 ^ n
def dg (l : List Nat) (i : Nat) : Nat := l[i]?.getD 0
def vL (l : List Nat) : Nat := vTo (dg l) l.length

theorem dg_past {l : List Nat} {i : Nat} (h : l.length ≤ i) : dg l i = 0 := by unfold dg; rw [List.getElem?_eq_none h]; rfl
theorem vTo_congr {f g : Nat → Nat} {n : Nat} (h : ∀ i, i < n → f i = g i) : vTo f n = vTo g n := by
 induction n with
 | zero => rfl
 | succ n ih => simp only [vTo]; rw [ih (fun i hi => h i (by omega)), h n (by omega)]
theorem vTo_lt {f : Nat → Nat} {n : Nat} (h : ∀ i, i < n → f i < 65536) : vTo f n < 65536 ^ n := by
 induction n with
 | zero => simp [vTo]
 | succ n ih =>
  have h1 := ih (fun i hi => h i (by omega))
  have h2 : f n + 1 ≤ 65536 := h n (by omega)
  have h3 := Nat.mul_le_mul_right (65536 ^ n) h2
  simp only [vTo, Nat.pow_succ]
  rw [Nat.add_mul] at h3
  rw [Nat.mul_comm (65536 ^ n)]
  omega
theorem vTo_tail {f : Nat → Nat} {n m : Nat} (hnm : n ≤ m) (h : ∀ i, n ≤ i → f i = 0) : vTo f m = vTo f n := by
 induction m with
 | zero => rw [show n = 0 from by omega]
 | succ m ih =>
  rcases Nat.lt_or_ge m n with h1 | h1
  ·rw [show n = m + 1 from by omega]
  ·simp only [vTo]; rw [ih h1, h m h1]; omega
theorem vL_to (l : List Nat) (m : Nat) (h : l.length ≤ m) : vTo (dg l) m = vL l := vTo_tail h (fun i hi => dg_past hi)
theorem vTo_ge {f : Nat → Nat} {n j : Nat} (h : j < n) : f j * 65536 ^ j ≤ vTo f n := by
 induction n with
 | zero => omega
 | succ n ih =>
  simp only [vTo]
  rcases Nat.lt_or_ge j n with h1 | h1
  ·have := ih h1; omega
  ·rw [show j = n from by omega]; omega
theorem vTo_mono (f : Nat → Nat) {n m : Nat} (h : n ≤ m) : vTo f n ≤ vTo f m := by
 induction m with
 | zero => rw [show n = 0 from by omega]; exact Nat.le_refl _
 | succ m ih =>
  rcases Nat.lt_or_ge m n with h1 | h1
  ·rw [show n = m + 1 from by omega]; exact Nat.le_refl _
  ·have := ih h1; simp only [vTo]; omega
theorem vTo_same {f g : Nat → Nat} {n m : Nat} (hnm : n ≤ m) (h : ∀ i, n ≤ i → i < m → f i = g i) : vTo f m + vTo g n = vTo g m + vTo f n := by
 induction m with
 | zero => rw [show n = 0 from by omega]; rfl
 | succ m ih =>
  rcases Nat.lt_or_ge m n with h1 | h1
  ·rw [show n = m + 1 from by omega]; omega
  ·have := ih h1 (fun i h2 h3 => h i h2 (by omega)); simp only [vTo]; rw [h m h1 (by omega)]; omega
theorem dg_set {l : List Nat} {j x : Nat} (hj : j < l.length) (i : Nat) : dg (l.set j x) i = if i = j then x else dg l i := by
 unfold dg
 rw [List.getElem?_set]
 by_cases h : j = i
 ·subst h; simp [hj]
 ·rw [if_neg h, if_neg (fun h' => h h'.symm)]
theorem vTo_upd {f g : Nat → Nat} {n j x : Nat} (hj : j < n) (hg : ∀ i, g i = if i = j then x else f i) : vTo g n + f j * 65536 ^ j = vTo f n + x * 65536 ^ j := by
 induction n with
 | zero => omega
 | succ n ih =>
  simp only [vTo]
  rcases Nat.lt_or_ge j n with h1 | h1
  ·have := ih h1
   rw [hg n, if_neg (by omega)]
   omega
  ·have e : j = n := by omega
   subst e
   rw [hg j, if_pos rfl, vTo_congr (g := f) (n := j) (fun i hi => by rw [hg i, if_neg (by omega)])]
   omega
theorem vL_set {l : List Nat} {j x : Nat} (hj : j < l.length) : vL (l.set j x) + dg l j * 65536 ^ j = vL l + x * 65536 ^ j := by
 unfold vL
 rw [List.length_set]
 exact vTo_upd hj (dg_set hj)

/-- Digits of a number. -/
def digL (x n : Nat) : List Nat := (List.range n).map (fun i => x / 65536 ^ i % 65536)
theorem digL_length (x n : Nat) : (digL x n).length = n := by simp [digL]
theorem digL_succ (x n : Nat) : digL x (n + 1) = digL x n ++ [x / 65536 ^ n % 65536] := by simp [digL, List.range_succ]
theorem dg_digL {x n i : Nat} (h : i < n) : dg (digL x n) i = x / 65536 ^ i % 65536 := by simp [dg, digL, h]
theorem vL_digL (x n : Nat) : vL (digL x n) = x % 65536 ^ n := by
 unfold vL
 rw [digL_length]
 have : ∀ m, vTo (fun i => x / 65536 ^ i % 65536) m = x % 65536 ^ m := by
  intro m
  induction m with
  | zero => simp [vTo, Nat.mod_one]
  | succ m ih => simp only [vTo]; rw [ih, Nat.pow_succ, Nat.mod_mul, Nat.mul_comm (65536 ^ m)]
 rw [← this n]
 exact vTo_congr (fun i hi => dg_digL hi)
def Dig (l : List Nat) : Prop := ∀ x ∈ l, x < 65536
theorem Dig.at {l : List Nat} (h : Dig l) (i : Nat) : dg l i < 65536 := by
 unfold dg
 rcases Nat.lt_or_ge i l.length with hi | hi
 ·rw [List.getElem?_eq_getElem hi]; exact h _ (List.getElem_mem hi)
 ·rw [List.getElem?_eq_none hi]; decide
theorem Dig.set {l : List Nat} (h : Dig l) (j : Nat) {x : Nat} (hx : x < 65536) : Dig (l.set j x) := by
 intro y hy
 rcases List.mem_or_eq_of_mem_set hy with h1 | rfl
 ·exact h y h1
 ·exact hx
theorem digL_dig (x n : Nat) : Dig (digL x n) := by
 intro y hy
 simp only [digL, List.mem_map] at hy
 obtain ⟨i, _, rfl⟩ := hy
 exact Nat.mod_lt _ (by decide)
theorem Dig.vlt {l : List Nat} (h : Dig l) (m : Nat) : vTo (dg l) m < 65536 ^ m := vTo_lt (fun i _ => h.at i)
theorem Dig.zero {n : Nat} : Dig (List.replicate n 0) := by
 intro x hx; rw [(List.mem_replicate.1 hx).2]; decide
theorem vL_zero (n : Nat) : vL (List.replicate n 0) = 0 := by
 have : ∀ m, vTo (dg (List.replicate n 0)) m = 0 := by
  intro m
  induction m with
  | zero => rfl
  | succ m ih =>
   simp only [vTo, ih]
   have : dg (List.replicate n 0) m = 0 := by
    unfold dg
    rw [List.getElem?_replicate]
    split <;> rfl
   rw [this]; omega
 exact this _

/-- What Times' inner loop keeps: a's first i digits times b are in out (that was o); of a's digit i times b's first k digits the rest is the carry. -/
structure TimI (a b o out : List Nat) (i k c : Nat) : Prop where
 len : out.length = a.length + b.length + 1
 dig : Dig out
 clt : c < 65536
 val : vL out + c * 65536 ^ (i + k) = vTo (dg a) i * vL b + dg a i * 65536 ^ i * vTo (dg b) k
theorem TimI.room {a b o out : List Nat} {i k c : Nat} (h : TimI a b o out i k c) (ha : Dig a) (hb : Dig b) (hi : i < a.length) (hk : k < b.length ∨ 0 < c) : i + k < a.length + b.length + 1 ∧ (b.length ≤ k → k = b.length) := by
 rcases hk with h1 | h1
 ·exact ⟨by omega, fun h2 => by omega⟩
 ·have e1 : vTo (dg b) k ≤ vL b := by
   rcases Nat.lt_or_ge k b.length with h2 | h2
   ·exact vTo_mono _ (Nat.le_of_lt h2)
   ·rw [vL_to b k h2]; exact Nat.le_refl _
  have e2 : vTo (dg a) i * vL b + dg a i * 65536 ^ i * vTo (dg b) k ≤ vTo (dg a) (i + 1) * vL b := by
   simp only [vTo]; rw [Nat.add_mul]
   exact Nat.add_le_add_left (Nat.mul_le_mul_left _ e1) _
  have e3 : vTo (dg a) (i + 1) * vL b < 65536 ^ (i + 1) * 65536 ^ b.length := by
   have p1 := ha.vlt (i + 1)
   have p2 := hb.vlt b.length
   rcases Nat.eq_zero_or_pos (vL b) with hz | hz
   ·rw [hz]; simp [Nat.pow_pos]
   ·exact Nat.lt_of_lt_of_le (Nat.mul_lt_mul_of_pos_right p1 hz) (Nat.mul_le_mul_left _ (Nat.le_of_lt p2))
  rw [← Nat.pow_add] at e3
  have e4 : 65536 ^ (i + k) ≤ c * 65536 ^ (i + k) := Nat.le_mul_of_pos_left _ h1
  have e5 := h.val
  have e6 : 65536 ^ (i + k) < 65536 ^ (i + 1 + b.length) := by omega
  have := (Nat.pow_lt_pow_iff_right (a := 65536) (by decide)).1 e6
  exact ⟨by omega, fun h2 => by omega⟩
theorem TimI.next {a b o out : List Nat} {i k c x : Nat} (h : TimI a b o out i k c) (ha : Dig a) (hb : Dig b) (hi : i + k < a.length + b.length + 1) (hx : x = dg out (i + k) + c + dg a i * dg b k) :
  TimI a b o (out.set (i + k) (x % 65536)) i (k + 1) (x / 65536) := by
 have b1 : dg a i ≤ 65535 := by have := ha.at i; omega
 have b2 : dg b k ≤ 65535 := by have := hb.at k; omega
 have b3 := Nat.mul_le_mul b1 b2
 have b4 := h.dig.at (i + k)
 have b5 := h.clt
 refine ⟨by rw [List.length_set]; exact h.len, h.dig.set _ (Nat.mod_lt _ (by decide)), by omega, ?_⟩
 have hs := vL_set (l := out) (j := i + k) (x := x % 65536) (by rw [h.len]; exact hi)
 have hv := h.val
 rw [← Nat.add_assoc i k 1, Nat.pow_succ]
 simp only [vTo]
 have hq : 65536 ^ (i + k) = 65536 ^ i * 65536 ^ k := Nat.pow_add _ _ _
 have hm : x % 65536 + 65536 * (x / 65536) = x := Nat.mod_add_div x 65536
 have e1 : x / 65536 * (65536 ^ (i + k) * 65536) + x % 65536 * 65536 ^ (i + k) = x * 65536 ^ (i + k) := by
  conv => rhs; rw [← hm, Nat.add_mul]
  rw [Nat.mul_comm (65536 ^ (i + k)) 65536, ← Nat.mul_assoc, Nat.mul_comm (x / 65536) 65536]; omega
 have e2 : x * 65536 ^ (i + k) = dg out (i + k) * 65536 ^ (i + k) + c * 65536 ^ (i + k) + dg a i * 65536 ^ i * (dg b k * 65536 ^ k) := by
  rw [hx, Nat.add_mul, Nat.add_mul]
  congr 1
  rw [hq, Nat.mul_mul_mul_comm]
 rw [Nat.mul_add]
 omega
theorem TimI.begin {a b out : List Nat} {i : Nat} (hl : out.length = a.length + b.length + 1) (hd : Dig out) (hv : vL out = vTo (dg a) i * vL b) : TimI a b out out i 0 0 :=
 ⟨hl, hd, by decide, by simp [vTo, hv]⟩
theorem TimI.done {a b o out : List Nat} {i k : Nat} (h : TimI a b o out i k 0) (hk : b.length ≤ k) : vL out = vTo (dg a) (i + 1) * vL b := by
 have := h.val
 rw [vL_to b k hk] at this
 simp only [vTo]; rw [Nat.add_mul]; omega

/-- Which of two numbers is above the other is told by the highest digit at which they are unlike. -/
theorem vTo_above {f g : Nat → Nat} {i n : Nat} (hi : i < n) (hf : ∀ j, f j < 65536) (hg : ∀ j, g j < 65536) (h : ∀ j, i < j → j < n → f j = g j) (hne : f i ≠ g i) : (g i < f i ↔ vTo g n < vTo f n) := by
 have e := vTo_same (f := f) (g := g) (n := i + 1) (m := n) (by omega) (fun j h1 h2 => h j (by omega) h2)
 have p1 := vTo_lt (f := f) (n := i) (fun j _ => hf j)
 have p2 := vTo_lt (f := g) (n := i) (fun j _ => hg j)
 simp only [vTo] at e
 constructor
 ·intro h1
  have := Nat.mul_le_mul_right (65536 ^ i) (show g i + 1 ≤ f i from h1)
  rw [Nat.add_mul] at this
  omega
 ·intro h1
  rcases Nat.lt_or_ge (g i) (f i) with h2 | h2
  ·exact h2
  ·have := Nat.mul_le_mul_right (65536 ^ i) (show f i + 1 ≤ g i from by omega)
   rw [Nat.add_mul] at this
   omega
theorem vL_snoc (l : List Nat) (x : Nat) : vL (l ++ [x]) = vL l + x * 65536 ^ l.length := by
 unfold vL
 rw [List.length_append, List.length_singleton]
 simp only [vTo]
 congr 1
 ·exact vTo_congr (fun i hi => by unfold dg; rw [List.getElem?_append_left hi])
 ·unfold dg; simp
end Go.Proofs.YthangiocheodoaaGreatDoor

/-
 The code of layer 13 (sha256), as it landed: apart, Primes, Mul64, squareTop, cubeTop, root, RotateLeft32, rotr.
-/
namespace Go.Proofs.YthangiocheodoaaGreatDoor
open Go.RowKit
set_option linter.unusedVariables false
set_option maxRecDepth 8192

/-- Numbers as the program's. -/
def nI (l : List Nat) : List Int := l.map fun n : Nat => (n : Int)
theorem nI_length (l : List Nat) : (nI l).length = l.length := by simp [nI]
theorem nI_get (l : List Nat) (i : Nat) : (nI l)[i]?.getD 0 = ((l[i]?.getD 0 : Nat) : Int) := by
 unfold nI
 rw [List.getElem?_map]
 cases l[i]? <;> rfl
theorem nI_snoc (l : List Nat) (a : Nat) : nI (l ++ [a]) = nI l ++ [(a : Int)] := by simp [nI]
theorem nI_append (l m : List Nat) : nI (l ++ m) = nI l ++ nI m := by simp [nI]
theorem nI_take (l : List Nat) (k : Nat) : (nI l).take k = nI (l.take k) := by simp [nI, List.map_take]
theorem nI_drop (l : List Nat) (k : Nat) : (nI l).drop k = nI (l.drop k) := by simp [nI, List.map_drop]
theorem nI_set (l : List Nat) (k a : Nat) : (nI l).set k (a : Int) = nI (l.set k a) := by simp [nI, List.map_set]
theorem nI_inj {p q : List Nat} (h : nI p = nI q) : p = q := by
 have h2 := congrArg (List.map Int.toNat) h
 simpa [nI, List.map_map, Function.comp_def] using h2

theorem apartP_drop (p : Nat) (l : List Nat) (k : Nat) (hk : k < l.length) : apartP p (l.drop k) = if p < l[k]?.getD 0 * l[k]?.getD 0 then true else if p % l[k]?.getD 0 = 0 then false else apartP p (l.drop (k + 1)) := by
 rw [List.drop_eq_getElem_cons hk, List.getElem?_eq_getElem hk]
 show (bif Nat.blt p (l[k] * l[k]) then true else bif Nat.beq (p % l[k]) 0 then false else apartP p (l.drop (k + 1))) = if p < l[k] * l[k] then true else if p % l[k] = 0 then false else apartP p (l.drop (k + 1))
 by_cases h1 : p < l[k] * l[k]
 ·rw [if_pos h1, show Nat.blt p (l[k] * l[k]) = true from by rw [Nat.blt_eq]; exact h1]; rfl
 ·rw [if_neg h1, show Nat.blt p (l[k] * l[k]) = false from by rw [← Bool.not_eq_true, Nat.blt_eq]; exact h1]
  by_cases h2 : p % l[k] = 0
  ·rw [if_pos h2, show Nat.beq (p % l[k]) 0 = true from by rw [Nat.beq_eq]; exact h2]; rfl
  ·rw [if_neg h2, show Nat.beq (p % l[k]) 0 = false from by rw [← Bool.not_eq_true, Nat.beq_eq]; exact h2]; rfl

set_option maxHeartbeats 800000 in
theorem apart_any (p : Nat) (l : List Nat) (a : Option Addr) (len cap : Nat) (w : World) (hr : Row .i64 w a len cap (nI l)) (hp : p < 1000) (hl : ∀ x ∈ l, 0 < x ∧ x < 542) :
  Calls Tryz.prog 139 #[.int .i64 p, .slice a len cap] w fun e w' => e = .returned (.bool (apartP p l)) ∧ w = w' := by
 have hm := hr.hmax
 have hc := hr.hcap
 have HL : Hid (l.length = len) := by have := hr.hlen; rw [nI_length] at this; exact this
 unfold maxLen at hm
 go_enter Tryz.func139, Tryz.ntmps139
 go_wp2
 go_loop [9] (fun y => ∃ k : Nat, k ≤ len ∧ y = .int .i64 k ∧ Hid (apartP p l = apartP p (l.drop k))) (fun y => len - (intOf y).toNat)
 case atStart => exact ⟨0, Nat.zero_le _, rfl, rfl⟩
 case round =>
  obtain ⟨k, hk, rfl, HA⟩ := hrel
  by_cases hlt : k < len
  ·obtain ⟨b, off, rfl, hbs, hcell⟩ := hr.hcell (by omega)
   have hc1 := hcell k hlt
   clear hcell
   rw [nI_get] at hc1
   have HD : Hid (apartP p (l.drop k) = if p < l[k]?.getD 0 * l[k]?.getD 0 then true else if p % l[k]?.getD 0 = 0 then false else apartP p (l.drop (k + 1))) := apartP_drop p l k (by have := HL.out; omega)
   have hq : 0 < l[k]?.getD 0 ∧ l[k]?.getD 0 < 542 := by
    have hk' : k < l.length := by have := HL.out; omega
    rw [List.getElem?_eq_getElem hk']
    exact hl _ (List.getElem_mem hk')
   generalize l[k]?.getD 0 = q at *
   have hqq : q * q ≤ 541 * 541 := Nat.mul_le_mul (by omega) (by omega)
   have hcast : (q : Int) * (q : Int) = ((q * q : Nat) : Int) := (Int.natCast_mul q q).symm
   by_cases h1 : p < q * q
   ·have HR : Hid (apartP p l = true) := by show _ = _; rw [HA.out, HD.out, if_pos h1]
    generalize q * q = qq at *
    go_wp2
    go_ret
    exact ⟨ret_bool HR.out.symm, rfl⟩
   ·by_cases h2 : p % q = 0
    ·have HR : Hid (apartP p l = false) := by show _ = _; rw [HA.out, HD.out, if_neg h1, if_pos h2]
     have h2' : (p : Int).tmod (q : Int) = 0 := by rw [← Int.ofNat_tmod, h2]; rfl
     generalize q * q = qq at *
     go_wp2
     go_ret
     exact ⟨ret_bool HR.out.symm, rfl⟩
    ·have HR : Hid (apartP p l = apartP p (l.drop (k + 1))) := by show _ = _; rw [HA.out, HD.out, if_neg h1, if_neg h2]
     have h2' : ¬ (p : Int).tmod (q : Int) = 0 := by rw [← Int.ofNat_tmod]; exact fun h => h2 (by omega)
     have h2'' : ((p : Int).tmod (q : Int) == 0) = false := by simpa using h2'
     generalize q * q = qq at *
     go_wp2
     go_round
     case rel => exact ⟨k + 1, by omega, by go_num, HR⟩
     case measure => simp [intOf]; omega
  ·have HR : Hid (apartP p l = true) := by
    show _ = _
    rw [HA.out, List.drop_eq_nil_of_le (by have := HL.out; omega)]
    rfl
   go_wp2
   go_ret
   exact ⟨ret_bool HR.out.symm, rfl⟩
set_option maxHeartbeats 1600000 in
theorem shaPrimes_yes (n : Nat) (w : World) (hn : n ≤ 100) : Calls Tryz.prog 119 #[.int .i64 (n : Int)] w fun e w' =>
  ∃ v, e = .returned (.tuple #[v, .int .i64 0]) ∧ w'.ownsRow w.heap.size 3 1 v n ((nI (prL.take n)).map (Value.int .i64)) ∧ Below w.heap.size w w' := by
 obtain ⟨i0, hi0, hz0, hz1, hz2⟩ := info_parts Tryz.info3
 go_enter Tryz.func119, Tryz.ntmps119
 go_wp2
 go_loopw [4, 5] (fun v y wr => ∃ p : Nat, 2 ≤ p ∧ p ≤ 542 ∧ y = .int .i64 (p : Int) ∧ Hid ((prTo p).length ≤ n) ∧ Hid (wr.ownsRow w.heap.size 3 1 v (prTo p).length ((nI (prTo p)).map (Value.int .i64))) ∧ Hid (Below w.heap.size w wr)) (fun _ y _ => 543 - (intOf y).toNat)
 case atStart => exact ⟨2, by omega, by omega, rfl, by rw [prTo_two]; exact Nat.zero_le _, by rw [prTo_two]; exact World.ownsRow_nil _ _ _ _, Below.refl _ _⟩
 case round =>
  obtain ⟨p, hp2, hp5, rfl, HL, HO, HB⟩ := hrel
  have hsz : w.heap.size ≤ wr.heap.size := HB.out.size
  obtain ⟨a, cap, rfl, hrow⟩ := row_of_owns HO.out
  by_cases hlt : (prTo p).length < n
  ·have hp1 : p ≤ 541 := prTo_few hn hlt
   have hnx := prTo_next p hp2 hp1
   have hlL : (prTo p).length ≤ 100 := by omega
   have HN : Hid (prTo (p + 1) = (if apartP p (prTo p) = true then prTo p ++ [p] else prTo p)) := hnx.1
   clear hnx
   have hap := apart_any p (prTo p) a (prTo p).length cap wr hrow (by omega) (fun x hx => prTo_mem hx)
   have HLT : Hid ((prTo p).length < n) := hlt
   generalize hLL : (prTo p).length = L at *
   go_wp2_with fail
   refine hap.mono ?_
   rintro e w' ⟨rfl, rfl⟩
   cases h : apartP p (prTo p)
   ·have HE : Hid (prTo (p + 1) = prTo p) := by show _ = _; rw [HN.out, h]; rfl
    go_wp2
    go_roundw
    case rel =>
     refine ⟨p + 1, by omega, by omega, by go_num, ?_, ?_, HB⟩
     ·rw [HE.out, hLL]; exact HL
     ·rw [HE.out, hLL]; exact HO
    case measure => simp [intOf]; omega
   ·have HE : Hid (prTo (p + 1) = prTo p ++ [p]) := by show _ = _; rw [HN.out, h]; rfl
    have hown := HO.out
    go_wp2_with (at_builtin; refine wpList_append_own _ rfl _ _ 111 rfl w.heap.size 3 i0 (.int .i64 0) 1 8 Tryz.underlying111 hi0 hz0 hz1 hz2 rfl (by decide) _ _ _ rfl (hown.alloc _) ⟨wr.heap.size, 0, none⟩ 1 1 [.int .i64 (p : Int)] rfl rfl (cell_one_new _ _ _) (by intro u hu; simp at hu; subst hu; rfl) (by unfold maxLen; omega) (by omega) (by simp; omega) ?_)
    intro v' w1 hown' hgrow _
    have R := rel_push hsz hown HB.out hown' hgrow
    rw [← nI_snoc, ← HE.out] at R
    have hLn : (prTo (p + 1)).length = L + 1 := by rw [HE.out]; simp [hLL]
    clear hown' hgrow
    go_wp2
    go_roundw
    case rel =>
     refine ⟨p + 1, by omega, by omega, by go_num, ?_, ?_, R.2⟩
     ·rw [hLn]; have := HLT.out; show L + 1 ≤ n; omega
     ·rw [hLn]; exact R.1
    case measure => simp [intOf]; omega
  ·have e1 : (prTo p).length = n := by have := HL.out; omega
   have HT : Hid (prTo p = prL.take n) := by show _ = _; rw [prTo_take p hp2 hp5, e1]
   have hown := HO.out
   rw [HT.out, List.length_take, prL_length, Nat.min_eq_left hn] at hown
   rw [e1] at *
   go_wp2
   go_ret2
   exact ⟨_, rfl, hown, HB.out⟩
set_option maxHeartbeats 1000000 in
theorem mul64_any (x y : Nat) (hx : x < 18446744073709551616) (hy : y < 18446744073709551616) (w : World) :
  Calls Tryz.prog 124 #[.int .u64 (x : Int), .int .u64 (y : Int)] w fun e w' => e = .returned (.tuple #[.int .u64 ((x * y / 18446744073709551616 : Nat) : Int), .int .u64 ((x * y % 18446744073709551616 : Nat) : Int)]) ∧ w = w' := by
 obtain ⟨bd, bt, bw, hhi⟩ := Lib.mul64_hi x y hx hy
 have ba := Lib.half_mul_le (a := x / 4294967296) (b := y / 4294967296) (by omega) (by omega)
 have bb := Lib.half_mul_le (a := x / 4294967296) (b := y % 4294967296) (by omega) (by omega)
 have bc := Lib.half_mul_le (a := x % 4294967296) (b := y / 4294967296) (by omega) (by omega)
 have ba' : x / 4294967296 * (y / 4294967296) < 18446744073709551616 := by omega
 have bb' : x / 4294967296 * (y % 4294967296) < 18446744073709551616 := by omega
 have bc' : x % 4294967296 * (y / 4294967296) < 18446744073709551616 := by omega
 have b1 : x / 4294967296 * (y / 4294967296) + (x / 4294967296 * (y % 4294967296) + x % 4294967296 * (y % 4294967296) / 4294967296) / 4294967296 < 18446744073709551616 := by omega
 have b2 : x / 4294967296 * (y / 4294967296) + (x / 4294967296 * (y % 4294967296) + x % 4294967296 * (y % 4294967296) / 4294967296) / 4294967296 + ((x / 4294967296 * (y % 4294967296) + x % 4294967296 * (y % 4294967296) / 4294967296) % 4294967296 + x % 4294967296 * (y / 4294967296)) / 4294967296 < 18446744073709551616 := by omega
 go_enter Tryz.func124, Tryz.ntmps124
 go_wp2
 simp only [Mul64.maskN x hx, Mul64.maskN y hy, Mul64.divN, Mul64.mulN, Mul64.addN, Mul64.wrapN _ bd, Mul64.wrapN _ bb', Mul64.wrapN _ bt, Mul64.maskN _ bt, Mul64.wrapN _ bc', Mul64.wrapN _ bw, Mul64.wrapN _ ba', Mul64.wrapN _ b1, Mul64.wrapN _ b2, Mul64.wrapM (x * y)]
 rw [hhi]
 go_ret2
 exact ⟨rfl, rfl⟩
end Go.Proofs.YthangiocheodoaaGreatDoor

/-
 Layer 13's reference (casemateref13): power, shr, rotr, xor, and, not, three, digits, Times, Greater, above, frac give what the plain functions give; nothing old turns.
-/
namespace Go.Proofs.YthangiocheodoaaGreatDoor
open Go.RowKit
set_option linter.unusedVariables false
set_option maxRecDepth 8192

theorem quietW {P : Program} {f : FuncId} {args : Array Value} {w : World} {n : Nat} {v : Value}
  (h : Calls P f args (w.drewN n) fun e w' => e = .returned v ∧ w.drewN n = w') : Calls P f args (w.drewN n) fun e w'' => e = .returned v ∧ ∃ m, w'' = w.drewN m :=
 h.mono fun _ _ ⟨he, hm⟩ => ⟨he, n, hm.symm⟩

end Go.Proofs.YthangiocheodoaaGreatDoor

/-
 Layer 13's reference, of numbers as digits: digits, Times, Greater, above, frac.
-/
namespace Go.Proofs.YthangiocheodoaaGreatDoor
open Go.RowKit
set_option linter.unusedVariables false
set_option maxRecDepth 8192

theorem belowN {B : Nat} {a w : World} (h : Below B a w) (n : Nat) : Below B a (w.drewN n) := ⟨h.os, h.tape, h.output, h.size, h.block⟩
theorem ownsSince {w w' : World} {base : Nat} {e : TypeId} {size : Nat} {v : Value} {n : Nat} {xs : List Value} (h : w.ownsRow base e size v n xs) (hb : Below w.heap.size w w') : w'.ownsRow base e size v n xs := by
 refine ⟨h.1, ?_⟩
 rcases h.2 with h2 | ⟨g, cap, cur, hv, hg, hh, r⟩
 ·exact .inl h2
 ·have hlt : g < w.heap.size := by
   rcases Nat.lt_or_ge g w.heap.size with hh' | hh'
   ·exact hh'
   ·rw [Array.getElem?_eq_none hh'] at hh; simp at hh
  exact .inr ⟨g, cap, cur, hv, hg, by rw [hb.block g hlt]; exact hh, r⟩
theorem nI_dg (l : List Nat) (i : Nat) : (nI l)[i]?.getD 0 = ((dg l i : Nat) : Int) := nI_get l i
set_option maxHeartbeats 3200000 in
theorem times13_any (a b : List Nat) (aa ab : Option Addr) (la ca lb cb : Nat) (w : World) (ha : Row .i64 w aa la ca (nI a)) (hb : Row .i64 w ab lb cb (nI b)) (da : Dig a) (db : Dig b) (hla : la ≤ 20) (hlb : lb ≤ 20) :
  Calls Tryz.prog 126 #[.slice aa la ca, .slice ab lb cb] w fun e w' =>
   ∃ v, e = .returned v ∧ ∃ out : List Nat, out.length = la + lb + 1 ∧ Dig out ∧ vL out = vL a * vL b ∧ w'.ownsRow w.heap.size 3 1 v (la + lb + 1) ((nI out).map (Value.int .i64)) ∧ Below w.heap.size w w' := by
 obtain ⟨i0, hi0, hz0, hz1, hz2⟩ := info_parts Tryz.info3
 have HA : Hid (a.length = la) := by have := ha.hlen; rwa [nI_length] at this
 have HBl : Hid (b.length = lb) := by have := hb.hlen; rwa [nI_length] at this
 have hmax : la + lb + 1 ≤ maxLen := by unfold maxLen; omega
 have hmk : ∀ w1 : World, w1.ownsRow w.heap.size 3 1 (.slice (some ⟨w.heap.size, 0, none⟩) (la + lb + 1) (la + lb + 1)) (la + lb + 1) (madeCells (Value.int IntKind.i64 0).cells ((la + lb + 1) * 1)).toList → w.grownBy w1 none →
   w1.ownsRow w.heap.size 3 1 (.slice (some ⟨w.heap.size, 0, none⟩) (la + lb + 1) (la + lb + 1)) (la + lb + 1) ((nI (List.replicate (la + lb + 1) 0)).map (Value.int .i64)) ∧ Below w.heap.size w w1 := fun w1 h1 h2 => by
  refine ⟨?_, (Below.refl _ _).grown h2 (Nat.le_refl _) (by simp)⟩
  rw [made_ints] at h1
  simpa [nI] using h1
 have hwr : IntKind.i64.wrap ((la : Int) + (lb : Int)) = ((la + lb : Nat) : Int) := by rw [IntKind.wrap_i64]; omega
 generalize hL : la + lb + 1 = L at *
 go_enter Tryz.func126, Tryz.ntmps126
 go_wp2_with (at_make; refine wpList_make_full _ rfl _ _ 111 rfl w.heap.size 3 i0 (.int .i64 0) 1 Tryz.underlying111 hi0 hz0 hz1 _ _ _ _ L rfl rfl (by omega) (by omega) (by rw [hz2]; omega) hmax (Nat.le_refl _) ?_; intro w1 hown1 hgrow1)
 obtain ⟨hown2, hb2⟩ := hmk w1 hown1 hgrow1
 clear hmk hown1 hgrow1
 go_loopw [6] (fun y wr => ∃ (i : Nat) (out : List Nat), i ≤ la ∧ y = .int .i64 (i : Int) ∧ Hid (out.length = a.length + b.length + 1) ∧ Hid (Dig out) ∧ Hid (vL out = vTo (dg a) i * vL b) ∧ Hid (wr.ownsRow w.heap.size 3 1 (.slice (some ⟨w.heap.size, 0, none⟩) L L) L ((nI out).map (Value.int .i64))) ∧ Hid (Below w.heap.size w wr)) (fun y _ => la - (intOf y).toNat)
 case atStart => exact ⟨0, List.replicate L 0, Nat.zero_le _, rfl, by rw [List.length_replicate, HA.out, HBl.out]; exact hL.symm, Dig.zero, by show _ = _; rw [vL_zero]; simp [vTo], hown2, hb2⟩
 case round =>
  clear hown2 hb2
  obtain ⟨i, o, hi, rfl, HOL, HOD, HOV, HO, HB⟩ := hrel
  by_cases hlt : i < la
  ·have HT0 : Hid (TimI a b o o i 0 0) := TimI.begin HOL.out HOD.out HOV.out
   go_wp2
   go_loopw [7, 8] (fun c y ws => ∃ (k cc : Nat) (out : List Nat), k ≤ L ∧ y = .int .i64 (k : Int) ∧ c = .int .i64 (cc : Int) ∧ Hid (TimI a b o out i k cc) ∧ Hid (ws.ownsRow w.heap.size 3 1 (.slice (some ⟨w.heap.size, 0, none⟩) L L) L ((nI out).map (Value.int .i64))) ∧ Hid (Below w.heap.size w ws)) (fun _ y _ => L + 1 - (intOf y).toNat)
   case atStart => exact ⟨0, 0, o, Nat.zero_le _, rfl, rfl, HT0, HO, HB⟩
   case round =>
    clear HOL HOD HOV HO HB HT0
    obtain ⟨k, c, out, hk, rfl, rfl, HT, HO, HB⟩ := hrel
    have hcl := HT.out.clt
    by_cases hgo : k < lb ∨ 0 < c
    ·have hroom := HT.out.room da db (by rw [HA.out]; exact hlt) (by rw [HBl.out]; exact hgo)
     rw [HA.out, HBl.out, hL] at hroom
     have hkk : lb ≤ k → k = lb := hroom.2
     have hik := hroom.1
     clear hroom
     have hik' : (i : Int) + (k : Int) < (L : Int) := by omega
     have HN : Hid (∀ x, x = dg out (i + k) + c + dg a i * dg b k → TimI a b o (out.set (i + k) (x % 65536)) i (k + 1) (x / 65536)) := fun x hx => HT.out.next da db (by rw [HA.out, HBl.out, hL]; exact hik) hx
     have hcell := owned_cell HO.out (i + k) hik
     rw [nI_dg] at hcell
     have hfz := HO.out.frozenAt (i + k)
     have hown := HO.out
     have hsz := HB.out.size
     obtain ⟨bA, oA, rfl, hbA, hcA⟩ := (ha.below HB.out (Nat.le_refl _)).hcell (by omega)
     have hcA1 := hcA i hlt
     clear hcA
     rw [nI_dg] at hcA1
     have b1 := da.at i
     have b3 := HT.out.dig.at (i + k)
     have eik : IntKind.i64.wrap ((i : Int) + (k : Int)) = ((i + k : Nat) : Int) := by rw [IntKind.wrap_i64]; omega
     have eik2 : (i : Int) + (k : Int) = ((i + k : Nat) : Int) := by omega
     by_cases hkb : k < lb
     ·obtain ⟨bB, oB, rfl, hbB, hcB⟩ := (hb.below HB.out (Nat.le_refl _)).hcell (by omega)
      have hcB1 := hcB k hkb
      clear hcB
      rw [nI_dg] at hcB1
      have b2 := db.at k
      have hp := Nat.mul_le_mul (show dg a i ≤ 65535 by omega) (show dg b k ≤ 65535 by omega)
      generalize dg a i = x1 at *
      generalize dg b k = x2 at *
      generalize dg out (i + k) = x3 at *
      have hm : (x1 : Int) * (x2 : Int) = ((x1 * x2 : Nat) : Int) := (Int.natCast_mul x1 x2).symm
      generalize x1 * x2 = xx at *
      have HS : Hid (_ ∧ _) := owned_set (q := i + k) (x := ((x3 : Int) + (c : Int) + (xx : Int)) % 65536) (Nat.le_refl _) hown HB.out
      have HN1 := HN.out (x3 + c + xx) rfl
      have e1 : ((x3 : Int) + (c : Int) + (xx : Int)) % 65536 = (((x3 + c + xx) % 65536 : Nat) : Int) := by omega
      have HE1 : Hid (((x3 : Int) + (c : Int) + (xx : Int)) % 65536 = (((x3 + c + xx) % 65536 : Nat) : Int)) := e1
      clear e1
      generalize hikk : i + k = ik at *
      have HIK : Hid (i + k = ik) := hikk
      clear hikk
      have hlb' : (k : Int) < (lb : Int) := by omega
      clear HN hgo hkk
      go_wp2_with fail
      go_quiet (fail)
      go_wp2
      go_roundw
      case rel =>
       refine ⟨k + 1, (x3 + c + xx) / 65536, out.set ik ((x3 + c + xx) % 65536), by omega, by go_num, by go_num, HN1, ?_, ?_⟩
       ·have := HS.out.1
        rw [HE1.out, nI_set] at this
        exact this
       ·exact (belowN HB.out _).setCell (Nat.le_refl _) _
      case measure => simp [intOf]; omega
     ·have hc0 : 0 < c := by omega
      have hz : dg b k = 0 := dg_past (by rw [HBl.out]; omega)
      rw [hz] at HN
      generalize dg a i = x1 at *
      generalize dg out (i + k) = x3 at *
      have HS : Hid (_ ∧ _) := owned_set (q := i + k) (x := ((x3 : Int) + (c : Int)) % 65536) (Nat.le_refl _) hown HB.out
      have HN1 := HN.out (x3 + c) (by omega)
      have HE1 : Hid (((x3 : Int) + (c : Int)) % 65536 = (((x3 + c) % 65536 : Nat) : Int)) := by show _ = _; omega
      generalize hikk : i + k = ik at *
      have HIK : Hid (i + k = ik) := hikk
      clear hikk
      have hlb' : ¬ (k : Int) < (lb : Int) := by omega
      clear HN hgo hkk hz
      go_wp2
      go_roundw
      case rel =>
       refine ⟨k + 1, (x3 + c) / 65536, out.set ik ((x3 + c) % 65536), by omega, by go_num, by go_num, HN1, ?_, ?_⟩
       ·have := HS.out.1
        rw [HE1.out, nI_set] at this
        exact this
       ·exact HS.out.2
      case measure => simp [intOf]; omega
    ·obtain rfl : c = 0 := by omega
     have hge : lb ≤ k := by omega
     have HV : Hid (vL out = vTo (dg a) (i + 1) * vL b) := HT.out.done (by rw [HBl.out]; exact hge)
     have HOL : Hid (out.length = a.length + b.length + 1) := HT.out.len
     have HOD : Hid (Dig out) := HT.out.dig
     clear HT hgo
     have hlb' : ¬ (k : Int) < (lb : Int) := by omega
     go_wp2
     go_roundw
     case rel => exact ⟨i + 1, out, by omega, by go_num, HOL, HOD, HV, HO, HB⟩
     case measure => simp [intOf]; omega
  ·obtain rfl : i = la := by omega
   have HV : Hid (vL o = vL a * vL b) := by
    show _ = _
    rw [HOV.out, show vTo (dg a) i = vL a from by unfold vL; rw [HA.out]]
   go_wp2
   go_ret
   exact ⟨_, rfl, o, by rw [HOL.out, HA.out, HBl.out, hL], HOD.out, HV.out, HO.out, HB.out⟩
end Go.Proofs.YthangiocheodoaaGreatDoor

/-
 Layer 13's reference: Greater, above, frac, Primes, Start, Rounds.
-/
namespace Go.Proofs.YthangiocheodoaaGreatDoor
open Go.RowKit
set_option linter.unusedVariables false
set_option maxRecDepth 8192

set_option maxHeartbeats 3200000 in
theorem greater13_any (a b : List Nat) (aa ab : Option Addr) (la ca lb cb : Nat) (w : World) (ha : Row .i64 w aa la ca (nI a)) (hb : Row .i64 w ab lb cb (nI b)) (da : Dig a) (db : Dig b) (hla : la ≤ 100) (hlb : lb ≤ 100) :
  Calls Tryz.prog 127 #[.slice aa la ca, .slice ab lb cb] w fun e w' => e = .returned (.bool (decide (vL b < vL a))) ∧ w = w' := by
 have HA : Hid (a.length = la) := by have := ha.hlen; rwa [nI_length] at this
 have HBl : Hid (b.length = lb) := by have := hb.hlen; rwa [nI_length] at this
 obtain ⟨N, hN⟩ : ∃ N : Nat, ((N = la ∧ lb ≤ la) ∨ (N = lb ∧ la < lb)) := by
  rcases Nat.lt_or_ge la lb with h | h
  ·exact ⟨lb, .inr ⟨rfl, h⟩⟩
  ·exact ⟨la, .inl ⟨rfl, h⟩⟩
 have HVa : Hid (vTo (dg a) N = vL a) := vL_to a N (by rw [HA.out]; omega)
 have HVb : Hid (vTo (dg b) N = vL b) := vL_to b N (by rw [HBl.out]; omega)
 have hN1 : la ≤ N ∧ lb ≤ N ∧ N ≤ 100 := by omega
 have hstart : ∀ (Q : Prop), ((lb : Int) ≤ (la : Int) → N = la → Q) → ((la : Int) < (lb : Int) → N = lb → Q) → Q := fun Q h1 h2 => by
  rcases hN with ⟨h, h'⟩ | ⟨h, h'⟩
  ·exact h1 (by omega) h
  ·exact h2 (by omega) h
 apply hstart
 ·intro hle hNe
  subst hNe
  clear hstart hN
  go_enter Tryz.func127, Tryz.ntmps127
  go_wp2
  go_loop [5] (fun y => ∃ k : Nat, k ≤ N ∧ y = .int .i64 ((k : Int) - 1) ∧ Hid (∀ j, k ≤ j → j < N → dg a j = dg b j)) (fun y => (intOf y + 1).toNat)
  case atStart => exact ⟨N, Nat.le_refl _, by go_num, fun j h1 h2 => by omega⟩
  case round =>
   obtain ⟨k, hk, rfl, HE⟩ := hrel
   by_cases h0 : k = 0
   ·subst h0
    have HF : Hid (decide (vL b < vL a) = false) := by
     show _ = _
     rw [decide_eq_false_iff_not, ← HVa.out, ← HVb.out, vTo_congr (fun i hi => HE.out i (Nat.zero_le _) hi)]
     omega
    go_wp2
    go_ret
    exact ⟨ret_bool HF.out.symm, rfl⟩
   ·have hto : ((k : Int) - 1).toNat = k - 1 := by omega
    have hk0 : (0 : Int) ≤ (k : Int) - 1 := by omega
    have HNE : Hid (dg a (k - 1) ≠ dg b (k - 1) → decide (vL b < vL a) = decide (dg b (k - 1) < dg a (k - 1))) := fun hne => by
     rw [decide_eq_decide, ← HVa.out, ← HVb.out]
     exact (vTo_above (i := k - 1) (by omega) da.at db.at (fun j h1 h2 => HE.out j (by omega) h2) hne).symm
    have HEQ : Hid (dg a (k - 1) = dg b (k - 1) → ∀ j, k - 1 ≤ j → j < N → dg a j = dg b j) := fun he j h1 h2 => by
     by_cases e : j = k - 1
     ·rw [e]; exact he
     ·exact HE.out j (by omega) h2
    clear HE
    have fin : ∀ x y : Nat, dg a (k - 1) = x → dg b (k - 1) = y → Hid ((x ≠ y → decide (vL b < vL a) = decide (y < x)) ∧ (x = y → ∀ j, k - 1 ≤ j → j < N → dg a j = dg b j)) := by
     rintro x y rfl rfl
     exact ⟨HNE.out, HEQ.out⟩
    clear HNE HEQ
    have hk1 : (k : Int) - 1 < (N : Int) := by omega
    obtain ⟨b1, o1, rfl, hb1, hc1⟩ := ha.hcell (by omega)
    have hd1 := hc1 (k - 1) (by omega)
    clear hc1
    rw [nI_dg] at hd1
    by_cases hjo : k - 1 < lb
    ·obtain ⟨b2, o2, rfl, hb2, hc2⟩ := hb.hcell (by omega)
     have hd2 := hc2 (k - 1) hjo
     clear hc2
     rw [nI_dg] at hd2
     have hk2 : (k : Int) - 1 < (lb : Int) := by omega
     have HF := fin _ _ rfl rfl
     clear fin
     generalize hxa : dg a (k - 1) = x at *
     generalize hya : dg b (k - 1) = y at *
     clear hxa hya
     by_cases hxy : x = y
     ·have hq : ((x : Int) != (y : Int)) = false := by simp; omega
      have HG : Hid (∀ j, k - 1 ≤ j → j < N → dg a j = dg b j) := HF.out.2 hxy
      have HXY : Hid (x = y) := hxy
      clear HF hxy
      go_wp2
      go_round
      case rel => exact ⟨k - 1, by omega, by go_num, HG⟩
      case measure => simp [intOf]; omega
     ·have hq : ((x : Int) != (y : Int)) = true := by simp; omega
      have HG : Hid (decide (vL b < vL a) = decide (y < x)) := HF.out.1 hxy
      have HXY : Hid (¬ x = y) := hxy
      clear HF hxy
      go_wp2
      go_ret
      exact ⟨ret_bool (by rw [HG.out, decide_eq_decide] <;> omega), rfl⟩
    ·have hz : dg b (k - 1) = 0 := dg_past (by rw [HBl.out]; omega)
     have hk2 : ¬ (k : Int) - 1 < (lb : Int) := by omega
     have HF := fin _ 0 rfl hz
     clear fin hz
     generalize hxa : dg a (k - 1) = x at *
     clear hxa
     by_cases hxy : x = 0
     ·have hq : ((x : Int) != 0) = false := by simp; omega
      have HG : Hid (∀ j, k - 1 ≤ j → j < N → dg a j = dg b j) := HF.out.2 hxy
      have HXY : Hid (x = 0) := hxy
      clear HF hxy
      go_wp2
      go_round
      case rel => exact ⟨k - 1, by omega, by go_num, HG⟩
      case measure => simp [intOf]; omega
     ·have hq : ((x : Int) != 0) = true := by simp; omega
      have HG : Hid (decide (vL b < vL a) = decide (0 < x)) := HF.out.1 hxy
      have HXY : Hid (¬ x = 0) := hxy
      clear HF hxy
      go_wp2
      go_ret
      exact ⟨ret_bool (by rw [HG.out, decide_eq_decide] <;> omega), rfl⟩
 ·intro hle hNe
  subst hNe
  clear hstart hN
  go_enter Tryz.func127, Tryz.ntmps127
  go_wp2
  go_loop [5] (fun y => ∃ k : Nat, k ≤ N ∧ y = .int .i64 ((k : Int) - 1) ∧ Hid (∀ j, k ≤ j → j < N → dg a j = dg b j)) (fun y => (intOf y + 1).toNat)
  case atStart => exact ⟨N, Nat.le_refl _, by go_num, fun j h1 h2 => by omega⟩
  case round =>
   obtain ⟨k, hk, rfl, HE⟩ := hrel
   by_cases h0 : k = 0
   ·subst h0
    have HF : Hid (decide (vL b < vL a) = false) := by
     show _ = _
     rw [decide_eq_false_iff_not, ← HVa.out, ← HVb.out, vTo_congr (fun i hi => HE.out i (Nat.zero_le _) hi)]
     omega
    go_wp2
    go_ret
    exact ⟨ret_bool HF.out.symm, rfl⟩
   ·have hto : ((k : Int) - 1).toNat = k - 1 := by omega
    have hk0 : (0 : Int) ≤ (k : Int) - 1 := by omega
    have HNE : Hid (dg a (k - 1) ≠ dg b (k - 1) → decide (vL b < vL a) = decide (dg b (k - 1) < dg a (k - 1))) := fun hne => by
     rw [decide_eq_decide, ← HVa.out, ← HVb.out]
     exact (vTo_above (i := k - 1) (by omega) da.at db.at (fun j h1 h2 => HE.out j (by omega) h2) hne).symm
    have HEQ : Hid (dg a (k - 1) = dg b (k - 1) → ∀ j, k - 1 ≤ j → j < N → dg a j = dg b j) := fun he j h1 h2 => by
     by_cases e : j = k - 1
     ·rw [e]; exact he
     ·exact HE.out j (by omega) h2
    clear HE
    have fin : ∀ x y : Nat, dg a (k - 1) = x → dg b (k - 1) = y → Hid ((x ≠ y → decide (vL b < vL a) = decide (y < x)) ∧ (x = y → ∀ j, k - 1 ≤ j → j < N → dg a j = dg b j)) := by
     rintro x y rfl rfl
     exact ⟨HNE.out, HEQ.out⟩
    clear HNE HEQ
    have hk1 : (k : Int) - 1 < (N : Int) := by omega
    obtain ⟨b1, o1, rfl, hb1, hc1⟩ := hb.hcell (by omega)
    have hd1 := hc1 (k - 1) (by omega)
    clear hc1
    rw [nI_dg] at hd1
    by_cases hjo : k - 1 < la
    ·obtain ⟨b2, o2, rfl, hb2, hc2⟩ := ha.hcell (by omega)
     have hd2 := hc2 (k - 1) hjo
     clear hc2
     rw [nI_dg] at hd2
     have hk2 : (k : Int) - 1 < (la : Int) := by omega
     have HF := fin _ _ rfl rfl
     clear fin
     generalize hxa : dg a (k - 1) = x at *
     generalize hya : dg b (k - 1) = y at *
     clear hxa hya
     by_cases hxy : x = y
     ·have hq : ((x : Int) != (y : Int)) = false := by simp; omega
      have HG : Hid (∀ j, k - 1 ≤ j → j < N → dg a j = dg b j) := HF.out.2 hxy
      have HXY : Hid (x = y) := hxy
      clear HF hxy
      go_wp2
      go_round
      case rel => exact ⟨k - 1, by omega, by go_num, HG⟩
      case measure => simp [intOf]; omega
     ·have hq : ((x : Int) != (y : Int)) = true := by simp; omega
      have HG : Hid (decide (vL b < vL a) = decide (y < x)) := HF.out.1 hxy
      have HXY : Hid (¬ x = y) := hxy
      clear HF hxy
      go_wp2
      go_ret
      exact ⟨ret_bool (by rw [HG.out, decide_eq_decide] <;> omega), rfl⟩
    ·have hz : dg a (k - 1) = 0 := dg_past (by rw [HA.out]; omega)
     have hk2 : ¬ (k : Int) - 1 < (la : Int) := by omega
     have HF := fin 0 _ hz rfl
     clear fin hz
     generalize hya : dg b (k - 1) = y at *
     clear hya
     by_cases hxy : 0 = y
     ·have hq : (0 != (y : Int)) = false := by simp; omega
      have HG : Hid (∀ j, k - 1 ≤ j → j < N → dg a j = dg b j) := HF.out.2 hxy
      have HXY : Hid (0 = y) := hxy
      clear HF hxy
      go_wp2
      go_round
      case rel => exact ⟨k - 1, by omega, by go_num, HG⟩
      case measure => simp [intOf]; omega
     ·have hq : (0 != (y : Int)) = true := by simp; omega
      have HG : Hid (decide (vL b < vL a) = decide (y < 0)) := HF.out.1 hxy
      have HXY : Hid (¬ 0 = y) := hxy
      clear HF hxy
      go_wp2
      go_ret
      exact ⟨ret_bool (by rw [HG.out, decide_eq_decide] <;> omega), rfl⟩
end Go.Proofs.YthangiocheodoaaGreatDoor

/-
 Layer 13's reference: Primes, Start, Rounds.
-/
namespace Go.Proofs.YthangiocheodoaaGreatDoor
open Go.RowKit
set_option linter.unusedVariables false
set_option maxRecDepth 8192

theorem apartR_take (p : Nat) (l : List Nat) (k : Nat) (hk : k < l.length) : apartR p (l.take (k + 1)) = (apartR p (l.take k) && !(Nat.beq (p % l[k]?.getD 0) 0)) := by
 unfold apartR
 rw [List.take_add_one, List.getElem?_eq_getElem hk, List.all_append]
 simp
set_option maxHeartbeats 1600000 in
theorem refPrimes_yes (n : Nat) (w : World) (hn : n ≤ 100) : Calls Tryz.prog 88 #[.int .i64 (n : Int)] w fun e w' =>
  ∃ v, e = .returned v ∧ w'.ownsRow w.heap.size 3 1 v n ((nI (prL.take n)).map (Value.int .i64)) ∧ Below w.heap.size w w' := by
 obtain ⟨i0, hi0, hz0, hz1, hz2⟩ := info_parts Tryz.info3
 go_enter Tryz.func88, Tryz.ntmps88
 go_wp2
 go_loopw [3, 4] (fun v y wr => ∃ p : Nat, 2 ≤ p ∧ p ≤ 542 ∧ y = .int .i64 (p : Int) ∧ Hid ((prTo p).length ≤ n) ∧ Hid (wr.ownsRow w.heap.size 3 1 v (prTo p).length ((nI (prTo p)).map (Value.int .i64))) ∧ Hid (Below w.heap.size w wr)) (fun _ y _ => 543 - (intOf y).toNat)
 case atStart => exact ⟨2, by omega, by omega, rfl, by rw [prTo_two]; exact Nat.zero_le _, by rw [prTo_two]; exact World.ownsRow_nil _ _ _ _, Below.refl _ _⟩
 case round =>
  obtain ⟨p, hp2, hp5, rfl, HL, HO, HB⟩ := hrel
  have hsz : w.heap.size ≤ wr.heap.size := HB.out.size
  obtain ⟨a, cap, rfl, hrow⟩ := row_of_owns HO.out
  by_cases hlt : (prTo p).length < n
  ·have hp1 : p ≤ 541 := prTo_few hn hlt
   have hnx := prTo_next p hp2 hp1
   have hlL : (prTo p).length ≤ 100 := by omega
   have HN : Hid (prTo (p + 1) = (if apartR p (prTo p) = true then prTo p ++ [p] else prTo p)) := by show _ = _; rw [hnx.2]; exact hnx.1
   clear hnx
   have hmem : ∀ i, i < (prTo p).length → 0 < (prTo p)[i]?.getD 0 ∧ (prTo p)[i]?.getD 0 < 542 := fun i hi => by rw [List.getElem?_eq_getElem hi]; exact prTo_mem (List.getElem_mem hi)
   have HM : Hid (∀ i, i < (prTo p).length → 0 < (prTo p)[i]?.getD 0 ∧ (prTo p)[i]?.getD 0 < 542) := hmem
   clear hmem
   have HT : Hid (∀ k, k < (prTo p).length → apartR p ((prTo p).take (k + 1)) = (apartR p ((prTo p).take k) && !(Nat.beq (p % (prTo p)[k]?.getD 0) 0))) := fun k hk => apartR_take p (prTo p) k hk
   have HA : Hid (apartR p ((prTo p).take (prTo p).length) = apartR p (prTo p)) := by show _ = _; rw [List.take_length]
   have HLT : Hid ((prTo p).length < n) := hlt
   obtain ⟨wo, hwo⟩ : ∃ x, x = wr := ⟨_, rfl⟩
   subst hwo
   generalize hLL : (prTo p).length = L at *
   go_wp2
   go_loopw [5, 6] (fun b y ws => ∃ k : Nat, k ≤ L ∧ y = .int .i64 (k : Int) ∧ b = .bool (apartR p ((prTo p).take k)) ∧ ws = wo) (fun _ y _ => L - (intOf y).toNat)
   case atStart => exact ⟨0, Nat.zero_le _, rfl, rfl, rfl⟩
   case round =>
    obtain ⟨k, hk, rfl, rfl, rfl⟩ := hrel
    by_cases hkl : k < L
    ·obtain ⟨b, off, rfl, hbs, hcell⟩ := hrow.hcell (by omega)
     have hc1 := hcell k hkl
     clear hcell
     rw [nI_get] at hc1
     have hq := HM.out k hkl
     have HT1 := HT.out k hkl
     have HT2 : Hid (apartR p ((prTo p).take (k + 1)) = (apartR p ((prTo p).take k) && !(Nat.beq (p % (prTo p)[k]?.getD 0) 0))) := HT1
     clear HT1
     generalize (prTo p)[k]?.getD 0 = q at *
     have hmod : (p : Int).tmod (q : Int) = ((p % q : Nat) : Int) := (Int.ofNat_tmod p q).symm
     have hml : p % q < q := Nat.mod_lt _ hq.1
     have hbq : (!(Nat.beq (p % q) 0)) = (((p % q : Nat) : Int) != 0) := by
      rw [Bool.eq_iff_iff]
      simp only [Bool.not_eq_true', bne_iff_ne, ne_eq]
      rw [← Bool.not_eq_true, Nat.beq_eq]
      omega
     rw [hbq] at HT2
     clear hbq
     generalize p % q = m at *
     have hq0 : ¬ (q : Int) = 0 := by omega
     generalize hbb : apartR p ((prTo p).take k) = bb at *
     clear hbb
     cases bb
     all_goals
      go_wp2
      go_roundw
      case rel => exact ⟨k + 1, by omega, by go_num, by rw [HT2.out]; simp, by first | trivial | rfl⟩
      case measure => simp [intOf]; omega
    ·obtain rfl : k = L := by omega
     rw [HA.out]
     cases h : apartR p (prTo p)
     ·have HE : Hid (prTo (p + 1) = prTo p) := by show _ = _; rw [HN.out, h]; rfl
      go_wp2
      go_roundw
      case rel =>
       refine ⟨p + 1, by omega, by omega, by go_num, ?_, ?_, HB⟩
       ·rw [HE.out, hLL]; exact HL
       ·rw [HE.out, hLL]; exact HO
      case measure => simp [intOf]; omega
     ·have HE : Hid (prTo (p + 1) = prTo p ++ [p]) := by show _ = _; rw [HN.out, h]; rfl
      have hown := HO.out
      go_wp2_with (at_builtin; refine wpList_append_own _ rfl _ _ 111 rfl w.heap.size 3 i0 (.int .i64 0) 1 8 Tryz.underlying111 hi0 hz0 hz1 hz2 rfl (by decide) _ _ _ rfl (hown.alloc _) ⟨_, 0, none⟩ 1 1 [.int .i64 (p : Int)] rfl rfl (cell_one_new _ _ _) (by intro u hu; simp at hu; subst hu; rfl) (by unfold maxLen; omega) (by omega) (by simp; omega) ?_)
      intro v' w1 hown' hgrow _
      have R := rel_push hsz hown HB.out hown' hgrow
      rw [← nI_snoc, ← HE.out] at R
      have hLn : (prTo (p + 1)).length = k + 1 := by rw [HE.out]; simp [hLL]
      clear hown' hgrow
      go_wp2
      go_roundw
      case rel =>
       refine ⟨p + 1, by omega, by omega, by go_num, ?_, ?_, R.2⟩
       ·rw [hLn]; have := HLT.out; show k + 1 ≤ n; omega
       ·rw [hLn]; exact R.1
      case measure => simp [intOf]; omega
  ·have e1 : (prTo p).length = n := by have := HL.out; omega
   have HT : Hid (prTo p = prL.take n) := by show _ = _; rw [prTo_take p hp2 hp5, e1]
   have hown := HO.out
   rw [HT.out, List.length_take, prL_length, Nat.min_eq_left hn] at hown
   rw [e1] at *
   go_wp2
   go_ret
   exact ⟨_, rfl, hown, HB.out⟩
theorem prL_take_get (n i : Nat) (h : i < n) : (prL.take n)[i]?.getD 0 = prL[i]?.getD 0 := by rw [List.getElem?_take, if_pos h]
theorem prL_get_lt (i : Nat) : prL[i]?.getD 0 < 542 := by
 rcases Nat.lt_or_ge i prL.length with h | h
 ·rw [List.getElem?_eq_getElem h]; exact prL_lt _ (List.getElem_mem h)
 ·rw [List.getElem?_eq_none h]; decide
theorem map_take_get (f : Nat → Nat) (n i : Nat) (L : List Nat) (h : (prL.take n).map f = L) (hn : n ≤ 100) (hi : i < n) : L[i]?.getD 0 = f (prL[i]?.getD 0) := by
 have hl : i < prL.length := by rw [prL_length]; omega
 rw [← h, List.getElem?_map, List.getElem?_take, if_pos hi, List.getElem?_eq_getElem hl]
 rfl
theorem take_snocN (ps : List Nat) (k : Nat) (h : k < ps.length) : ps.take (k + 1) = ps.take k ++ [ps[k]?.getD 0] := by
 rw [List.take_add_one, List.getElem?_eq_getElem h]; rfl
end Go.Proofs.YthangiocheodoaaGreatDoor

/-
 The code of layer 13 (sha256): root, Start, Rounds: arrays by value.
-/
namespace Go.Proofs.YthangiocheodoaaGreatDoor
open Go.RowKit
set_option linter.unusedVariables false
set_option maxRecDepth 8192

/-- The block g is an array of numbers. -/
def Arr (w : World) (g : Nat) (T : TypeId) (k : IntKind) (zs : List Int) : Prop := w.heap[g]? = some (.cells (zs.map (Value.int k)).toArray T (0, 0))
theorem Arr.lt {w : World} {g : Nat} {T : TypeId} {k : IntKind} {zs : List Int} (h : Arr w g T k zs) : g < w.heap.size := by
 unfold Arr at h
 rcases Nat.lt_or_ge g w.heap.size with h' | h'
 ·exact h'
 ·rw [Array.getElem?_eq_none h'] at h; simp at h
theorem Arr.cell {w : World} {g : Nat} {T : TypeId} {k : IntKind} {zs : List Int} (h : Arr w g T k zs) (i : Nat) (hi : i < zs.length) : w.cell? ⟨g, i, none⟩ = some (.int k (zs[i]?.getD 0)) := by
 rw [cell_of_row w g i _ T (0, 0) h]
 simp [List.getElem?_map, List.getElem?_eq_getElem hi]
theorem Arr.unfrozen {w : World} {g : Nat} {T : TypeId} {k : IntKind} {zs : List Int} (h : Arr w g T k zs) (i : Nat) : w.frozen? ⟨g, i, none⟩ = false := by
 unfold Arr at h; simp [World.frozen?, h]
theorem Arr.new (w : World) (T : TypeId) (k : IntKind) (zs : List Int) (cs : Array Value) (hc : cs = (zs.map (Value.int k)).toArray) : Arr (w.alloc (.cells cs T)) w.heap.size T k zs := by
 subst hc; exact heap_alloc_last w _
theorem Arr.alloc {w : World} {g : Nat} {T : TypeId} {k : IntKind} {zs : List Int} (h : Arr w g T k zs) (o : Obj) : Arr (w.alloc o) g T k zs := by
 unfold Arr; rw [Below.heap_alloc w o g h.lt]; exact h
theorem Arr.below {w w' : World} {g B : Nat} {T : TypeId} {k : IntKind} {zs : List Int} (h : Arr w g T k zs) (hb : Below B w w') (hg : g < B) : Arr w' g T k zs := by
 unfold Arr; rw [hb.block g hg]; exact h
theorem Arr.drewN {w : World} {g : Nat} {T : TypeId} {k : IntKind} {zs : List Int} (h : Arr w g T k zs) (n : Nat) : Arr (w.drewN n) g T k zs := h
theorem Arr.other {w : World} {g : Nat} {T : TypeId} {k : IntKind} {zs : List Int} (h : Arr w g T k zs) (a : Addr) (v : Value) (hne : g ≠ a.block) : Arr (w.setCell a v) g T k zs := by
 unfold Arr; rw [Below.heap_setCell w a v g hne]; exact h
theorem Arr.own {w : World} {g : Nat} {T : TypeId} {k : IntKind} {zs : List Int} (h : Arr w g T k zs) (hm : zs.length ≤ maxLen) : w.ownsRow g T 1 (.slice (some ⟨g, 0, none⟩) zs.length zs.length) zs.length (zs.map (Value.int k)) :=
 owns_of_heap h (by simp) (Nat.le_refl _) hm
theorem Arr.set {w : World} {g : Nat} {T : TypeId} {k : IntKind} {zs : List Int} (h : Arr w g T k zs) (hm : zs.length ≤ maxLen) (i : Nat) (x : Int) : Arr (w.setCell ⟨g, i, none⟩ (.int k x)) g T k (zs.set i x) := by
 have h1 := ((h.own hm).stored i (.int k x)).1
 rw [← List.map_set] at h1
 exact heap_of_owns h1
theorem Arr.whole {w : World} {g : Nat} {T : TypeId} {k : IntKind} {zs : List Int} (h : Arr w g T k zs) (ys : List Int) : Arr (w.setRow g (ys.map (Value.int k)).toArray) g T k ys := setRow_heap w g _ _ T (0, 0) h
theorem Arr.whole_other {w : World} {g g' : Nat} {T : TypeId} {k : IntKind} {zs : List Int} (h : Arr w g T k zs) (cs : Array Value) (hne : g ≠ g') : Arr (w.setRow g' cs) g T k zs := by
 unfold Arr; rw [setRow_other w g' g cs hne]; exact h
theorem Arr.row {w : World} {g : Nat} {T : TypeId} {k : IntKind} {zs : List Int} (h : Arr w g T k zs) (hm : zs.length ≤ maxLen) (n : Nat) (hn : zs.length = n) : Row k w (some ⟨g, 0, none⟩) n n zs := by
 subst hn
 obtain ⟨a, c, e, r⟩ := row_of_owns (h.own hm)
 simp only [Value.slice.injEq, true_and] at e
 obtain ⟨rfl, rfl⟩ := e
 exact r
theorem ints_one (k : IntKind) (zs : List Int) : ((zs.map (Value.int k)).toArray).all (·.oneCell') = true := all_oneCell_toArray (by intro v hv; obtain ⟨z, _, rfl⟩ := List.mem_map.1 hv; rfl)
theorem wpList_loadA {P : Program} {ops : Array Oper} {rest : List Oper} {o : Oper} {a : Act} {w : World} {Q : Exit → Act → World → Prop} (hgd : o.guard = none) (ty : TypeId) (x : Operand) (ho : o.op = .load ty x)
  (g : Nat) (hx : a.eval x = .pointer (some ⟨g, 0, none⟩)) {T : TypeId} {k : IntKind} {zs : List Int} (hA : Arr w g T k zs) {n : Nat} {e : TypeId} (hu : P.underlying ty = some (.array n e)) {m : Nat} (hi : (P.info? ty).map (·.size) = some m) (hl : zs.length = m)
  (h : wpList P ops Q rest (a.put o.dst (.agg (zs.map (Value.int k)).toArray)) w) : wpList P ops Q (o :: rest) a w :=
 wpList_load_row hgd ty x ho g hx T _ (0, 0) _ hA hu rfl (by rw [hi]; simp [hl]) h
theorem wpList_storeA {P : Program} {ops : Array Oper} {rest : List Oper} {o : Oper} {a : Act} {w : World} {Q : Exit → Act → World → Prop} (hgd : o.guard = none) (ty : TypeId) (x y : Operand) (ho : o.op = .store ty x y)
  (g : Nat) {k : IntKind} (ys : List Int) (hx : a.eval x = .pointer (some ⟨g, 0, none⟩)) (hy : a.eval y = .agg (ys.map (Value.int k)).toArray) {T : TypeId} {zs : List Int} (hA : Arr w g T k zs) {m : Nat} (hi : (P.info? ty).map (·.size) = some m) (hl : zs.length = m) (hl2 : ys.length = m)
  (h : wpList P ops Q rest (a.put o.dst undef) (w.setRow g (ys.map (Value.int k)).toArray)) : wpList P ops Q (o :: rest) a w :=
 wpList_store_row hgd ty x y ho g _ hx hy T _ hA (by rw [hi]; simp [hl2]) (by simp [hl, hl2]) (ints_one k ys) h
theorem resA {P : Program} {fn : Func} {p : Tmp} {ty : TypeId} (h : fn.results = #[.cell p ty]) (tmps : Array Value) (w : World) (g : Nat) (hp : tmps.getD p undef = .pointer (some ⟨g, 0, none⟩)) {T : TypeId} {k : IntKind} {zs : List Int} (hA : Arr w g T k zs)
  {n : Nat} {e : TypeId} (hu : P.underlying ty = some (.array n e)) {m : Nat} (hi : (P.info? ty).map (·.size) = some m) (hl : zs.length = m) : (results fn tmps).run P w = .ok (.agg (zs.map (Value.int k)).toArray) w :=
 results_cell_row h tmps w g T _ (0, 0) _ hp hA hu rfl (by rw [hi]; simp [hl])
/-- What is laid into an array from the front on, noughts behind it. -/
def fillL (L : List Nat) (n k : Nat) : List Nat := L.take k ++ List.replicate (n - k) 0
theorem fillL_length {L : List Nat} {n k : Nat} (hL : L.length = n) (hk : k ≤ n) : (fillL L n k).length = n := by simp [fillL]; omega
theorem fillL_zero (L : List Nat) (n : Nat) : fillL L n 0 = List.replicate n 0 := by simp [fillL]
theorem fillL_full {L : List Nat} {n : Nat} (hL : L.length = n) : fillL L n n = L := by simp [fillL, List.take_of_length_le (show L.length ≤ n by omega)]
theorem fillL_next {L : List Nat} {n k : Nat} (hL : L.length = n) (hk : k < n) : (fillL L n k).set k (L[k]?.getD 0) = fillL L n (k + 1) := by
 unfold fillL
 have hl : (L.take k).length = k := by simp; omega
 rw [List.set_append_right _ _ (by omega), hl, Nat.sub_self, take_snocN L k (by omega), show n - k = (n - (k + 1)) + 1 from by omega, List.replicate_succ, List.set_cons_zero, List.append_assoc]
 rfl
end Go.Proofs.YthangiocheodoaaGreatDoor
