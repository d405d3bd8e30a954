/-
  Layer 13, in plain words: primes, and the first bits behind the point of their roots: the numbers, held against the loops of the code and of the document.
-/
import Derived.Test.YthcnnglpncblaaaShaPlain
namespace Go.Proofs.Ythcnnglpncblaaa
set_option linter.unusedVariables false
set_option maxRecDepth 8192

/-- The first hundred primes. -/
def prL : List Nat := [2, 3, 5, 7, 11, 13, 17, 19, 23, 29, 31, 37, 41, 43, 47, 53, 59, 61, 67, 71, 73, 79, 83, 89, 97, 101, 103, 107, 109, 113, 127, 131, 137, 139, 149, 151, 157, 163, 167, 173, 179, 181, 191, 193, 197, 199, 211, 223, 227, 229, 233, 239, 241, 251, 257, 263, 269, 271, 277, 281, 283, 293, 307, 311, 313, 317, 331, 337, 347, 349, 353, 359, 367, 373, 379, 383, 389, 397, 401, 409, 419, 421, 431, 433, 439, 443, 449, 457, 461, 463, 467, 479, 487, 491, 499, 503, 509, 521, 523, 541]
/-- The first 32 bits behind the point of the cube roots of the first 64. -/
def KL : List Nat := [1116352408, 1899447441, 3049323471, 3921009573, 961987163, 1508970993, 2453635748, 2870763221, 3624381080, 310598401, 607225278, 1426881987, 1925078388, 2162078206, 2614888103, 3248222580, 3835390401, 4022224774, 264347078, 604807628, 770255983, 1249150122, 1555081692, 1996064986, 2554220882, 2821834349, 2952996808, 3210313671, 3336571891, 3584528711, 113926993, 338241895, 666307205, 773529912, 1294757372, 1396182291, 1695183700, 1986661051, 2177026350, 2456956037, 2730485921, 2820302411, 3259730800, 3345764771, 3516065817, 3600352804, 4094571909, 275423344, 430227734, 506948616, 659060556, 883997877, 958139571, 1322822218, 1537002063, 1747873779, 1955562222, 2024104815, 2227730452, 2361852424, 2428436474, 2756734187, 3204031479, 3329325298]
/-- Of the square roots of the first 8. -/
def SL : List Nat := [1779033703, 3144134277, 1013904242, 2773480762, 1359893119, 2600822924, 528734635, 1541459225]
def S0 : S8 := ⟨1779033703, 3144134277, 1013904242, 2773480762, 1359893119, 2600822924, 528734635, 1541459225⟩

/-- Those below p. -/
def prTo (p : Nat) : List Nat := prL.filter (fun q => Nat.blt q p)
/-- As the code asks. -/
def apartP (p : Nat) : List Nat → Bool
  | [] => true
  | q :: l => bif Nat.blt p (q * q) then true else bif Nat.beq (p % q) 0 then false else apartP p l
/-- As the document asks. -/
def apartR (p : Nat) (l : List Nat) : Bool := l.all (fun q => !(Nat.beq (p % q) 0))
def chk13 (p : Nat) : Bool :=
  (prTo (p + 1) == (bif prL.contains p then prTo p ++ [p] else prTo p)) && (apartP p (prTo p) == prL.contains p) && (apartR p (prTo p) == prL.contains p) && (prTo p == prL.take (prTo p).length)
theorem chk13_all : ((List.range 541).all (fun i => chk13 (i + 2))) = true := by decide +kernel
theorem chk13_at (p : Nat) (h2 : 2 ≤ p) (hp : p ≤ 542) : chk13 p = true := by
  have h := List.all_eq_true.1 chk13_all (p - 2) (List.mem_range.2 (by omega))
  rwa [show p - 2 + 2 = p from by omega] at h
theorem prTo_all (p : Nat) (h : 542 ≤ p) : prTo p = prL := by
  unfold prTo
  rw [List.filter_eq_self]
  intro x hx
  have h1 : ∀ x ∈ prL, x < 542 := by decide +kernel
  have := h1 x hx
  rw [Nat.blt_eq]; omega
theorem prL_length : prL.length = 100 := by decide +kernel
theorem prTo_two : prTo 2 = [] := by decide +kernel
theorem prTo_few {p n : Nat} (hn : n ≤ 100) (h : (prTo p).length < n) : p ≤ 541 := by
  rcases Nat.lt_or_ge p 542 with h1 | h1
  · omega
  · rw [prTo_all p h1, prL_length] at h; omega
theorem prTo_next (p : Nat) (h2 : 2 ≤ p) (hp : p ≤ 541) : prTo (p + 1) = (if apartP p (prTo p) = true then prTo p ++ [p] else prTo p) ∧ apartR p (prTo p) = apartP p (prTo p) := by
  have h := chk13_at p h2 (by omega)
  unfold chk13 at h
  simp only [Bool.and_eq_true, beq_iff_eq] at h
  obtain ⟨⟨⟨h1, h3⟩, h4⟩, _⟩ := h
  rw [h3, h4]
  refine ⟨?_, rfl⟩
  rw [h1]
  cases prL.contains p <;> rfl
theorem prTo_take (p : Nat) (h2 : 2 ≤ p) (hp : p ≤ 542) : prTo p = prL.take (prTo p).length := by
  have h := chk13_at p h2 hp
  unfold chk13 at h
  simp only [Bool.and_eq_true, beq_iff_eq] at h
  exact h.2
theorem prL_lt : ∀ x ∈ prL, x < 542 := by decide +kernel
theorem prL_pos : ∀ x ∈ prL, 0 < x := by decide +kernel
theorem prTo_mem {p x : Nat} (h : x ∈ prTo p) : 0 < x ∧ x < 542 := by
  unfold prTo at h
  have := (List.mem_filter.1 h).1
  exact ⟨prL_pos x this, prL_lt x this⟩

/-- The code's root: of bits from the highest on those that keep the power's top below the limit. -/
def rtTo (f : Nat → Nat) (lim : Nat) : Nat → Nat
  | 0 => 0
  | k + 1 => bif Nat.blt (f (rtTo f lim k ||| 2 ^ (34 - k))) lim then rtTo f lim k ||| 2 ^ (34 - k) else rtTo f lim k
def sqT (r : Nat) : Nat := r * r / 18446744073709551616
def cbT (r : Nat) : Nat := (r * r / 18446744073709551616 * r + r * r % 18446744073709551616 * r / 18446744073709551616) % 18446744073709551616
theorem rtTo_lt (f : Nat → Nat) (lim k : Nat) : rtTo f lim k < 34359738368 := by
  induction k with
  | zero => simp [rtTo]
  | succ k ih =>
    unfold rtTo
    have h1 : rtTo f lim k ||| 2 ^ (34 - k) < 2 ^ 35 := Nat.or_lt_two_pow ih (Nat.pow_lt_pow_right (by decide) (by omega))
    cases Nat.blt (f (rtTo f lim k ||| 2 ^ (34 - k))) lim
    · exact ih
    · exact h1
/-- The document's root. -/
def frTo (pw lim : Nat) : Nat → Nat
  | 0 => 0
  | k + 1 => bif Nat.blt lim ((frTo pw lim k + 2 ^ (38 - k)) ^ pw) then frTo pw lim k else frTo pw lim k + 2 ^ (38 - k)
theorem frTo_lt (pw lim k : Nat) (hk : k ≤ 39) : frTo pw lim k + 2 ^ (39 - k) ≤ 549755813888 := by
  induction k with
  | zero => simp [frTo]
  | succ k ih =>
    have := ih (by omega)
    have e : 2 ^ (39 - k) = 2 ^ (38 - k) * 2 := by rw [← Nat.pow_succ]; congr 1; omega
    have e2 : 39 - (k + 1) = 38 - k := by omega
    rw [e2]
    unfold frTo
    have hp : 0 < 2 ^ (38 - k) := Nat.two_pow_pos _
    cases Nat.blt lim ((frTo pw lim k + 2 ^ (38 - k)) ^ pw)
    · show frTo pw lim k + 2 ^ (38 - k) + 2 ^ (38 - k) ≤ _; omega
    · show frTo pw lim k + 2 ^ (38 - k) ≤ _; omega
theorem SL_code : (prL.take 8).map (fun p => rtTo sqT p 35 % 4294967296) = SL := by decide +kernel
theorem KL_code : (prL.take 64).map (fun p => rtTo cbT (p * 4294967296) 35 % 4294967296) = KL := by decide +kernel
theorem SL_doc : (prL.take 8).map (fun p => frTo 2 (p * 18446744073709551616) 39 % 4294967296) = SL := by decide +kernel
theorem KL_doc : (prL.take 64).map (fun p => frTo 3 (p * 79228162514264337593543950336) 39 % 4294967296) = KL := by decide +kernel
theorem KL_length : KL.length = 64 := by decide +kernel
theorem KL_lt : ∀ x ∈ KL, x < 4294967296 := by decide +kernel
theorem S0_ok : S0.Ok := by constructor <;> decide +kernel
theorem S0_list : S0.list = SL := by decide +kernel

/-- The chapter's example. -/
theorem abc_sum : (sumL KL S0 [97, 98, 99])[0]?.getD 0 = 186 ∧ (sumL KL S0 [97, 98, 99])[1]?.getD 0 = 120 ∧ (sumL KL S0 [97, 98, 99])[31]?.getD 0 = 173 := by decide +kernel
end Go.Proofs.Ythcnnglpncblaaa
