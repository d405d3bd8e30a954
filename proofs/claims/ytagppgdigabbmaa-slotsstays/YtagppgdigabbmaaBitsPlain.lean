/-
  The plain mathematics of bits of bytes (lists of integers from 0 to 255): no program text is imported here.
-/
namespace Go.Proofs.Ytagppgdigabbmaa

/-- The bit of weight 2^k of c. -/
def bitAt (c : Int) (k : Nat) : Int := c / 2 ^ k % 2
/-- The bit i of a row of bytes. -/
def bitI (z : List Int) (i : Nat) : Int := bitAt (z[i / 8]?.getD 0) (i % 8)
/-- All numbers are bytes. -/
def IsB (z : List Int) : Prop := ∀ n ∈ z, 0 ≤ n ∧ n ≤ 255
/-- The bit k of c turned. -/
def flipB (c : Int) (k : Nat) : Int := if bitAt c k = 1 then c - 2 ^ k else c + 2 ^ k
def turn1 (z : List Int) (p : Nat) : List Int := z.set (p / 8) (flipB (z[p / 8]?.getD 0) (p % 8))
def turnI (z : List Int) (ps : List Int) : List Int := ps.foldl (fun z p => turn1 z p.toNat) z
/-- Is i met an odd number of times? -/
def oddN (ps : List Int) (i : Nat) : Bool := ps.foldl (fun b p => if p.toNat = i then !b else b) false
/-- The bits, up to n, in which two rows are unlike. -/
def apartTo (a b : List Int) (n : Nat) : List Int := ((List.range n).filter fun j => bitI a j != bitI b j).map Int.ofNat
/-- The bits up to n. -/
def bitsTo (z : List Int) (n : Nat) : List Int := (List.range n).map (bitI z)
/-- How many of the first n bits are 1. -/
def onesTo (z : List Int) (n : Nat) : Int := ((List.range n).map (bitI z)).sum
/-- All places are there. -/
def inAll (n : Nat) (ps : List Int) : Prop := ∀ p ∈ ps, 0 ≤ p ∧ p < 8 * (n : Int)

theorem bitAt_01 (c : Int) (k : Nat) : bitAt c k = 0 ∨ bitAt c k = 1 := by unfold bitAt; omega
theorem bitI_01 (z : List Int) (i : Nat) : bitI z i = 0 ∨ bitI z i = 1 := bitAt_01 _ _

theorem fin_flip_same : ∀ c : Fin 256, ∀ k : Fin 8, bitAt (flipB (c.val : Int) k.val) k.val = 1 - bitAt (c.val : Int) k.val := by decide +kernel
theorem fin_flip_other : ∀ c : Fin 256, ∀ k : Fin 8, ∀ j : Fin 8, j ≠ k → bitAt (flipB (c.val : Int) k.val) j.val = bitAt (c.val : Int) j.val := by decide +kernel
theorem fin_flip_range : ∀ c : Fin 256, ∀ k : Fin 8, 0 ≤ flipB (c.val : Int) k.val ∧ flipB (c.val : Int) k.val ≤ 255 := by decide +kernel
theorem fin_sum : ∀ c : Fin 256, (c.val : Int) = bitAt c.val 0 + 2 * bitAt c.val 1 + 4 * bitAt c.val 2 + 8 * bitAt c.val 3 + 16 * bitAt c.val 4 + 32 * bitAt c.val 5 + 64 * bitAt c.val 6 + 128 * bitAt c.val 7 := by decide +kernel
theorem fin_part : ∀ c : Fin 256, ∀ k : Fin 8, (c.val : Int) % 2 ^ (k.val + 1) = (c.val : Int) % 2 ^ k.val + 2 ^ k.val * bitAt c.val k.val := by decide +kernel

theorem of_fin {P : Int → Prop} (h : ∀ c : Fin 256, P (c.val : Int)) (c : Int) (h0 : 0 ≤ c) (h1 : c ≤ 255) : P c := by
  have := h ⟨c.toNat, by omega⟩
  rwa [show ((c.toNat : Nat) : Int) = c from by omega] at this

theorem flip_same (c : Int) (k : Nat) (h0 : 0 ≤ c) (h1 : c ≤ 255) (hk : k < 8) : bitAt (flipB c k) k = 1 - bitAt c k :=
  of_fin (P := fun c => bitAt (flipB c k) k = 1 - bitAt c k) (fun c => fin_flip_same c ⟨k, hk⟩) c h0 h1
theorem flip_other (c : Int) (k j : Nat) (h0 : 0 ≤ c) (h1 : c ≤ 255) (hk : k < 8) (hj : j < 8) (hne : j ≠ k) : bitAt (flipB c k) j = bitAt c j :=
  of_fin (P := fun c => bitAt (flipB c k) j = bitAt c j) (fun c => fin_flip_other c ⟨k, hk⟩ ⟨j, hj⟩ (by simpa using hne)) c h0 h1
theorem flip_range (c : Int) (k : Nat) (h0 : 0 ≤ c) (h1 : c ≤ 255) (hk : k < 8) : 0 ≤ flipB c k ∧ flipB c k ≤ 255 :=
  of_fin (P := fun c => 0 ≤ flipB c k ∧ flipB c k ≤ 255) (fun c => fin_flip_range c ⟨k, hk⟩) c h0 h1
theorem byte_ext (c d : Int) (h0 : 0 ≤ c) (h1 : c ≤ 255) (g0 : 0 ≤ d) (g1 : d ≤ 255) (h : ∀ k, k < 8 → bitAt c k = bitAt d k) : c = d := by
  have e1 := of_fin (P := fun c => c = bitAt c 0 + 2 * bitAt c 1 + 4 * bitAt c 2 + 8 * bitAt c 3 + 16 * bitAt c 4 + 32 * bitAt c 5 + 64 * bitAt c 6 + 128 * bitAt c 7) fin_sum c h0 h1
  have e2 := of_fin (P := fun c => c = bitAt c 0 + 2 * bitAt c 1 + 4 * bitAt c 2 + 8 * bitAt c 3 + 16 * bitAt c 4 + 32 * bitAt c 5 + 64 * bitAt c 6 + 128 * bitAt c 7) fin_sum d g0 g1
  have := h 0 (by omega); have := h 1 (by omega); have := h 2 (by omega); have := h 3 (by omega); have := h 4 (by omega); have := h 5 (by omega); have := h 6 (by omega); have := h 7 (by omega)
  omega
theorem byte_part (c : Int) (k : Nat) (h0 : 0 ≤ c) (h1 : c ≤ 255) (hk : k < 8) : c % 2 ^ (k + 1) = c % 2 ^ k + 2 ^ k * bitAt c k :=
  of_fin (P := fun c => c % 2 ^ (k + 1) = c % 2 ^ k + 2 ^ k * bitAt c k) (fun c => fin_part c ⟨k, hk⟩) c h0 h1

theorem IsB.idx {z : List Int} (h : IsB z) (i : Nat) : 0 ≤ z[i]?.getD 0 ∧ z[i]?.getD 0 ≤ 255 := by
  by_cases hi : i < z.length
  · rw [List.getElem?_eq_getElem hi]; exact h _ (List.getElem_mem hi)
  · rw [List.getElem?_eq_none (by omega)]; simp

theorem length_turn1 (z : List Int) (p : Nat) : (turn1 z p).length = z.length := by simp [turn1]
theorem length_turnI (z ps : List Int) : (turnI z ps).length = z.length := by
  unfold turnI
  induction ps generalizing z with
  | nil => rfl
  | cons p ps ih => simp only [List.foldl_cons]; rw [ih, length_turn1]

theorem isB_turn1 {z : List Int} (h : IsB z) (p : Nat) : IsB (turn1 z p) := by
  intro n hn
  unfold turn1 at hn
  rcases List.mem_or_eq_of_mem_set hn with hn | rfl
  · exact h n hn
  · exact flip_range _ _ (h.idx _).1 (h.idx _).2 (by omega)
theorem isB_turnI {z : List Int} (h : IsB z) (ps : List Int) : IsB (turnI z ps) := by
  unfold turnI
  induction ps generalizing z with
  | nil => exact h
  | cons p ps ih => exact ih (isB_turn1 h _)

theorem bitI_turn1 {z : List Int} (h : IsB z) (p i : Nat) (hp : p < 8 * z.length) (hi : i < 8 * z.length) : bitI (turn1 z p) i = if p = i then 1 - bitI z i else bitI z i := by
  unfold bitI turn1
  rw [List.getElem?_set]
  by_cases e : p / 8 = i / 8
  · rw [if_pos e, if_pos (by omega)]
    simp only [Option.getD_some]
    by_cases e' : p = i
    · subst e'
      rw [if_pos rfl, flip_same _ _ (h.idx _).1 (h.idx _).2 (by omega)]
    · rw [if_neg e', flip_other _ _ _ (h.idx _).1 (h.idx _).2 (by omega) (by omega) (by omega), e]
  · rw [if_neg e, if_neg (fun e' => e (by rw [e']))]

theorem turnI_snoc (z ps : List Int) (p : Int) : turnI z (ps ++ [p]) = turn1 (turnI z ps) p.toNat := by simp [turnI]
theorem oddN_snoc (ps : List Int) (p : Int) (i : Nat) : oddN (ps ++ [p]) i = if p.toNat = i then !oddN ps i else oddN ps i := by simp [oddN]

theorem take_snoc (ps : List Int) (k : Nat) (h : k < ps.length) : ps.take (k + 1) = ps.take k ++ [ps[k]?.getD 0] := by
  rw [List.take_add_one, List.getElem?_eq_getElem h]; rfl

theorem inAll.idx {n : Nat} {ps : List Int} (h : inAll n ps) (k : Nat) (hk : k < ps.length) : 0 ≤ ps[k]?.getD 0 ∧ ps[k]?.getD 0 < 8 * (n : Int) := by
  rw [List.getElem?_eq_getElem hk]; exact h _ (List.getElem_mem hk)

theorem bitI_turnI {z : List Int} (h : IsB z) (ps : List Int) (hp : inAll z.length ps) (i : Nat) (hi : i < 8 * z.length) :
    bitI (turnI z ps) i = if oddN ps i = true then 1 - bitI z i else bitI z i := by
  have key : ∀ k, k ≤ ps.length → bitI (turnI z (ps.take k)) i = if oddN (ps.take k) i = true then 1 - bitI z i else bitI z i := by
    intro k
    induction k with
    | zero => intro _; simp [turnI, oddN]
    | succ k ih =>
      intro hk
      have ih := ih (by omega)
      have hb := hp.idx k (by omega)
      rw [take_snoc ps k (by omega), turnI_snoc, oddN_snoc, bitI_turn1 (isB_turnI h _) _ _ (by rw [length_turnI]; omega) (by rw [length_turnI]; exact hi), ih]
      by_cases e : (ps[k]?.getD 0).toNat = i
      · rw [if_pos e, if_pos e]
        cases oddN (ps.take k) i
        · simp
        · simp; omega
      · rw [if_neg e, if_neg e]
  have := key ps.length (Nat.le_refl _)
  rwa [List.take_length] at this

theorem bytes_ext {a b : List Int} (ha : IsB a) (hb : IsB b) (hl : a.length = b.length) (h : ∀ i, i < 8 * a.length → bitI a i = bitI b i) : a = b := by
  apply List.ext_getElem hl
  intro j h1 h2
  have e1 : a[j]?.getD 0 = a[j] := by rw [List.getElem?_eq_getElem h1]; rfl
  have e2 : b[j]?.getD 0 = b[j] := by rw [List.getElem?_eq_getElem h2]; rfl
  rw [← e1, ← e2]
  refine byte_ext _ _ (ha.idx j).1 (ha.idx j).2 (hb.idx j).1 (hb.idx j).2 fun k hk => ?_
  have := h (8 * j + k) (by omega)
  unfold bitI at this
  rwa [show (8 * j + k) / 8 = j from by omega, show (8 * j + k) % 8 = k from by omega] at this

theorem onesTo_succ (z : List Int) (n : Nat) : onesTo z (n + 1) = onesTo z n + bitI z n := by simp [onesTo, List.range_succ]
theorem onesTo_zero (z : List Int) : onesTo z 0 = 0 := rfl
theorem onesTo_bd (z : List Int) (n : Nat) : 0 ≤ onesTo z n ∧ onesTo z n ≤ n := by
  induction n with
  | zero => rw [onesTo_zero]; omega
  | succ n ih => rw [onesTo_succ]; have := bitI_01 z n; omega
theorem bitsTo_succ (z : List Int) (n : Nat) : bitsTo z (n + 1) = bitsTo z n ++ [bitI z n] := by simp [bitsTo, List.range_succ]
theorem length_bitsTo (z : List Int) (n : Nat) : (bitsTo z n).length = n := by simp [bitsTo]
theorem bitsTo_at (z : List Int) (n i : Nat) (h : i < n) : (bitsTo z n)[i]?.getD 0 = bitI z i := by simp [bitsTo, h]
theorem apartTo_hit (a b : List Int) (n : Nat) (h : bitI a n ≠ bitI b n) : apartTo a b (n + 1) = apartTo a b n ++ [(n : Int)] := by
  simp [apartTo, List.range_succ, List.filter_append, h]
theorem apartTo_miss (a b : List Int) (n : Nat) (h : bitI a n = bitI b n) : apartTo a b (n + 1) = apartTo a b n := by
  simp [apartTo, List.range_succ, List.filter_append, h]
theorem apartTo_le (a b : List Int) (n : Nat) : (apartTo a b n).length ≤ n := by
  have := List.length_filter_le (fun j => bitI a j != bitI b j) (List.range n)
  simpa [apartTo] using this
theorem mem_apartTo (a b : List Int) (n : Nat) (p : Int) : p ∈ apartTo a b n ↔ 0 ≤ p ∧ p < n ∧ bitI a p.toNat ≠ bitI b p.toNat := by
  simp only [apartTo, List.mem_map, List.mem_filter, List.mem_range, bne_iff_ne]
  constructor
  · rintro ⟨j, ⟨h1, h2⟩, rfl⟩
    exact ⟨by simp, by simpa using h1, by simpa using h2⟩
  · rintro ⟨h0, h1, h2⟩
    exact ⟨p.toNat, ⟨by omega, h2⟩, by simp; omega⟩
theorem inAll_apartTo (a b : List Int) (n : Nat) : inAll n (apartTo a b (8 * n)) := by
  intro p hp
  have := (mem_apartTo a b (8 * n) p).1 hp
  omega

/-- Of a rising list of numbers below n each is met once. -/
theorem oddN_apartTo (a b : List Int) (n i : Nat) : oddN (apartTo a b n) i = (decide (i < n) && (bitI a i != bitI b i)) := by
  induction n with
  | zero => simp [apartTo, oddN]
  | succ n ih =>
    by_cases h : bitI a n = bitI b n
    · rw [apartTo_miss a b n h, ih]
      by_cases e : i = n
      · subst e; simp [h]
      · by_cases l : i < n
        · simp [l, show i < n + 1 from by omega]
        · simp [l, show ¬ i < n + 1 from by omega]
    · rw [apartTo_hit a b n h, oddN_snoc, ih]
      by_cases e : i = n
      · subst e; simp [h]
      · rw [if_neg (by simp; omega)]
        by_cases l : i < n
        · simp [l, show i < n + 1 from by omega]
        · simp [l, show ¬ i < n + 1 from by omega]

/-- What is turned by the list of what is unlike becomes the other. -/
theorem turn_apart {a b : List Int} (ha : IsB a) (hb : IsB b) (hl : a.length = b.length) : turnI a (apartTo a b (8 * a.length)) = b := by
  refine bytes_ext (isB_turnI ha _) hb (by rw [length_turnI]; exact hl) fun i hi => ?_
  rw [length_turnI] at hi
  rw [bitI_turnI ha _ (inAll_apartTo a b a.length) i hi, oddN_apartTo]
  have h1 := bitI_01 a i
  have h2 := bitI_01 b i
  by_cases e : bitI a i = bitI b i
  · simp [e]
  · simp [hi, e]; omega

/-- What is turned twice is as it was. -/
theorem turn_twice {z : List Int} (h : IsB z) (ps : List Int) (hp : inAll z.length ps) : turnI (turnI z ps) ps = z := by
  refine bytes_ext (isB_turnI (isB_turnI h _) _) h (by rw [length_turnI, length_turnI]) fun i hi => ?_
  rw [length_turnI, length_turnI] at hi
  rw [bitI_turnI (isB_turnI h _) ps (by rw [length_turnI]; exact hp) i (by rw [length_turnI]; exact hi), bitI_turnI h ps hp i hi]
  have := bitI_01 z i
  split <;> omega

theorem set_bitsTo {z : List Int} (h : IsB z) (p : Nat) (hp : p < 8 * z.length) : (bitsTo z (8 * z.length)).set p (1 - bitI z p) = bitsTo (turn1 z p) (8 * z.length) := by
  apply List.ext_getElem
  · simp [length_bitsTo]
  · intro i h1 h2
    simp only [List.length_set, length_bitsTo] at h1
    rw [List.getElem_set]
    simp only [bitsTo, List.getElem_map, List.getElem_range]
    rw [bitI_turn1 h p i hp h1]
    by_cases e : p = i
    · subst e; simp
    · simp [e]

/-- What 'Put' holds behind the first i bits. -/
def putTo (z : List Int) (i : Nat) : List Int := (List.range z.length).map fun j => (z[j]?.getD 0) % 2 ^ (min 8 (i - 8 * j))

theorem length_putTo (z : List Int) (i : Nat) : (putTo z i).length = z.length := by simp [putTo]
theorem putTo_zero (z : List Int) : putTo z 0 = List.replicate z.length 0 := by
  apply List.ext_getElem
  · simp [putTo]
  · intro j h1 h2
    simp [putTo, Int.emod_one]
theorem putTo_at (z : List Int) (i j : Nat) (hj : j < z.length) : (putTo z i)[j]?.getD 0 = (z[j]?.getD 0) % 2 ^ (min 8 (i - 8 * j)) := by simp [putTo, hj]
theorem putTo_end {z : List Int} (h : IsB z) : putTo z (8 * z.length) = z := by
  apply List.ext_getElem
  · simp [putTo]
  · intro j h1 h2
    simp only [putTo, List.getElem_map, List.getElem_range]
    rw [show min 8 (8 * z.length - 8 * j) = 8 from by omega]
    have := h.idx j
    rw [List.getElem?_eq_getElem h2] at *
    simp only [Option.getD_some] at *
    omega
theorem putTo_succ {z : List Int} (h : IsB z) (i : Nat) (hi : i < 8 * z.length) : putTo z (i + 1) = (putTo z i).set (i / 8) ((putTo z i)[i / 8]?.getD 0 + 2 ^ (i % 8) * bitI z i) := by
  apply List.ext_getElem
  · simp [putTo]
  · intro j h1 h2
    simp only [length_putTo] at h1
    have e0 := putTo_at z i (i / 8) (by omega)
    rw [List.getElem_set]
    by_cases e : i / 8 = j
    · subst e
      rw [if_pos rfl, e0]
      simp only [putTo, List.getElem_map, List.getElem_range]
      rw [show min 8 (i + 1 - 8 * (i / 8)) = i % 8 + 1 from by omega, show min 8 (i - 8 * (i / 8)) = i % 8 from by omega]
      exact byte_part _ _ (h.idx _).1 (h.idx _).2 (by omega)
    · rw [if_neg e]
      simp only [putTo, List.getElem_map, List.getElem_range]
      rw [show min 8 (i + 1 - 8 * j) = min 8 (i - 8 * j) from by omega]

end Go.Proofs.Ytagppgdigabbmaa
