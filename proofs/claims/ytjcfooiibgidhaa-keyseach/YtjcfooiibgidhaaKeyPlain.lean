/-
  Layer 21, plain: a ring of keys and its bytes.
-/
import Derived.Test.YtjcfooiibgidhaaManPlain
namespace Go.Proofs.Ytjcfooiibgidhaa.N
open Go.RowKit
set_option linter.unusedVariables false
set_option maxRecDepth 8192

/-- A key: its number, its point's bytes, whether it was revoked. -/
structure Ky where
  num : Int
  dig : List Int
  rev : Bool
def zero32 : List Int := List.replicate 32 0
def ky0 : Ky := ⟨0, zero32, false⟩
structure Ky.Ok (k : Ky) : Prop where
  len : k.dig.length = 32
  byt : IsB k.dig
theorem ky0_ok : ky0.Ok := ⟨rfl, fun x hx => by rw [(List.mem_replicate.1 hx).2]; decide⟩
/-- The i-th one. -/
def kyI (l : List Ky) (i : Nat) : Ky := l[i]?.getD ky0
theorem kyI_lt {l : List Ky} {i : Nat} (h : i < l.length) : kyI l i = l[i] := by simp [kyI, List.getElem?_eq_getElem h]
theorem kyI_ok {l : List Ky} (h : ∀ s ∈ l, s.Ok) (i : Nat) : (kyI l i).Ok := by
  rcases Nat.lt_or_ge i l.length with h1 | h1
  · rw [kyI_lt h1]; exact h _ (List.getElem_mem h1)
  · rw [kyI, List.getElem?_eq_none h1]; exact ky0_ok
/-- The number of the key ahead of the i-th. -/
def lastAt (l : List Ky) : Nat → Int
  | 0 => -1
  | i + 1 => (kyI l i).num
def kOkAt (l : List Ky) (i : Nat) : Bool := decide (lastAt l i < (kyI l i).num ∧ (kyI l i).num ≤ 2147483647)
def kOkTo (l : List Ky) (k : Nat) : Bool := (List.range k).all (kOkAt l)
theorem kOkTo_succ (l : List Ky) (k : Nat) : kOkTo l (k + 1) = (kOkTo l k && kOkAt l k) := by simp [kOkTo, List.range_succ]
theorem kOkTo_le {l : List Ky} {j k : Nat} (h : kOkTo l k = true) (hj : j < k) : kOkAt l j = true := by
  unfold kOkTo at h
  exact List.all_eq_true.1 h j (List.mem_range.2 hj)
theorem kOkTo_of_no {l : List Ky} {j k : Nat} (h : kOkAt l j = false) (hj : j < k) : kOkTo l k = false := by
  cases hk : kOkTo l k
  · rfl
  · rw [kOkTo_le hk hj] at h; cases h
/-- May a ring be? -/
def mayK (l : List Ky) : Bool := decide (l.length ≤ 8) && kOkTo l l.length
theorem mayK_yes {l : List Ky} (h : mayK l = true) : l.length ≤ 8 ∧ kOkTo l l.length = true := by
  simpa [mayK] using h
theorem mayK_at {l : List Ky} (h : mayK l = true) {i : Nat} (hi : i < l.length) : lastAt l i < (kyI l i).num ∧ (kyI l i).num ≤ 2147483647 := of_decide_eq_true (kOkTo_le (mayK_yes h).2 hi)
theorem mayK_bd {l : List Ky} (h : mayK l = true) : ∀ {i : Nat}, i < l.length → 0 ≤ (kyI l i).num ∧ (kyI l i).num ≤ 2147483647
  | 0, hi => by have := mayK_at h hi; have e : lastAt l 0 = -1 := rfl; omega
  | i + 1, hi => by have := mayK_at h hi; have e : lastAt l (i + 1) = (kyI l i).num := rfl; have := (mayK_bd h (i := i) (by omega)).1; omega
theorem mayK_lt {l : List Ky} (h : mayK l = true) {i : Nat} : ∀ {j : Nat}, i < j → j < l.length → (kyI l i).num < (kyI l j).num
  | 0, h1, _ => by omega
  | j + 1, h1, h2 => by
    have e : lastAt l (j + 1) = (kyI l j).num := rfl
    have h3 := mayK_at h h2
    rcases Nat.lt_or_ge i j with h4 | h4
    · have := mayK_lt h h4 (by omega); omega
    · obtain rfl : i = j := by omega
      omega
/-- Where a key of this number is. -/
def placeK (l : List Ky) (x : Int) : Option Nat := (List.range l.length).find? fun i => decide ((kyI l i).num = x)
theorem placeK_some {l : List Ky} {x : Int} {i : Nat} (h : placeK l x = some i) : i < l.length ∧ (kyI l i).num = x := by
  have h1 := List.mem_of_find?_eq_some h
  have h2 := List.find?_some h
  exact ⟨List.mem_range.1 h1, of_decide_eq_true h2⟩
theorem placeK_none {l : List Ky} {x : Int} (h : placeK l x = none) {i : Nat} (hi : i < l.length) : (kyI l i).num ≠ x := by
  have := List.find?_eq_none.1 h i (List.mem_range.2 hi)
  simpa using this
theorem placeK_at {l : List Ky} {x : Int} (hm : mayK l = true) {i : Nat} (hi : i < l.length) (hx : (kyI l i).num = x) : placeK l x = some i := by
  cases h : placeK l x with
  | none => exact absurd hx (placeK_none h hi)
  | some j =>
    have h1 := placeK_some h
    congr 1
    rcases Nat.lt_or_ge i j with h2 | h2
    · have := mayK_lt hm h2 h1.1; omega
    · rcases Nat.lt_or_ge j i with h3 | h3
      · have := mayK_lt hm h3 hi; omega
      · omega
/-- What Find tells. -/
def fndD (l : List Ky) (x : Int) : List Int := match placeK l x with | some i => if (kyI l i).rev then zero32 else (kyI l i).dig | none => zero32
def fndC (l : List Ky) (x : Int) : Int := match placeK l x with | some i => if (kyI l i).rev then 190 else 0 | none => 190
theorem fnd_none {l : List Ky} {x : Int} (h : placeK l x = none) : fndD l x = zero32 ∧ fndC l x = 190 := by simp only [fndD, fndC, h, and_self]
theorem fnd_rev {l : List Ky} {x : Int} {i : Nat} (h : placeK l x = some i) (hr : (kyI l i).rev = true) : fndD l x = zero32 ∧ fndC l x = 190 := by simp only [fndD, fndC, h, hr, if_true, and_self]
theorem fnd_some {l : List Ky} {x : Int} {i : Nat} (h : placeK l x = some i) (hr : (kyI l i).rev = false) : fndD l x = (kyI l i).dig ∧ fndC l x = 0 := by simp only [fndD, fndC, h, hr]; exact ⟨rfl, rfl⟩
theorem fnd_ok {l : List Ky} (ho : ∀ s ∈ l, s.Ok) (x : Int) : (fndD l x).length = 32 ∧ IsB (fndD l x) := by
  cases h : placeK l x with
  | none => rw [(fnd_none h).1]; exact ⟨ky0_ok.len, ky0_ok.byt⟩
  | some i =>
    cases hr : (kyI l i).rev
    · rw [(fnd_some h hr).1]; exact ⟨(kyI_ok ho i).len, (kyI_ok ho i).byt⟩
    · rw [(fnd_rev h hr).1]; exact ⟨ky0_ok.len, ky0_ok.byt⟩
/-- The ring with the i-th key revoked. -/
def revK (l : List Ky) (i : Nat) : List Ky := l.set i { kyI l i with rev := true }
theorem revK_len (l : List Ky) (i : Nat) : (revK l i).length = l.length := by simp [revK]
theorem revK_at (l : List Ky) (i : Nat) {j : Nat} (hj : j < l.length) : kyI (revK l i) j = if i = j then { kyI l i with rev := true } else kyI l j := by
  unfold revK
  rw [kyI, List.getElem?_set]
  by_cases h : i = j
  · subst h; simp [hj]
  · simp [h, kyI]
theorem revK_ok {l : List Ky} (ho : ∀ s ∈ l, s.Ok) (i : Nat) : ∀ s ∈ revK l i, s.Ok := fun s hs => by
  rcases List.mem_or_eq_of_mem_set hs with h | rfl
  · exact ho s h
  · exact ⟨(kyI_ok ho i).len, (kyI_ok ho i).byt⟩
theorem revK_num (l : List Ky) (i : Nat) {j : Nat} (hj : j < l.length) : (kyI (revK l i) j).num = (kyI l j).num := by
  rw [revK_at l i hj]
  split
  · subst i; rfl
  · rfl
theorem lastAt_same {l l' : List Ky} (hn : ∀ j, j < l.length → (kyI l' j).num = (kyI l j).num) : ∀ {j : Nat}, j ≤ l.length → lastAt l' j = lastAt l j
  | 0, _ => rfl
  | j + 1, h => hn j (by omega)
theorem mayK_same {l l' : List Ky} (hl : l'.length = l.length) (hn : ∀ j, j < l.length → (kyI l' j).num = (kyI l j).num) (h : mayK l = true) : mayK l' = true := by
  unfold mayK kOkTo
  rw [Bool.and_eq_true, hl, List.all_eq_true]
  refine ⟨decide_eq_true (mayK_yes h).1, fun j hj => ?_⟩
  have hj := List.mem_range.1 hj
  unfold kOkAt
  rw [hn j hj, lastAt_same hn (by omega)]
  exact decide_eq_true (mayK_at h hj)
theorem mayK_rev {l : List Ky} (i : Nat) (h : mayK l = true) : mayK (revK l i) = true := mayK_same (revK_len l i) (fun j hj => revK_num l i hj) h
theorem placeK_rev (l : List Ky) (i : Nat) (x : Int) : placeK (revK l i) x = placeK l x := by
  unfold placeK
  rw [revK_len]
  have : ∀ (r : List Nat), (∀ j ∈ r, j < l.length) → r.find? (fun j => decide ((kyI (revK l i) j).num = x)) = r.find? fun j => decide ((kyI l j).num = x) := by
    intro r
    induction r with
    | nil => intro _; rfl
    | cons j r ih =>
      intro h
      rw [List.find?_cons, List.find?_cons, revK_num l i (h j (List.mem_cons_self ..)), ih (fun k hk => h k (List.mem_cons_of_mem _ hk))]
  exact this _ (fun j hj => List.mem_range.1 hj)

/-- A key's bytes, a ring's bytes. -/
def kBit (b : Bool) : Int := if b then 1 else 0
def kyBytes (k : Ky) : List Int := four k.num ++ (k.dig ++ [kBit k.rev])
def ringL : List Int := [114, 105, 110, 103]
def kHead (n : Nat) : List Int := ringL ++ four (n : Int)
def rBytes (l : List Ky) : List Int := kHead l.length ++ l.flatMap kyBytes
theorem kHead_len (n : Nat) : (kHead n).length = 8 := rfl
theorem isB_kHead (n : Nat) : IsB (kHead n) := isB_app (by unfold ringL IsB; decide) (isB_four _)
theorem kyBytes_len {k : Ky} (h : k.Ok) : (kyBytes k).length = 37 := by
  unfold kyBytes
  rw [List.length_append, List.length_append, four_len, h.len]
  rfl
theorem isB_bit (b : Bool) : IsB [kBit b] := by cases b <;> (unfold IsB kBit; decide)
theorem isB_ky {k : Ky} (h : k.Ok) : IsB (kyBytes k) := isB_app (isB_four _) (isB_app h.byt (isB_bit _))
theorem kys_len {l : List Ky} (h : ∀ s ∈ l, s.Ok) : (l.flatMap kyBytes).length = 37 * l.length := by
  induction l with
  | nil => rfl
  | cons s l ih =>
    rw [List.flatMap_cons, List.length_append, kyBytes_len (h s (List.mem_cons_self ..)), ih (fun x hx => h x (List.mem_cons_of_mem _ hx)), List.length_cons]
    omega
theorem rBytes_len {l : List Ky} (h : ∀ s ∈ l, s.Ok) : (rBytes l).length = 8 + 37 * l.length := by
  unfold rBytes
  rw [List.length_append, kHead_len, kys_len h]
theorem isB_ring {l : List Ky} (h : ∀ s ∈ l, s.Ok) : IsB (rBytes l) := isB_app (isB_kHead _) (fun x hx => by
  obtain ⟨s, hs, h1⟩ := List.mem_flatMap.1 hx
  exact isB_ky (h s hs) x h1)
/-- The key that is read from the place o on; m: what the last byte says. -/
def kyAt (m : Int → Bool) (z : List Int) (o : Nat) : Ky := ⟨numAt z o, (z.drop (o + 4)).take 32, m (z[o + 36]?.getD 0)⟩
def kysTo (m : Int → Bool) (z : List Int) (k : Nat) : List Ky := (List.range k).map fun i => kyAt m z (8 + 37 * i)
def kCnt (z : List Int) : Nat := (z.length - 8) / 37
def decK (m : Int → Bool) (z : List Int) : List Ky := kysTo m z (kCnt z)
/-- Are they a ring's bytes? -/
def isK (m : Int → Bool) (z : List Int) : Bool := mayK (decK m z) && decide (rBytes (decK m z) = z)
theorem isK_yes {m : Int → Bool} {z : List Int} (h : isK m z = true) : mayK (decK m z) = true ∧ rBytes (decK m z) = z := by
  simpa [isK] using h
theorem kysTo_len (m : Int → Bool) (z : List Int) (k : Nat) : (kysTo m z k).length = k := by simp [kysTo]
theorem kysTo_succ (m : Int → Bool) (z : List Int) (k : Nat) : kysTo m z (k + 1) = kysTo m z k ++ [kyAt m z (8 + 37 * k)] := by simp [kysTo, List.range_succ]
theorem kyAt_from (m : Int → Bool) (z : List Int) (k o : Nat) : kyAt m (z.drop k) o = kyAt m z (k + o) := by
  simp only [kyAt, numAt_from, List.drop_drop, List.getElem?_drop, Nat.add_assoc]
theorem kyAt_ok {m : Int → Bool} {z : List Int} (h : IsB z) {o : Nat} (ho : o + 37 ≤ z.length) : (kyAt m z o).Ok :=
  ⟨by show ((z.drop (o + 4)).take 32).length = 32; rw [List.length_take, List.length_drop]; omega, isB_take (isB_drop h _) _⟩
theorem kysTo_ok {m : Int → Bool} {z : List Int} (h : IsB z) {k : Nat} (hk : k ≤ kCnt z) : ∀ s ∈ kysTo m z k, s.Ok := by
  intro s hs
  obtain ⟨i, hi, rfl⟩ := List.mem_map.1 hs
  have := List.mem_range.1 hi
  unfold kCnt at hk
  exact kyAt_ok h (by omega)
theorem decK_ok {m : Int → Bool} {z : List Int} (h : IsB z) : ∀ s ∈ decK m z, s.Ok := kysTo_ok h (Nat.le_refl _)
theorem kyAt_bytes {m : Int → Bool} (m0 : m 0 = false) (m1 : m 1 = true) {k : Ky} (h : k.Ok) (h0 : 0 ≤ k.num ∧ k.num ≤ 2147483647) (r : List Int) : kyAt m (kyBytes k ++ r) 0 = k := by
  have e0 : numAt (kyBytes k ++ r) 0 = k.num := four_num k.num (by omega) (by omega)
  have ed : (kyBytes k ++ r).drop 4 = k.dig ++ ([kBit k.rev] ++ r) := by
    show (k.dig ++ [kBit k.rev]) ++ r = _
    rw [List.append_assoc]
  have e1 : ((kyBytes k ++ r).drop 4).take 32 = k.dig := by rw [ed, ← h.len, List.take_left']; rfl
  have e2 : (kyBytes k ++ r)[36]?.getD 0 = kBit k.rev := by
    have : (kyBytes k ++ r)[36]? = ((kyBytes k ++ r).drop 4)[32]? := by rw [List.getElem?_drop]
    rw [this, ed, List.getElem?_append_right (by rw [h.len]; exact Nat.le_refl _), h.len]
    rfl
  show (⟨numAt (kyBytes k ++ r) 0, ((kyBytes k ++ r).drop 4).take 32, m ((kyBytes k ++ r)[36]?.getD 0)⟩ : Ky) = k
  rw [e0, e1, e2]
  rcases k with ⟨a, b, c⟩
  cases c
  · show (⟨a, b, m 0⟩ : Ky) = _; rw [m0]
  · show (⟨a, b, m 1⟩ : Ky) = _; rw [m1]
theorem drop_kys : ∀ (l : List Ky), (∀ s ∈ l, s.Ok) → ∀ k : Nat, (l.flatMap kyBytes).drop (37 * k) = (l.drop k).flatMap kyBytes
  | [], _, k => by simp
  | s :: l, h, 0 => rfl
  | s :: l, h, k + 1 => by
    rw [List.flatMap_cons, List.drop_append, show 37 * (k + 1) - (kyBytes s).length = 37 * k by rw [kyBytes_len (h s (List.mem_cons_self ..))]; omega,
      List.drop_eq_nil_of_le (by rw [kyBytes_len (h s (List.mem_cons_self ..))]; omega), List.nil_append, drop_kys l (fun x hx => h x (List.mem_cons_of_mem _ hx)) k, List.drop_succ_cons]
/-- What is laid down is read as itself. -/
theorem decK_bytes {m : Int → Bool} (m0 : m 0 = false) (m1 : m 1 = true) {l : List Ky} (h : ∀ s ∈ l, s.Ok) (hm : mayK l = true) : decK m (rBytes l) = l := by
  have hl := rBytes_len h
  have hc : kCnt (rBytes l) = l.length := by unfold kCnt; rw [hl]; omega
  unfold decK
  rw [hc]
  apply List.ext_getElem (kysTo_len _ _ _)
  intro i h1 h2
  have e : (rBytes l).drop (8 + 37 * i) = kyBytes l[i] ++ (l.drop (i + 1)).flatMap kyBytes := by
    rw [← List.drop_drop]
    show (l.flatMap kyBytes).drop (37 * i) = _
    rw [drop_kys l h i, List.drop_eq_getElem_cons h2, List.flatMap_cons]
  have e' : (kysTo m (rBytes l) l.length)[i] = kyAt m (rBytes l) (8 + 37 * i) := by simp [kysTo]
  have b := mayK_bd hm h2
  rw [kyI_lt h2] at b
  rw [e', show 8 + 37 * i = (8 + 37 * i) + 0 by rfl, ← kyAt_from, e]
  exact kyAt_bytes m0 m1 (h _ (List.getElem_mem h2)) b _
theorem isK_bytes {m : Int → Bool} (m0 : m 0 = false) (m1 : m 1 = true) {l : List Ky} (h : ∀ s ∈ l, s.Ok) (hm : mayK l = true) : isK m (rBytes l) = true := by
  unfold isK
  rw [decK_bytes m0 m1 h hm, hm, decide_eq_true rfl]
  rfl
theorem isK_len {m : Int → Bool} {z : List Int} (hz : IsB z) (h : isK m z = true) : z.length = 8 + 37 * (decK m z).length ∧ (decK m z).length ≤ 8 := by
  have h1 := isK_yes h
  have h2 := rBytes_len (decK_ok (m := m) hz)
  rw [h1.2] at h2
  exact ⟨h2, (mayK_yes h1.1).1⟩
/-- What the last byte is taken for makes no difference, as long as it tells 00 from 01. -/
theorem isK_two {m m' : Int → Bool} (m0 : m' 0 = false) (m1 : m' 1 = true) {z : List Int} (hz : IsB z) (h : isK m z = true) : isK m' z = true ∧ decK m' z = decK m z := by
  have h1 := isK_yes h
  have h2 := decK_bytes m0 m1 (decK_ok (m := m) hz) h1.1
  rw [h1.2] at h2
  refine ⟨?_, h2⟩
  unfold isK
  rw [h2, h1.1, h1.2, decide_eq_true rfl]
  rfl
/-- What the program's Parse takes the last byte for; what the document's does. -/
def mP (x : Int) : Bool := decide (x ≠ 0)
def mR (x : Int) : Bool := decide (x = 1)
theorem isK_same {z : List Int} (hz : IsB z) : isK mR z = isK mP z := by
  cases h : isK mP z
  · cases h' : isK mR z
    · rfl
    · rw [(isK_two (m' := mP) (by decide) (by decide) hz h').1] at h; cases h
  · exact (isK_two (m' := mR) (by decide) (by decide) hz h).1
end Go.Proofs.Ytjcfooiibgidhaa.N
