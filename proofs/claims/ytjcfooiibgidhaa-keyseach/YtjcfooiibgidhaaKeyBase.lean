/-
  Layer 21: keys in memory.
-/
import Derived.Test.YtjcfooiibgidhaaKeyPlain
import Derived.Test.YtjcfooiibgidhaaManBase
namespace Go.Proofs.Ytjcfooiibgidhaa.N
open Go.RowKit
set_option linter.unusedVariables false
set_option maxRecDepth 8192

/-- A key's cells. -/
def dC (d : List Int) : List Value := d.map (Value.int .u8)
def dA (d : List Int) : Array Value := (dC d).toArray
def kC (k : Ky) : List Value := .int .i64 k.num :: (dC k.dig ++ [.bool k.rev])
def kA (k : Ky) : Array Value := (kC k).toArray
theorem dC_len {d : List Int} (h : d.length = 32) : (dC d).length = 32 := by simp [dC, h]
theorem dA_size {d : List Int} (h : d.length = 32) : (dA d).size = 32 := by unfold dA; rw [List.size_toArray]; exact dC_len h
theorem dC_one (d : List Int) : ∀ u ∈ dC d, u.oneCell' = true := by
  intro u hu
  obtain ⟨x, _, rfl⟩ := List.mem_map.1 hu
  rfl
theorem dA_one (d : List Int) : (dA d).all (·.oneCell') = true := all_oneCell_toArray (dC_one d)
theorem kC_len {k : Ky} (h : k.Ok) : (kC k).length = 34 := by simp [kC, dC, h.len]
theorem kA_size {k : Ky} (h : k.Ok) : (kA k).size = 34 := by unfold kA; rw [List.size_toArray]; exact kC_len h
theorem kC_one (k : Ky) : ∀ u ∈ kC k, u.oneCell' = true := by
  intro u hu
  simp only [kC, List.mem_cons, List.mem_append, List.not_mem_nil, or_false] at hu
  rcases hu with rfl | h | rfl
  · rfl
  · exact dC_one _ u h
  · rfl
theorem kA_one (k : Ky) : (kA k).all (·.oneCell') = true := all_oneCell_toArray (kC_one k)
theorem kC_0 (k : Ky) : (kC k)[0]? = some (.int .i64 k.num) := rfl
theorem kC_dig {k : Ky} (h : k.Ok) (j : Nat) (hj : j < 32) : (kC k)[1 + j]? = some (.int .u8 (k.dig[j]?.getD 0)) := by
  have hd : j < k.dig.length := by rw [h.len]; exact hj
  rw [show 1 + j = j + 1 by omega, kC, List.getElem?_cons_succ, List.getElem?_append_left (by simpa [dC] using hd)]
  simp [dC, List.getElem?_eq_getElem hd]
theorem kC_33 {k : Ky} (h : k.Ok) : (kC k)[33]? = some (.bool k.rev) := by
  rw [show 33 = 32 + 1 by rfl, kC, List.getElem?_cons_succ, List.getElem?_append_right (by rw [dC_len h.len]; exact Nat.le_refl _), dC_len h.len]
  rfl
theorem kC_rev {k : Ky} (h : k.Ok) : (kC k).set 33 (.bool true) = kC { k with rev := true } := by
  rw [show 33 = 32 + 1 by rfl, kC, List.set_cons_succ, List.set_append_right _ _ (by rw [dC_len h.len]; exact Nat.le_refl _), dC_len h.len]
  rfl
section
variable {w : World} {b o : Nat} {k : Ky}
/-- What lies in a key's cells. -/
theorem kr_num (h : w.rangeAt b o (kC k)) : w.cell? ⟨b, o, none⟩ = some (.int .i64 k.num) := h 0 _ rfl
theorem kr_rev (hk : k.Ok) (h : w.rangeAt b o (kC k)) : w.cell? ⟨b, o + 33, none⟩ = some (.bool k.rev) := h 33 _ (kC_33 hk)
theorem kr_dig (hk : k.Ok) (h : w.rangeAt b o (kC k)) : w.rangeAt b (o + 1) (dC k.dig) := fun j v hv => by
  have hj : j < 32 := by rw [← dC_len hk.len]; exact (List.getElem?_eq_some_iff.1 hv).1
  have := h (1 + j) _ (kC_dig hk j hj)
  rw [show o + 1 + j = o + (1 + j) by omega, this, ← hv]
  have hd : j < k.dig.length := by rw [hk.len]; exact hj
  simp [dC, List.getElem?_eq_getElem hd]
theorem kr_row (hk : k.Ok) (h : w.rangeAt b o (kC k)) : Row .u8 w (some ⟨b, o + 1, none⟩) 32 32 k.dig :=
  ⟨hk.len, Nat.le_refl _, by unfold maxLen; omega, by simp, fun _ => ⟨b, o + 1, rfl, lt_of_cell (kr_num h), fun i hi => by
    have := h (1 + i) _ (kC_dig hk i hi)
    rw [show o + 1 + i = o + (1 + i) by omega, this]⟩⟩
end
theorem range_all {w : World} {g : Nat} {T : TypeId} {L : List Value} (h : w.heap[g]? = some (.cells L.toArray T (0, 0))) : w.rangeAt g 0 L := fun j v hv => by
  rw [cell_of_row w g (0 + j) _ T (0, 0) h, Nat.zero_add]
  simpa using hv
/-- The slice (a, n, cap) reads in w as these keys. -/
structure KRow (w : World) (a : Option Addr) (n cap : Nat) (l : List Ky) : Prop where
  hlen : l.length = n
  hcap : n ≤ cap
  hmax : cap ≤ maxLen
  hnil : a = none → cap = 0
  hcell : 0 < n → ∃ b off, a = some ⟨b, off, none⟩ ∧ b < w.heap.size ∧ ∀ i, i < n → w.rangeAt b (off + i * 34) (kC (kyI l i))
theorem KRow.below {w w' : World} {a : Option Addr} {n cap B : Nat} {l : List Ky} (h : KRow w a n cap l) (q : Below B w w') (hB : w.heap.size ≤ B) : KRow w' a n cap l := by
  refine ⟨h.hlen, h.hcap, h.hmax, h.hnil, fun h0 => ?_⟩
  obtain ⟨b, off, rfl, hb, hc⟩ := h.hcell h0
  exact ⟨b, off, rfl, by have := q.size; omega, fun i hi => range_block (hc i hi) (q.block b (by omega))⟩
theorem kRow_nil (w : World) : KRow w none 0 0 [] := ⟨rfl, Nat.le_refl _, Nat.zero_le _, fun _ => rfl, fun h => absurd h (by omega)⟩
def kCs (l : List Ky) : List Value := l.flatMap kC
theorem kCs_len : ∀ {l : List Ky}, (∀ s ∈ l, s.Ok) → (kCs l).length = l.length * 34
  | [], _ => rfl
  | s :: l, h => by
    show (kC s ++ kCs l).length = _
    rw [List.length_append, kC_len (h s (List.mem_cons_self ..)), kCs_len (fun x hx => h x (List.mem_cons_of_mem _ hx)), List.length_cons]
    omega
theorem kCs_one (l : List Ky) : ∀ u ∈ kCs l, u.oneCell' = true := fun u hu => by
  obtain ⟨s, _, h⟩ := List.mem_flatMap.1 hu
  exact kC_one s u h
theorem kCs_at : ∀ {l : List Ky}, (∀ s ∈ l, s.Ok) → ∀ i, i < l.length → ∀ j v, (kC (kyI l i))[j]? = some v → (kCs l)[i * 34 + j]? = some v
  | [], _, i, hi, _, _, _ => absurd hi (Nat.not_lt_zero _)
  | s :: l, h, 0, _, j, v, hv => by
    show (kC s ++ kCs l)[0 * 34 + j]? = _
    have hv : (kC s)[j]? = some v := hv
    have hj := (List.getElem?_eq_some_iff.1 hv).1
    rw [show 0 * 34 + j = j by omega, List.getElem?_append_left hj]
    exact hv
  | s :: l, h, i + 1, hi, j, v, hv => by
    show (kC s ++ kCs l)[(i + 1) * 34 + j]? = _
    have hs := kC_len (h s (List.mem_cons_self ..))
    rw [List.getElem?_append_right (by omega), hs, show (i + 1) * 34 + j - 34 = i * 34 + j by omega]
    exact kCs_at (fun x hx => h x (List.mem_cons_of_mem _ hx)) i (by simpa using hi) j v hv
theorem kRow_owns {e : TypeId} {w : World} {base : Nat} {v : Value} {n : Nat} {l : List Ky} (hl : l.length = n) (ho : ∀ s ∈ l, s.Ok) (h : w.ownsRow base e 34 v n (kCs l)) : ∃ a cap, v = .slice a n cap ∧ KRow w a n cap l := by
  rcases h.2 with ⟨rfl, hn⟩ | ⟨g, cap, cur, rfl, hg, hh, hnc, hcm, hcs, htake⟩
  · subst hn
    exact ⟨none, 0, rfl, hl, Nat.le_refl _, Nat.zero_le _, fun _ => rfl, fun h0 => absurd h0 (by omega)⟩
  · refine ⟨_, cap, rfl, hl, hnc, hcm, by simp, fun h0 => ⟨g, 0, rfl, lt_of_heap hh, fun i hi j u hu => ?_⟩⟩
    have := h.cells (g := g) rfl (i * 34 + j) u (kCs_at ho i (by omega) j u hu)
    rw [plain_add] at this
    rw [show (0 + i * 34 + j) = 0 + (i * 34 + j) by omega]
    exact this
/-- The whole row's cells. -/
theorem KRow.cells {w : World} {b off n : Nat} {l : List Ky} (ho : ∀ s ∈ l, s.Ok) (hl : l.length = n) (hc : ∀ i, i < n → w.rangeAt b (off + i * 34) (kC (kyI l i))) : ∀ j v, (kCs l)[j]? = some v → w.cell? ((⟨b, off, none⟩ : Addr).add j) = some v := by
  intro j v hj
  have hlt : j < l.length * 34 := by rw [← kCs_len ho]; exact (List.getElem?_eq_some_iff.1 hj).1
  have hi : j / 34 < l.length := by omega
  have hk := kC_len (kyI_ok ho (j / 34))
  have hm : j % 34 < (kC (kyI l (j / 34))).length := by omega
  have h1 := kCs_at ho (j / 34) hi (j % 34) _ (List.getElem?_eq_getElem hm)
  rw [show j / 34 * 34 + j % 34 = j by omega, hj] at h1
  have h2 := hc (j / 34) (by omega) (j % 34) _ (List.getElem?_eq_getElem hm)
  rw [plain_add, show off + j = off + j / 34 * 34 + j % 34 by omega, h2, ← h1]
theorem kCs_rev {l : List Ky} (ho : ∀ s ∈ l, s.Ok) {i : Nat} (hi : i < l.length) : (kCs l).set (i * 34 + 33) (.bool true) = kCs (revK l i) := by
  induction l generalizing i with
  | nil => exact absurd hi (Nat.not_lt_zero _)
  | cons s l ih =>
    have hs := kC_len (ho s (List.mem_cons_self ..))
    cases i with
    | zero =>
      show (kC s ++ kCs l).set (0 * 34 + 33) (.bool true) = kC { s with rev := true } ++ kCs l
      rw [List.set_append_left _ _ (by omega), Nat.zero_mul, Nat.zero_add, kC_rev (ho s (List.mem_cons_self ..))]
    | succ i =>
      show (kC s ++ kCs l).set ((i + 1) * 34 + 33) (.bool true) = kC s ++ kCs (l.set i { kyI (s :: l) (i + 1) with rev := true })
      rw [List.set_append_right _ _ (by omega), hs, show (i + 1) * 34 + 33 - 34 = i * 34 + 33 by omega, ih (fun x hx => ho x (List.mem_cons_of_mem _ hx)) (by simpa using hi)]
      rfl
theorem Try.szKy : (Try.prog.info? 39).map (·.size) = some 34 := by kernel_rfl
theorem Try.szDg : (Try.prog.info? 28).map (·.size) = some 32 := by kernel_rfl
theorem zeroKy (w : World) : (zeroValue 39).run Try.prog w = .ok (.agg (kA ky0)) w := by kernel_rfl
theorem zeroDg (w : World) : (zeroValue 28).run Try.prog w = .ok (.agg (dA zero32)) w := by kernel_rfl
theorem ky_info : ∃ i, Try.prog.info? 39 = some i ∧ i.zero = some (.agg (kA ky0)) ∧ i.size = 34 ∧ i.bytes = 48 := by
  have h : (Try.prog.info? 39).map (fun i => (i.zero, i.size, i.bytes)) = some (some (.agg (kA ky0)), 34, 48) := by kernel_rfl
  obtain ⟨i, hi, he⟩ := Option.map_eq_some_iff.1 h
  simp only [Prod.mk.injEq] at he
  exact ⟨i, hi, he.1, he.2.1, he.2.2⟩
end Go.Proofs.Ytjcfooiibgidhaa.N
