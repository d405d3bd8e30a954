/-
  Layer 20, plain: a manifest and its bytes.
-/
import Derived.Test.YtagppgdigabbmaaHeadPlain
namespace Go.Proofs.Ytagppgdigabbmaa.N
open Go.RowKit
set_option linter.unusedVariables false
set_option maxRecDepth 8192

/-- A segment: where it is loaded, how long it is, its digest's bytes. -/
structure Sg where
  load : Int
  size : Int
  dig : List Int
/-- A manifest. -/
structure Mf where
  ver : Int
  sec : Int
  key : Int
  ent : Int
  segs : List Sg
def sg0 : Sg := ⟨0, 0, List.replicate 32 0⟩
def mf0 : Mf := ⟨0, 0, 0, 0, []⟩
/-- 32 bytes are a segment's digest. -/
structure Sg.Ok (s : Sg) : Prop where
  len : s.dig.length = 32
  byt : IsB s.dig
def Mf.Ok (m : Mf) : Prop := ∀ s ∈ m.segs, s.Ok
theorem sg0_ok : sg0.Ok := ⟨rfl, fun x hx => by rw [(List.mem_replicate.1 hx).2]; decide⟩
/-- The i-th one. -/
def sgI (l : List Sg) (i : Nat) : Sg := l[i]?.getD sg0
theorem sgI_lt {l : List Sg} {i : Nat} (h : i < l.length) : sgI l i = l[i] := by simp [sgI, List.getElem?_eq_getElem h]
theorem sgI_ok {l : List Sg} (h : ∀ s ∈ l, s.Ok) (i : Nat) : (sgI l i).Ok := by
  rcases Nat.lt_or_ge i l.length with h1 | h1
  · rw [sgI_lt h1]; exact h _ (List.getElem_mem h1)
  · rw [sgI, List.getElem?_eq_none h1]; exact sg0_ok
def within (n a b : Int) : Bool := decide (a ≤ n ∧ n ≤ b)
theorem within_yes {n a b : Int} (h : within n a b = true) : a ≤ n ∧ n ≤ b := of_decide_eq_true h
theorem within_no {n a b : Int} (h : within n a b = false) : ¬ (a ≤ n ∧ n ≤ b) := of_decide_eq_false h
abbrev in31 (n : Int) : Bool := within n 0 2147483647
/-- Where the segment ahead of the i-th ends. -/
def endAt (l : List Sg) : Nat → Int
  | 0 => 0
  | i + 1 => (sgI l i).load + (sgI l i).size
/-- May the i-th be, behind those ahead? -/
def okAt (l : List Sg) (i : Nat) : Bool := within (sgI l i).size 0 1048576 && within (sgI l i).load (endAt l i) (2147483647 - (sgI l i).size)
def okTo (l : List Sg) (k : Nat) : Bool := (List.range k).all (okAt l)
theorem okTo_zero (l : List Sg) : okTo l 0 = true := rfl
theorem okTo_succ (l : List Sg) (k : Nat) : okTo l (k + 1) = (okTo l k && okAt l k) := by simp [okTo, List.range_succ]
theorem okTo_le {l : List Sg} {j k : Nat} (h : okTo l k = true) (hj : j < k) : okAt l j = true := by
  unfold okTo at h
  exact List.all_eq_true.1 h j (List.mem_range.2 hj)
theorem okTo_of_no {l : List Sg} {j k : Nat} (h : okAt l j = false) (hj : j < k) : okTo l k = false := by
  cases hk : okTo l k
  · rfl
  · rw [okTo_le hk hj] at h; cases h
theorem okAt_bd {l : List Sg} {i : Nat} (h : okAt l i = true) (he : 0 ≤ endAt l i) : 0 ≤ (sgI l i).size ∧ (sgI l i).size ≤ 1048576 ∧ endAt l i ≤ (sgI l i).load ∧ (sgI l i).load + (sgI l i).size ≤ 2147483647 ∧ 0 ≤ (sgI l i).load := by
  unfold okAt at h
  rw [Bool.and_eq_true] at h
  have h1 := within_yes h.1
  have h2 := within_yes h.2
  omega
theorem endAt_bd {l : List Sg} : ∀ {k : Nat}, okTo l k = true → 0 ≤ endAt l k ∧ endAt l k ≤ 2147483647
  | 0, _ => ⟨Int.le_refl 0, by show (0 : Int) ≤ 2147483647; decide⟩
  | k + 1, h => by
    rw [okTo_succ, Bool.and_eq_true] at h
    have h1 := okAt_bd h.2 (endAt_bd h.1).1
    show 0 ≤ (sgI l k).load + (sgI l k).size ∧ (sgI l k).load + (sgI l k).size ≤ 2147483647
    omega
/-- May a manifest be? -/
def mayM (m : Mf) : Bool := (in31 m.ver && (in31 m.sec && (in31 m.key && in31 m.ent))) && (decide (m.segs.length ≤ 8) && okTo m.segs m.segs.length)
structure MayM (m : Mf) : Prop where
  v : 0 ≤ m.ver ∧ m.ver ≤ 2147483647
  s : 0 ≤ m.sec ∧ m.sec ≤ 2147483647
  k : 0 ≤ m.key ∧ m.key ≤ 2147483647
  e : 0 ≤ m.ent ∧ m.ent ≤ 2147483647
  n : m.segs.length ≤ 8
  o : okTo m.segs m.segs.length = true
theorem mayM_yes {m : Mf} (h : mayM m = true) : MayM m := by
  simp only [mayM, Bool.and_eq_true] at h
  exact ⟨within_yes h.1.1, within_yes h.1.2.1, within_yes h.1.2.2.1, within_yes h.1.2.2.2, of_decide_eq_true h.2.1, h.2.2⟩
theorem MayM.seg {m : Mf} (h : MayM m) {i : Nat} (hi : i < m.segs.length) : 0 ≤ (sgI m.segs i).load ∧ (sgI m.segs i).load ≤ 2147483647 ∧ 0 ≤ (sgI m.segs i).size ∧ (sgI m.segs i).size ≤ 1048576 := by
  have h1 := okTo_le h.o hi
  have h2 : okTo m.segs i = true := by
    unfold okTo
    rw [List.all_eq_true]
    intro j hj
    exact okTo_le h.o (Nat.lt_trans (List.mem_range.1 hj) hi)
  have := okAt_bd h1 (endAt_bd h2).1
  omega

/-- Numbers' bytes. -/
def nums (l : List Int) : List Int := l.flatMap four
def sgBytes (s : Sg) : List Int := four s.load ++ (four s.size ++ s.dig)
def mani : List Int := [109, 97, 110, 105]
def ahead (m : Mf) : List Int := mani ++ nums [m.ver, m.sec, m.key, m.ent, (m.segs.length : Nat)]
/-- A manifest's bytes. -/
def mfBytes (m : Mf) : List Int := ahead m ++ m.segs.flatMap sgBytes
theorem four_len (n : Int) : (four n).length = 4 := rfl
theorem nums_len (l : List Int) : (nums l).length = 4 * l.length := by
  induction l with
  | nil => rfl
  | cons x l ih => show (four x ++ nums l).length = _; rw [List.length_append, ih, four_len, List.length_cons]; omega
theorem isB_nums (l : List Int) : IsB (nums l) := fun x hx => by
  obtain ⟨n, _, h⟩ := List.mem_flatMap.1 hx
  exact isB_four n x h
theorem ahead_len (m : Mf) : (ahead m).length = 24 := rfl
theorem isB_ahead (m : Mf) : IsB (ahead m) := isB_app (by unfold mani IsB; decide) (isB_nums _)
theorem sgBytes_len {s : Sg} (h : s.Ok) : (sgBytes s).length = 40 := by
  unfold sgBytes
  rw [List.length_append, List.length_append, four_len, four_len, h.len]
theorem isB_sg {s : Sg} (h : s.Ok) : IsB (sgBytes s) := isB_app (isB_four _) (isB_app (isB_four _) h.byt)
theorem segs_len {l : List Sg} (h : ∀ s ∈ l, s.Ok) : (l.flatMap sgBytes).length = 40 * l.length := by
  induction l with
  | nil => rfl
  | cons s l ih =>
    rw [List.flatMap_cons, List.length_append, sgBytes_len (h s (List.mem_cons_self ..)), ih (fun x hx => h x (List.mem_cons_of_mem _ hx)), List.length_cons]
    omega
theorem mfBytes_len {m : Mf} (h : m.Ok) : (mfBytes m).length = 24 + 40 * m.segs.length := by
  unfold mfBytes
  rw [List.length_append, ahead_len, segs_len h]
theorem isB_mf {m : Mf} (h : m.Ok) : IsB (mfBytes m) := isB_app (isB_ahead m) (fun x hx => by
  obtain ⟨s, hs, h1⟩ := List.mem_flatMap.1 hx
  exact isB_sg (h s hs) x h1)

/-- The segment that is read from the place o on. -/
def sgAt (z : List Int) (o : Nat) : Sg := ⟨numAt z o, numAt z (o + 4), (z.drop (o + 8)).take 32⟩
def cnt (z : List Int) : Nat := (numAt z 20).toNat
def sgsTo (z : List Int) (k : Nat) : List Sg := (List.range k).map fun i => sgAt z (24 + 40 * i)
/-- What bytes are read as. -/
def dec (z : List Int) : Mf := ⟨numAt z 4, numAt z 8, numAt z 12, numAt z 16, sgsTo z (cnt z)⟩
def fits (z : List Int) : Bool := decide (24 ≤ z.length) && (decide (numAt z 20 ≤ 8) && decide (z.length = 24 + 40 * cnt z))
/-- Are they a manifest's bytes? -/
def isMf (z : List Int) : Bool := decide (z.take 4 = mani) && (fits z && mayM (dec z))
theorem sgsTo_len (z : List Int) (k : Nat) : (sgsTo z k).length = k := by simp [sgsTo]
theorem sgsTo_succ (z : List Int) (k : Nat) : sgsTo z (k + 1) = sgsTo z k ++ [sgAt z (24 + 40 * k)] := by simp [sgsTo, List.range_succ]
theorem numAt_from (z : List Int) (k o : Nat) : numAt (z.drop k) o = numAt z (k + o) := by simp [numAt, List.getElem?_drop, Nat.add_assoc]
theorem sgAt_from (z : List Int) (k o : Nat) : sgAt (z.drop k) o = sgAt z (k + o) := by
  simp only [sgAt, numAt_from, List.drop_drop, Nat.add_assoc]
theorem fits_yes {z : List Int} (h : fits z = true) : 24 ≤ z.length ∧ numAt z 20 ≤ 8 ∧ z.length = 24 + 40 * cnt z := by
  simpa [fits] using h
theorem isMf_yes {z : List Int} (h : isMf z = true) : z.take 4 = mani ∧ fits z = true ∧ mayM (dec z) = true := by
  simpa [isMf] using h
theorem isB_take {z : List Int} (h : IsB z) (k : Nat) : IsB (z.take k) := fun x hx => h x (List.mem_of_mem_take hx)
theorem isB_drop {z : List Int} (h : IsB z) (k : Nat) : IsB (z.drop k) := fun x hx => h x (List.mem_of_mem_drop hx)
theorem sgAt_ok {z : List Int} (h : IsB z) {o : Nat} (ho : o + 40 ≤ z.length) : (sgAt z o).Ok :=
  ⟨by show ((z.drop (o + 8)).take 32).length = 32; rw [List.length_take, List.length_drop]; omega, isB_take (isB_drop h _) _⟩
theorem sgsTo_ok {z : List Int} (h : IsB z) {k : Nat} (hk : 24 + 40 * k ≤ z.length) : ∀ s ∈ sgsTo z k, s.Ok := by
  intro s hs
  obtain ⟨i, hi, rfl⟩ := List.mem_map.1 hs
  have := List.mem_range.1 hi
  exact sgAt_ok h (by omega)
theorem dec_ok {z : List Int} (h : IsB z) (hf : fits z = true) : (dec z).Ok := by
  have := fits_yes hf
  exact sgsTo_ok h (by omega)
/-- Four bytes are those of the number that they say. -/
theorem four_back {z : List Int} (h : IsB z) {o : Nat} (ho : o + 4 ≤ z.length) : four (numAt z o) = (z.drop o).take 4 := by
  have h0 := h.idx o
  have h1 := h.idx (o + 1)
  have h2 := h.idx (o + 2)
  have h3 := h.idx (o + 3)
  have e : (z.drop o).take 4 = [z[o]?.getD 0, z[o + 1]?.getD 0, z[o + 2]?.getD 0, z[o + 3]?.getD 0] := by
    have g : ∀ i (hi : i < z.length), z[i]?.getD 0 = z[i] := fun i hi => by rw [List.getElem?_eq_getElem hi]; rfl
    rw [List.drop_eq_getElem_cons (show o < z.length by omega), List.drop_eq_getElem_cons (show o + 1 < z.length by omega), List.drop_eq_getElem_cons (show o + 1 + 1 < z.length by omega), List.drop_eq_getElem_cons (show o + 1 + 1 + 1 < z.length by omega),
      g o (by omega), g (o + 1) (by omega), g (o + 2) (by omega), g (o + 3) (by omega)]
    rfl
  rw [e]
  unfold four numAt
  congr 1
  · omega
  · congr 1
    · omega
    · congr 1
      · omega
      · congr 1
        omega
theorem sgBytes_back {z : List Int} (h : IsB z) {o : Nat} (ho : o + 40 ≤ z.length) : sgBytes (sgAt z o) = (z.drop o).take 40 := by
  show four (numAt z o) ++ (four (numAt z (o + 4)) ++ (z.drop (o + 8)).take 32) = _
  rw [four_back h (by omega), four_back h (by omega), show o + 8 = o + 4 + 4 by omega, ← List.drop_drop (i := 4) (j := o + 4), ← List.take_add, ← List.drop_drop (i := 4) (j := o), ← List.take_add]
theorem sgs_back {z : List Int} (h : IsB z) : ∀ k : Nat, 24 + 40 * k ≤ z.length → (sgsTo z k).flatMap sgBytes = (z.drop 24).take (40 * k)
  | 0, _ => by simp [sgsTo]
  | k + 1, hk => by
    rw [sgsTo_succ, List.flatMap_append, sgs_back h k (by omega), List.flatMap_cons, List.flatMap_nil, List.append_nil, sgBytes_back h (by omega),
      ← List.drop_drop, ← List.take_add]
    rfl
theorem numAt_back {z : List Int} (h : IsB z) : (((numAt z 20).toNat : Nat) : Int) = numAt z 20 := Int.toNat_of_nonneg (numAt_bd h 20).1
/-- Behind the first four bytes all are those of what is read. -/
theorem tail_back {z : List Int} (h : IsB z) (hf : fits z = true) : mfBytes (dec z) = mani ++ z.drop 4 := by
  have hf := fits_yes hf
  have hc : (((dec z).segs.length : Nat) : Int) = numAt z 20 := by
    show (((sgsTo z (cnt z)).length : Nat) : Int) = _
    rw [sgsTo_len]
    exact numAt_back h
  unfold mfBytes ahead
  rw [hc]
  show mani ++ (four (numAt z 4) ++ (four (numAt z 8) ++ (four (numAt z 12) ++ (four (numAt z 16) ++ (four (numAt z 20) ++ []))))) ++ (sgsTo z (cnt z)).flatMap sgBytes = _
  rw [sgs_back h _ (by omega), four_back h (by omega), four_back h (by omega), four_back h (by omega), four_back h (by omega), four_back h (by omega), List.append_nil, List.append_assoc]
  congr 1
  rw [show (z.drop 24).take (40 * cnt z) = z.drop 24 from List.take_of_length_le (by rw [List.length_drop]; omega)]
  have st : ∀ k, (z.drop k).take 4 ++ z.drop (k + 4) = z.drop k := fun k => by rw [← List.drop_drop, List.take_append_drop]
  simp only [List.append_assoc]
  rw [st 20, st 16, st 12, st 8, st 4]
theorem dec_back {z : List Int} (h : IsB z) (hf : fits z = true) : (mfBytes (dec z) = z) ↔ z.take 4 = mani := by
  rw [tail_back h hf]
  constructor
  · intro e
    rw [← e]
    rfl
  · intro e
    rw [← e, List.take_append_drop]
/-- What is read is laid down as the same bytes. -/
theorem isMf_back {z : List Int} (h : IsB z) (hm : isMf z = true) : mfBytes (dec z) = z := by
  have := isMf_yes hm
  exact (dec_back h this.2.1).2 this.1
theorem sgAt_bytes {s : Sg} (h : s.Ok) (h0 : 0 ≤ s.load ∧ s.load ≤ 2147483647) (h1 : 0 ≤ s.size ∧ s.size ≤ 1048576) (r : List Int) : sgAt (sgBytes s ++ r) 0 = s := by
  have e0 : numAt (sgBytes s ++ r) 0 = s.load := four_num s.load (by omega) (by omega)
  have e1 : numAt (sgBytes s ++ r) 4 = s.size := four_num s.size (by omega) (by omega)
  have e2 : ((sgBytes s ++ r).drop 8).take 32 = s.dig := by
    show (s.dig ++ r).take 32 = _
    rw [← h.len, List.take_left']
    rfl
  show (⟨numAt (sgBytes s ++ r) 0, numAt (sgBytes s ++ r) 4, ((sgBytes s ++ r).drop 8).take 32⟩ : Sg) = s
  rw [e0, e1, e2]
theorem drop_segs : ∀ (l : List Sg), (∀ s ∈ l, s.Ok) → ∀ k : Nat, (l.flatMap sgBytes).drop (40 * k) = (l.drop k).flatMap sgBytes
  | [], _, k => by simp
  | s :: l, h, 0 => rfl
  | s :: l, h, k + 1 => by
    rw [List.flatMap_cons, List.drop_append, show 40 * (k + 1) - (sgBytes s).length = 40 * k by rw [sgBytes_len (h s (List.mem_cons_self ..))]; omega,
      List.drop_eq_nil_of_le (by rw [sgBytes_len (h s (List.mem_cons_self ..))]; omega), List.nil_append, drop_segs l (fun x hx => h x (List.mem_cons_of_mem _ hx)) k, List.drop_succ_cons]
/-- What is laid down is read as itself. -/
theorem dec_bytes {m : Mf} (h : m.Ok) (hm : mayM m = true) : dec (mfBytes m) = m ∧ isMf (mfBytes m) = true := by
  have M := mayM_yes hm
  have hl := mfBytes_len h
  have hn : (((m.segs.length : Nat) : Int)) ≤ 8 := by have := M.n; omega
  have e1 : numAt (mfBytes m) 4 = m.ver := four_num m.ver (by have := M.v; omega) (by have := M.v; omega)
  have e2 : numAt (mfBytes m) 8 = m.sec := four_num m.sec (by have := M.s; omega) (by have := M.s; omega)
  have e3 : numAt (mfBytes m) 12 = m.key := four_num m.key (by have := M.k; omega) (by have := M.k; omega)
  have e4 : numAt (mfBytes m) 16 = m.ent := four_num m.ent (by have := M.e; omega) (by have := M.e; omega)
  have e5 : numAt (mfBytes m) 20 = ((m.segs.length : Nat) : Int) := four_num _ (by omega) (by omega)
  have ec : cnt (mfBytes m) = m.segs.length := by unfold cnt; rw [e5]; rfl
  have es : sgsTo (mfBytes m) m.segs.length = m.segs := by
    apply List.ext_getElem (sgsTo_len _ _)
    intro i h1 h2
    have e : (mfBytes m).drop (24 + 40 * i) = sgBytes m.segs[i] ++ (m.segs.drop (i + 1)).flatMap sgBytes := by
      rw [← List.drop_drop]
      show (m.segs.flatMap sgBytes).drop (40 * i) = _
      rw [drop_segs m.segs h i, List.drop_eq_getElem_cons h2, List.flatMap_cons]
    have e' : (sgsTo (mfBytes m) m.segs.length)[i] = sgAt (mfBytes m) (24 + 40 * i) := by simp [sgsTo]
    have b := M.seg h2
    rw [sgI_lt h2] at b
    rw [e', show 24 + 40 * i = (24 + 40 * i) + 0 by rfl, ← sgAt_from, e]
    exact sgAt_bytes (h _ (List.getElem_mem h2)) ⟨b.1, b.2.1⟩ b.2.2 _
  have ed : dec (mfBytes m) = m := by
    unfold dec
    rw [e1, e2, e3, e4, ec, es]
  refine ⟨ed, ?_⟩
  unfold isMf fits
  rw [ed, hm, hl, e5, ec, decide_eq_true (show (mfBytes m).take 4 = mani from rfl), decide_eq_true (show 24 ≤ 24 + 40 * m.segs.length by omega), decide_eq_true hn, decide_eq_true rfl]
  rfl
/-- With a byte less, or more, they are none. -/
theorem short_no {m : Mf} (h : m.Ok) (hm : mayM m = true) : isMf ((mfBytes m).take ((mfBytes m).length - 1)) = false := by
  have hl := mfBytes_len h
  have M := mayM_yes hm
  rcases Nat.eq_zero_or_pos m.segs.length with h0 | h0
  · have : fits ((mfBytes m).take ((mfBytes m).length - 1)) = false := by
      unfold fits
      rw [List.length_take, decide_eq_false (by omega), Bool.false_and]
    unfold isMf
    rw [this, Bool.false_and, Bool.and_false]
  · have e5 : numAt ((mfBytes m).take ((mfBytes m).length - 1)) 20 = ((m.segs.length : Nat) : Int) := by
      have : numAt ((mfBytes m).take ((mfBytes m).length - 1)) 20 = numAt (mfBytes m) 20 := by
        simp only [numAt, List.getElem?_take, show 20 < (mfBytes m).length - 1 by omega, show 20 + 1 < (mfBytes m).length - 1 by omega, show 20 + 2 < (mfBytes m).length - 1 by omega, show 20 + 3 < (mfBytes m).length - 1 by omega, if_true]
      rw [this]
      exact four_num _ (by omega) (by have := M.n; omega)
    have : fits ((mfBytes m).take ((mfBytes m).length - 1)) = false := by
      unfold fits cnt
      rw [List.length_take, e5, Int.toNat_natCast, decide_eq_false (show ¬ min ((mfBytes m).length - 1) (mfBytes m).length = 24 + 40 * m.segs.length by omega), Bool.and_false, Bool.and_false]
    unfold isMf
    rw [this, Bool.false_and, Bool.and_false]
theorem long_no {m : Mf} (h : m.Ok) (hm : mayM m = true) (x : Int) : isMf (mfBytes m ++ [x]) = false := by
  have hl := mfBytes_len h
  have M := mayM_yes hm
  have e5 : numAt (mfBytes m ++ [x]) 20 = ((m.segs.length : Nat) : Int) := four_num _ (by omega) (by have := M.n; omega)
  have : fits (mfBytes m ++ [x]) = false := by
    unfold fits cnt
    rw [List.length_append, e5, Int.toNat_natCast, decide_eq_false (show ¬ (mfBytes m).length + [x].length = 24 + 40 * m.segs.length by simp only [List.length_singleton]; omega), Bool.and_false, Bool.and_false]
  unfold isMf
  rw [this, Bool.false_and, Bool.and_false]
end Go.Proofs.Ytagppgdigabbmaa.N
