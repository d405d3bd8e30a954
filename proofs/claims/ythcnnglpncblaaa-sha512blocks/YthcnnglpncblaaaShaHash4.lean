/-
  The code of layer 13 (sha256): New, and what a Hash of some bytes is.
-/
import Derived.Test.YthcnnglpncblaaaShaHash3
namespace Go.Proofs.Ythcnnglpncblaaa
open Go.RowKit
set_option linter.unusedVariables false
set_option maxRecDepth 8192

theorem range_mid {w : World} {b : Nat} {A B C : List Value} {T : TypeId} {fr : Nat × Nat} (h : w.heap[b]? = some (.cells (A ++ (B ++ C)).toArray T fr)) (o : Nat) (ho : o = A.length) : w.rangeAt b o B := fun j v hv => by
  subst ho
  have hj : j < B.length := (List.getElem?_eq_some_iff.1 hv).1
  rw [cell_of_row w b _ _ T fr h, List.getElem?_toArray, List.getElem?_append_right (by omega), show A.length + j - A.length = j from by omega, List.getElem?_append_left hj]
  exact hv
/-- Of the bytes D those that no block is full of yet are the first of r. -/
def RestOk (D r : List Nat) : Prop := r.length = 64 ∧ r.take (D.length % 64) = D.drop (64 * (D.length / 64))
theorem rest_more (K : List Nat) (S : S8) {D r L : List Nat} (h : RestOk D r) (hm : D.length % 64 + L.length < 64) :
    RestOk (D ++ L) (r.take (D.length % 64) ++ (L ++ r.drop (D.length % 64 + L.length))) ∧ (D ++ L).length / 64 = D.length / 64 ∧ blocksTo K S (D ++ L) (D.length / 64) = blocksTo K S D (D.length / 64) := by
  have hq : (D ++ L).length / 64 = D.length / 64 := by rw [List.length_append]; omega
  have hr : (D ++ L).length % 64 = D.length % 64 + L.length := by rw [List.length_append]; omega
  obtain ⟨h1, h2⟩ := h
  refine ⟨⟨by simp; omega, ?_⟩, hq, ?_⟩
  · rw [hq, hr, ← List.append_assoc, List.take_append_of_le_length (by simp; omega), List.take_of_length_le (by simp; omega), h2, List.drop_append_of_le_length (by omega)]
  · apply blocksTo_same
    rw [List.take_append_of_le_length (by omega)]
theorem rest_full (K : List Nat) (S : S8) {D r L : List Nat} (h : RestOk D r) (hm : D.length % 64 + L.length = 64) :
    mixL K (blocksTo K S D (D.length / 64)) (r.take (D.length % 64) ++ (L ++ r.drop (D.length % 64 + L.length))) = blocksTo K S (D ++ L) ((D ++ L).length / 64) ∧ (D ++ L).length % 64 = 0 ∧ ∀ r' : List Nat, r'.length = 64 → RestOk (D ++ L) r' := by
  have hq : (D ++ L).length / 64 = D.length / 64 + 1 := by rw [List.length_append]; omega
  have hr : (D ++ L).length % 64 = 0 := by rw [List.length_append]; omega
  have hl : D.length + L.length = 64 * (D.length / 64 + 1) := by omega
  obtain ⟨h1, h2⟩ := h
  refine ⟨?_, hr, fun r' h' => ⟨h', ?_⟩⟩
  · rw [hq, blocksTo]
    have e1 : blocksTo K S (D ++ L) (D.length / 64) = blocksTo K S D (D.length / 64) := blocksTo_same K S _ _ _ (by rw [List.take_append_of_le_length (by omega)])
    rw [e1, h2, List.drop_of_length_le (show r.length ≤ D.length % 64 + L.length by omega), List.append_nil, List.drop_append_of_le_length (by omega), List.take_of_length_le (by rw [List.length_append, List.length_drop]; omega)]
  · rw [hr, hq, List.take_zero, List.drop_of_length_le (by rw [List.length_append]; omega)]
theorem rest_bytes {D r L : List Nat} (hr : ∀ x ∈ r, x < 256) (hL : ∀ x ∈ L, x < 256) (a b : Nat) : ∀ x ∈ r.take a ++ (L ++ r.drop b), x < 256 := fun x hx => by
  simp only [List.mem_append] at hx
  rcases hx with h | h | h
  · exact hr x (List.mem_of_mem_take h)
  · exact hL x h
  · exact hr x (List.mem_of_mem_drop h)

/-- A Hash of the bytes D, its constants reckoned. -/
def OnAt (w : World) (h : Nat) (K : List Nat) (S : S8) (D : List Nat) : Prop := ∃ r, HashAt w h 1 0 K (blocksTo K S D (D.length / 64)).list r D.length ∧ RestOk D r ∧ ∀ x ∈ r, x < 256
/-- A Hash of the bytes D. -/
def HIs (w : World) (h : Nat) (K : List Nat) (S : S8) (D : List Nat) : Prop := OnAt w h K S D ∨ (D = [] ∧ HashAt w h 0 0 (List.replicate 64 0) (List.replicate 8 0) (List.replicate 64 0) 0)
theorem OnAt.same {w w' : World} {h : Nat} {K : List Nat} {S : S8} {D : List Nat} (H : OnAt w h K S D) (e : w'.heap[h]? = w.heap[h]?) (hs : w.heap.size ≤ w'.heap.size) : OnAt w' h K S D := by
  obtain ⟨r, h1, h2⟩ := H
  exact ⟨r, h1.same e hs, h2⟩
theorem OnAt.lt {w : World} {h : Nat} {K : List Nat} {S : S8} {D : List Nat} (H : OnAt w h K S D) : h < w.heap.size := by obtain ⟨r, h1, _⟩ := H; exact h1.lt
theorem OnAt.below {w w' : World} {h B : Nat} {K : List Nat} {S : S8} {D : List Nat} (H : OnAt w h K S D) (q : Below B w w') (hB : h < B) : OnAt w' h K S D := H.same (q.block h hB) q.size
theorem HIs.lt {w : World} {h : Nat} {K : List Nat} {S : S8} {D : List Nat} (H : HIs w h K S D) : h < w.heap.size := by
  rcases H with H | ⟨_, H⟩
  · exact H.lt
  · exact H.lt
theorem HIs.below {w w' : World} {h B : Nat} {K : List Nat} {S : S8} {D : List Nat} (H : HIs w h K S D) (q : Below B w w') (hB : h < B) : HIs w' h K S D := by
  rcases H with H | ⟨hd, H⟩
  · exact .inl (H.below q hB)
  · exact .inr ⟨hd, H.below q hB⟩
/-- A part of a row, as slicing makes it. -/
theorem row_rest {k : IntKind} {w : World} {a : Option Addr} {len cap : Nat} {zs : List Int} (hr : Row k w a len cap zs) (n : Nat) (hn : n ≤ len) : ∃ a' c', sliced a n len cap 1 = .slice a' (len - n) c' ∧ Row k w a' (len - n) c' (zs.drop n) ∧ ∀ ad', a' = some ad' → ∃ ad, a = some ad ∧ ad'.block = ad.block := by
  have hl := hr.hlen
  have hc := hr.hcap
  have hm := hr.hmax
  unfold sliced
  cases a with
  | none =>
    refine ⟨none, cap - n, by simp, ⟨by simp [hl], by omega, by omega, fun _ => by have := hr.hnil rfl; omega, fun h0 => ?_⟩, by simp⟩
    have := hr.hnil rfl
    omega
  | some ad =>
    by_cases e : cap = n
    · refine ⟨some ad, cap - n, by simp [e], ⟨by simp [hl], by omega, by omega, by simp, fun h0 => by omega⟩, fun ad' h' => ⟨ad, rfl, by simp at h'; rw [h']⟩⟩
    · by_cases h0 : 0 < len
      · obtain ⟨b, off, hab, hbs, hcell⟩ := hr.hcell h0
        simp only [Option.some.injEq] at hab
        subst hab
        refine ⟨some ⟨b, off + n, none⟩, cap - n, by simp [e, plain_add], ⟨by simp [hl], by omega, by omega, by simp, fun h1 => ⟨b, off + n, rfl, hbs, fun i hi => ?_⟩⟩, fun ad' h' => ⟨_, rfl, by simp at h'; rw [← h']⟩⟩
        rw [Nat.add_assoc, hcell (n + i) (by omega), List.getElem?_drop]
      · refine ⟨_, cap - n, by simp [e]; rfl, ⟨by simp [hl], by omega, by omega, by simp, fun h1 => by omega⟩, fun ad' h' => ⟨_, rfl, ?_⟩⟩
        simp only [Option.some.injEq] at h'
        rw [← h']
        obtain ⟨b, off, sp⟩ := ad
        unfold Addr.add
        split <;> simp_all
theorem run_restA {P : Program} (t e : TypeId) (hu : P.underlying t = some (.slice e)) (he : (P.info? e).map (·.size) = some 1) (a : Option Addr) (len cap n : Nat) (k : IntKind) (hn : n ≤ len) (hc : len ≤ cap) (w : World) :
    (Instr.sliceAt t (.slice a len cap) (some (.int k (n : Int))) none none).run P w = .ok (sliced a n len cap 1) w := by
  have hel : P.elem t = e := by simp [Program.elem, hu]
  obtain ⟨inf, hq, hs⟩ := Option.map_eq_some_iff.1 he
  have hu' : P.underlying t = some (.slice (P.elem t)) := by rw [hel]; exact hu
  rw [run_sliceAt_slice w t _ _ _ _ hu', run_slice_l w t a len cap hu' k (n : Int) (by omega) (by omega)]
  rw [hel]
  simp [sizeOf, typeInfo, hq, hs]
theorem wpList_sliceLo {P : Program} {ops : Array Oper} {rest : List Oper} {o : Oper} {a : Act} {w : World} {Q : Exit → Act → World → Prop} (hgd : o.guard = none) (ty : TypeId) (x lo : Operand) (ho : o.op = .slice ty x (some lo) none none)
    (vx vl v : Value) (hx : a.eval x = vx) (hl : a.eval lo = vl) (hr : (Instr.sliceAt ty vx (some vl) none none).run P w = .ok v w)
    (h : wpList P ops Q rest (a.put o.dst v) w) : wpList P ops Q (o :: rest) a w :=
  wpList_plain hgd fun _ hK => by
    unfold Oper.wp execOp
    simp only [ho, hx, hl, Option.map_some, Option.map_none, Sem.run_bind, Sem.run_pure, Result.andThen_ok, hr]
    exact hK _ _ h
end Go.Proofs.Ythcnnglpncblaaa
