/-
  The walk of layer 5's law BchCorrects, out of the face of bch: it returns true; nothing old turns. (Written by tools/gen/bch_corrects.py.)
-/
import Derived.Test.YtggpgdaacbmmdaaGreatPackI
import Derived.Maps.AppendAt
namespace Go.Proofs.YtggpgdaacbmmdaaGreat
open Go.RowKit
set_option linter.unusedVariables false
set_option maxRecDepth 8192

/-- The flags when the first i places are marked. -/
def setTo (n : Nat) (ps : List Int) (i : Nat) : List Bool := (List.range n).map fun j : Nat => (ps.take i).any fun q => q == (j : Int)
theorem length_setTo (n : Nat) (ps : List Int) (i : Nat) : (setTo n ps i).length = n := by simp [setTo]
theorem setTo_zero (n : Nat) (ps : List Int) : setTo n ps 0 = List.replicate n false := by
  apply List.ext_getElem (by simp [setTo])
  intro i h1 h2
  simp [setTo]
theorem setTo_at (n : Nat) (ps : List Int) (i j : Nat) (hj : j < n) : (setTo n ps i)[j]?.getD false = (ps.take i).any fun q => q == (j : Int) := by simp [setTo, hj]
theorem setTo_succ (n : Nat) (ps : List Int) (i p : Nat) (hi : i < ps.length) (hp : ps[i]?.getD 0 = (p : Int)) (hpn : p < n) : setTo n ps (i + 1) = (setTo n ps i).set p true := by
  apply List.ext_getElem (by simp [length_setTo])
  intro j h1 h2
  rw [length_setTo] at h1
  have e1 : (setTo n ps (i + 1))[j] = (setTo n ps (i + 1))[j]?.getD false := by rw [List.getElem?_eq_getElem (by rw [length_setTo]; exact h1)]; rfl
  have e2 : ((setTo n ps i).set p true)[j] = ((setTo n ps i).set p true)[j]?.getD false := by rw [List.getElem?_eq_getElem h2]; rfl
  rw [e1, e2, setTo_at _ _ _ _ h1, List.take_add_one, List.getElem?_eq_getElem hi, List.getElem?_set]
  have hpi : ps[i] = (p : Int) := by rw [List.getElem?_eq_getElem hi] at hp; exact hp
  by_cases e : p = j
  · subst e
    rw [if_pos rfl, if_pos (by rw [length_setTo]; exact hpn)]
    simp [hpi]
  · rw [if_neg e, setTo_at _ _ _ _ h1]
    simp [hpi]
    omega
/-- Is a place among them? -/
def flagB (ps : List Int) (j : Nat) : Bool := ps.any fun q => q == (j : Int)
theorem setTo_all (n : Nat) (ps : List Int) (j : Nat) (hj : j < n) : (setTo n ps ps.length)[j]?.getD false = flagB ps j := by rw [setTo_at _ _ _ _ hj, List.take_length]; rfl
theorem flagB_mem {ps : List Int} {j : Nat} (h : flagB ps j = true) : (j : Int) ∈ ps := by
  unfold flagB at h
  obtain ⟨q, hq, e⟩ := List.any_eq_true.1 h
  have : q = (j : Int) := by simpa using e
  rwa [this] at hq
def inTo (F : Nat → Bool) (T k : Nat) : List Nat := (List.range k).filter fun j => F j && decide (j < T)
def abTo (F : Nat → Bool) (T k : Nat) : List Nat := lessL T ((List.range k).filter fun j => F j && !decide (j < T))
theorem inTo_hit {F : Nat → Bool} {T k : Nat} (h : F k = true) (hk : k < T) : inTo F T (k + 1) = inTo F T k ++ [k] ∧ abTo F T (k + 1) = abTo F T k := by
  unfold inTo abTo
  rw [List.range_succ, List.filter_append, List.filter_append]
  simp [h, hk]
theorem abTo_hit {F : Nat → Bool} {T k : Nat} (h : F k = true) (hk : ¬ k < T) : inTo F T (k + 1) = inTo F T k ∧ abTo F T (k + 1) = abTo F T k ++ [k - T] := by
  unfold inTo abTo
  rw [List.range_succ, List.filter_append, List.filter_append]
  simp [h, hk, lessL]
theorem none_hit {F : Nat → Bool} {T k : Nat} (h : F k = false) : inTo F T (k + 1) = inTo F T k ∧ abTo F T (k + 1) = abTo F T k := by
  unfold inTo abTo
  rw [List.range_succ, List.filter_append, List.filter_append]
  simp [h]
theorem inTo_le (F : Nat → Bool) (T k : Nat) : (inTo F T k).length ≤ k ∧ (abTo F T k).length ≤ k := by
  have h1 := List.length_filter_le (fun j => F j && decide (j < T)) (List.range k)
  have h2 := List.length_filter_le (fun j => F j && !decide (j < T)) (List.range k)
  rw [List.length_range] at h1 h2
  exact ⟨h1, by unfold abTo lessL; rw [List.length_map]; exact h2⟩
theorem nodup_len {l m : List Int} (h : l.Nodup) (hs : ∀ x ∈ l, x ∈ m) : l.length ≤ m.length := by
  induction l generalizing m with
  | nil => exact Nat.zero_le _
  | cons a l ih =>
    obtain ⟨h1, h2⟩ := List.nodup_cons.1 h
    have ha := hs a (List.mem_cons_self)
    have := ih (m := m.erase a) h2 fun x hx => (List.mem_erase_of_ne (fun e => h1 (by rw [← e]; exact hx))).2 (hs x (List.mem_cons_of_mem _ hx))
    rw [List.length_erase_of_mem ha] at this
    have hp := List.length_pos_of_mem ha
    simp
    omega
theorem split_len (P : List Nat) (T : Nat) : (P.filter fun q => decide (q < T)).length + (lessL T (P.filter fun q => !decide (q < T))).length = P.length := by
  unfold lessL
  rw [List.length_map]
  induction P with
  | nil => rfl
  | cons a P ih =>
    by_cases ha : a < T
    · simp [ha] at ih ⊢
      omega
    · simp [ha] at ih ⊢
      omega
/-- **What was encoded and flipped at t places or fewer is within t of what was encoded.** -/
theorem corr_dec {t : Nat} {x z : List Int} {ps : List Int} (h1 : 1 ≤ t) (h8 : t ≤ 8) (hx : IsB x) (hz : IsEnc t x z) (hl : ps.length ≤ t) :
    inAll z.length (ints (inTo (flagB ps) (13 * t) (13 * t + 8 * x.length))) ∧ inAll x.length (ints (abTo (flagB ps) (13 * t) (13 * t + 8 * x.length))) ∧
    IsDec t (turnI x (ints (abTo (flagB ps) (13 * t) (13 * t + 8 * x.length)))) (turnI z (ints (inTo (flagB ps) (13 * t) (13 * t + 8 * x.length)))) x z ((inTo (flagB ps) (13 * t) (13 * t + 8 * x.length)).length + (abTo (flagB ps) (13 * t) (13 * t + 8 * x.length)).length) := by
  have hlow : IsLow t z z := ⟨rfl, hz.isB, fun i => by
    by_cases hi : i < 13 * t
    · rw [if_pos hi]
    · rw [if_neg hi, hz.above i (by omega)]⟩
  have hd := dec_words h1 h8 hx hz.len hlow (f := flagB ps) (P := (List.range (13 * t + 8 * x.length)).filter (flagB ps)) rfl
  obtain ⟨e1, e2, _⟩ := low_count ((List.range (13 * t + 8 * x.length)).filter (flagB ps)) (13 * t) (sorted_filter _ _)
  rw [e1, e2] at hd
  have f1 : ((List.range (13 * t + 8 * x.length)).filter (flagB ps)).filter (fun q => decide (q < 13 * t)) = inTo (flagB ps) (13 * t) (13 * t + 8 * x.length) := by
    unfold inTo
    rw [List.filter_filter]
    exact List.filter_congr fun i _ => Bool.and_comm _ _
  have f2 : lessL (13 * t) (((List.range (13 * t + 8 * x.length)).filter (flagB ps)).filter (fun q => !decide (q < 13 * t))) = abTo (flagB ps) (13 * t) (13 * t + 8 * x.length) := by
    unfold abTo
    rw [List.filter_filter]
    congr 1
    exact List.filter_congr fun i _ => Bool.and_comm _ _
  have hcount := split_len ((List.range (13 * t + 8 * x.length)).filter (flagB ps)) (13 * t)
  rw [f1, f2] at hd hcount
  obtain ⟨i1, i2, i3, i4⟩ := hd
  have hnd : ((List.range (13 * t + 8 * x.length)).filter (flagB ps)).Nodup := nodup_of_sorted (sorted_filter _ _)
  have hle : ((List.range (13 * t + 8 * x.length)).filter (flagB ps)).length ≤ t := by
    have := nodup_len (l := ints ((List.range (13 * t + 8 * x.length)).filter (flagB ps))) (m := ps) (by
      unfold ints
      rw [List.Nodup, List.pairwise_map]
      exact hnd.imp fun h => by omega) (fun y hy => by
      unfold ints at hy
      obtain ⟨q, hq, rfl⟩ := List.mem_map.1 hy
      exact flagB_mem (List.mem_filter.1 hq).2)
    rw [length_ints] at this
    omega
  have ff := flip_facts (f := flagB ps) (is01_wordL t (turnI x (ints (abTo (flagB ps) (13 * t) (13 * t + 8 * x.length)))) (turnI z (ints (inTo (flagB ps) (13 * t) (13 * t + 8 * x.length))))) (is01_wordL t x z) (by rw [length_wordL, length_turnI]) (length_wordL t x z) (fun i hi => by
    rw [i4 i hi, Nat.xor_assoc, Nat.xor_self, Nat.xor_zero])
  exact ⟨i1, i2, ⟨(length_turnI _ _).symm, hz.len, hx, hz.isB, hz.above, hz.cw, by rw [length_turnI, ff.2.1, hcount], by omega⟩⟩

/-! Two lists that grow beside the flags. -/
theorem owned_cellB {e : TypeId} {w : World} {base g n cap : Nat} {zs : List Bool} (h : w.ownsRow base e 1 (.slice (some ⟨g, 0, none⟩) n cap) n (zs.map Value.bool)) (i : Nat) (hi : i < n) :
    w.cell? ⟨g, i, none⟩ = some (.bool (zs[i]?.getD false)) := by
  have hl : zs.length = n := by have := h.1; simpa using this
  rw [h.cellAt i (by omega)]
  simp [List.getElem?_map, List.getElem?_eq_getElem (show i < zs.length from by omega)]
structure SplitAt (Tb Ti : TypeId) (g n : Nat) (fl : List Bool) (I A : List Nat) (v11 v12 : Value) (wr : World) : Prop where
  flags : wr.ownsRow g Tb 1 (.slice (some ⟨g, 0, none⟩) n n) n (fl.map Value.bool)
  li : wr.ownsRow (g + 1) Ti 1 v11 I.length ((ints I).map (Value.int .i64))
  la : wr.ownsRow (g + 1) Ti 1 v12 A.length ((ints A).map (Value.int .i64))
  ap : ∀ b, v11.ownBlock = some b → v12.ownBlock ≠ some b
theorem apart_or {v u : Value} (h : ∀ b, v.ownBlock = some b → u.ownBlock ≠ some b) : u.ownBlock = none ∨ u.ownBlock ≠ v.ownBlock := by
  cases hv : v.ownBlock with
  | none => cases hu : u.ownBlock with
    | none => exact .inl rfl
    | some b => exact .inr (by simp)
  | some b => exact .inr (h b hv)
theorem SplitAt.flags_kept {Tb Ti : TypeId} {g n : Nat} {fl : List Bool} {I A : List Nat} {v11 v12 : Value} {wr w1 : World} {row : Option Nat} (h : SplitAt Tb Ti g n fl I A v11 v12 wr) (o : Obj) (hg : (wr.alloc o).grownBy w1 row) (hr : ∀ b, row = some b → g + 1 ≤ b) :
    w1.ownsRow g Tb 1 (.slice (some ⟨g, 0, none⟩) n n) n (fl.map Value.bool) :=
  (h.flags.alloc o).kept hg (.inr (by
    show some g ≠ row
    intro e
    have := hr g e.symm
    omega))
theorem SplitAt.pushI {Tb Ti : TypeId} {g n : Nat} {fl : List Bool} {I A : List Nat} {v11 v12 v' : Value} {wr w1 : World} {k : Nat} (h : SplitAt Tb Ti g n fl I A v11 v12 wr) (o : Obj) (ho : w1.ownsRow (g + 1) Ti 1 v' (I.length + 1) ((ints I).map (Value.int .i64) ++ [.int .i64 (k : Int)])) (hg : (wr.alloc o).grownBy w1 v11.ownBlock)
    (hat : v'.ownBlock = v11.ownBlock ∨ v'.ownBlock = some (wr.heap.size + 1)) : SplitAt Tb Ti g n fl (I ++ [k]) A v' v12 w1 := by
  refine ⟨h.flags_kept o hg (fun b hb => (h.li.lt b hb).1), ?_, (h.la.alloc o).kept hg (apart_or h.ap), fun b hb => ?_⟩
  · rw [List.length_append, ints_snoc, List.map_append]
    exact ho
  · rcases hat with e | e
    · exact h.ap b (by rw [← e]; exact hb)
    · intro hb2
      have := (h.la.lt b hb2).2
      rw [e] at hb
      simp at hb
      omega
theorem SplitAt.pushA {Tb Ti : TypeId} {g n : Nat} {fl : List Bool} {I A : List Nat} {v11 v12 v' : Value} {wr w1 : World} {k : Nat} (h : SplitAt Tb Ti g n fl I A v11 v12 wr) (o : Obj) (ho : w1.ownsRow (g + 1) Ti 1 v' (A.length + 1) ((ints A).map (Value.int .i64) ++ [.int .i64 (k : Int)])) (hg : (wr.alloc o).grownBy w1 v12.ownBlock)
    (hat : v'.ownBlock = v12.ownBlock ∨ v'.ownBlock = some (wr.heap.size + 1)) : SplitAt Tb Ti g n fl I (A ++ [k]) v11 v' w1 := by
  refine ⟨h.flags_kept o hg (fun b hb => (h.la.lt b hb).1), (h.li.alloc o).kept hg (apart_or (v := v12) (u := v11) fun b hb he => h.ap b he hb), ?_, fun b hb => ?_⟩
  · rw [List.length_append, ints_snoc, List.map_append]
    exact ho
  · rcases hat with e | e
    · rw [e]; exact h.ap b hb
    · intro hb2
      have := (h.li.lt b hb).2
      rw [e] at hb2
      simp at hb2
      omega

end Go.Proofs.YtggpgdaacbmmdaaGreat
