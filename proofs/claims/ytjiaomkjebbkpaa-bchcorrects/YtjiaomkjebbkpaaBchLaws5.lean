/-
  The walk of layer 5's law BchCorrects, out of the face of bch: it returns true; nothing old turns. (Written by tools/gen/bch_corrects.py.)
-/
import Derived.Test.YtjiaomkjebbkpaaBchCode9
import Derived.Maps.AppendAt
namespace Go.Proofs.Ytjiaomkjebbkpaa
open Go.RowKit
set_option linter.unusedVariables false

/-- The flags when the first i places are marked. -/
def setTo (n : Nat) (ps : List Int) (i : Nat) : List Bool := (List.range n).map fun j : Nat => (ps.take i).any fun q => q == (j : Int)
theorem length_setTo (n : Nat) (ps : List Int) (i : Nat) : (setTo n ps i).length = n := by simp [setTo]
theorem setTo_zero (n : Nat) (ps : List Int) : setTo n ps 0 = List.replicate n false := by
  apply List.ext_getElem (by simp [setTo])
  intro i h1 h2
  simp [setTo]
theorem setTo_at (n : Nat) (ps : List Int) (i j : Nat) (hj : j < n) : (setTo n ps i)[j]?.getD false = (ps.take i).any fun q => q == (j : Int) := by simp [setTo, hj]
theorem setTo_succ (n : Nat) (ps : List Int) (i p : Nat) (hi : i < ps.length) (hp : ps[i]?.getD 0 = (p : Int)) (hpn : p < n) : setTo n ps (i + 1) = (setTo n ps i).set p true := by
  apply List.ext_getElem (by simp [length_setTo])
  intro j h1 h2
  rw [length_setTo] at h1
  have e1 : (setTo n ps (i + 1))[j] = (setTo n ps (i + 1))[j]?.getD false := by rw [List.getElem?_eq_getElem (by rw [length_setTo]; exact h1)]; rfl
  have e2 : ((setTo n ps i).set p true)[j] = ((setTo n ps i).set p true)[j]?.getD false := by rw [List.getElem?_eq_getElem h2]; rfl
  rw [e1, e2, setTo_at _ _ _ _ h1, List.take_add_one, List.getElem?_eq_getElem hi, List.getElem?_set]
  have hpi : ps[i] = (p : Int) := by rw [List.getElem?_eq_getElem hi] at hp; exact hp
  by_cases e : p = j
  · subst e
    rw [if_pos rfl, if_pos (by rw [length_setTo]; exact hpn)]
    simp [hpi]
  · rw [if_neg e, setTo_at _ _ _ _ h1]
    simp [hpi]
    omega
/-- Is a place among them? -/
def flagB (ps : List Int) (j : Nat) : Bool := ps.any fun q => q == (j : Int)
theorem setTo_all (n : Nat) (ps : List Int) (j : Nat) (hj : j < n) : (setTo n ps ps.length)[j]?.getD false = flagB ps j := by rw [setTo_at _ _ _ _ hj, List.take_length]; rfl
theorem flagB_mem {ps : List Int} {j : Nat} (h : flagB ps j = true) : (j : Int) ∈ ps := by
  unfold flagB at h
  obtain ⟨q, hq, e⟩ := List.any_eq_true.1 h
  have : q = (j : Int) := by simpa using e
  rwa [this] at hq
def inTo (F : Nat → Bool) (T k : Nat) : List Nat := (List.range k).filter fun j => F j && decide (j < T)
def abTo (F : Nat → Bool) (T k : Nat) : List Nat := lessL T ((List.range k).filter fun j => F j && !decide (j < T))
theorem inTo_hit {F : Nat → Bool} {T k : Nat} (h : F k = true) (hk : k < T) : inTo F T (k + 1) = inTo F T k ++ [k] ∧ abTo F T (k + 1) = abTo F T k := by
  unfold inTo abTo
  rw [List.range_succ, List.filter_append, List.filter_append]
  simp [h, hk]
theorem abTo_hit {F : Nat → Bool} {T k : Nat} (h : F k = true) (hk : ¬ k < T) : inTo F T (k + 1) = inTo F T k ∧ abTo F T (k + 1) = abTo F T k ++ [k - T] := by
  unfold inTo abTo
  rw [List.range_succ, List.filter_append, List.filter_append]
  simp [h, hk, lessL]
theorem none_hit {F : Nat → Bool} {T k : Nat} (h : F k = false) : inTo F T (k + 1) = inTo F T k ∧ abTo F T (k + 1) = abTo F T k := by
  unfold inTo abTo
  rw [List.range_succ, List.filter_append, List.filter_append]
  simp [h]
theorem inTo_le (F : Nat → Bool) (T k : Nat) : (inTo F T k).length ≤ k ∧ (abTo F T k).length ≤ k := by
  have h1 := List.length_filter_le (fun j => F j && decide (j < T)) (List.range k)
  have h2 := List.length_filter_le (fun j => F j && !decide (j < T)) (List.range k)
  rw [List.length_range] at h1 h2
  exact ⟨h1, by unfold abTo lessL; rw [List.length_map]; exact h2⟩
theorem nodup_len {l m : List Int} (h : l.Nodup) (hs : ∀ x ∈ l, x ∈ m) : l.length ≤ m.length := by
  induction l generalizing m with
  | nil => exact Nat.zero_le _
  | cons a l ih =>
    obtain ⟨h1, h2⟩ := List.nodup_cons.1 h
    have ha := hs a (List.mem_cons_self)
    have := ih (m := m.erase a) h2 fun x hx => (List.mem_erase_of_ne (fun e => h1 (by rw [← e]; exact hx))).2 (hs x (List.mem_cons_of_mem _ hx))
    rw [List.length_erase_of_mem ha] at this
    have hp := List.length_pos_of_mem ha
    simp
    omega
theorem split_len (P : List Nat) (T : Nat) : (P.filter fun q => decide (q < T)).length + (lessL T (P.filter fun q => !decide (q < T))).length = P.length := by
  unfold lessL
  rw [List.length_map]
  induction P with
  | nil => rfl
  | cons a P ih =>
    by_cases ha : a < T
    · simp [ha] at ih ⊢
      omega
    · simp [ha] at ih ⊢
      omega
/-- **What was encoded and flipped at t places or fewer is within t of what was encoded.** -/
theorem corr_dec {t : Nat} {x z : List Int} {ps : List Int} (h1 : 1 ≤ t) (h8 : t ≤ 8) (hx : IsB x) (hz : IsEnc t x z) (hl : ps.length ≤ t) :
    inAll z.length (ints (inTo (flagB ps) (13 * t) (13 * t + 8 * x.length))) ∧ inAll x.length (ints (abTo (flagB ps) (13 * t) (13 * t + 8 * x.length))) ∧
    IsDec t (turnI x (ints (abTo (flagB ps) (13 * t) (13 * t + 8 * x.length)))) (turnI z (ints (inTo (flagB ps) (13 * t) (13 * t + 8 * x.length)))) x z ((inTo (flagB ps) (13 * t) (13 * t + 8 * x.length)).length + (abTo (flagB ps) (13 * t) (13 * t + 8 * x.length)).length) := by
  have hlow : IsLow t z z := ⟨rfl, hz.isB, fun i => by
    by_cases hi : i < 13 * t
    · rw [if_pos hi]
    · rw [if_neg hi, hz.above i (by omega)]⟩
  have hd := dec_words h1 h8 hx hz.len hlow (f := flagB ps) (P := (List.range (13 * t + 8 * x.length)).filter (flagB ps)) rfl
  obtain ⟨e1, e2, _⟩ := low_count ((List.range (13 * t + 8 * x.length)).filter (flagB ps)) (13 * t) (sorted_filter _ _)
  rw [e1, e2] at hd
  have f1 : ((List.range (13 * t + 8 * x.length)).filter (flagB ps)).filter (fun q => decide (q < 13 * t)) = inTo (flagB ps) (13 * t) (13 * t + 8 * x.length) := by
    unfold inTo
    rw [List.filter_filter]
    exact List.filter_congr fun i _ => Bool.and_comm _ _
  have f2 : lessL (13 * t) (((List.range (13 * t + 8 * x.length)).filter (flagB ps)).filter (fun q => !decide (q < 13 * t))) = abTo (flagB ps) (13 * t) (13 * t + 8 * x.length) := by
    unfold abTo
    rw [List.filter_filter]
    congr 1
    exact List.filter_congr fun i _ => Bool.and_comm _ _
  have hcount := split_len ((List.range (13 * t + 8 * x.length)).filter (flagB ps)) (13 * t)
  rw [f1, f2] at hd hcount
  obtain ⟨i1, i2, i3, i4⟩ := hd
  have hnd : ((List.range (13 * t + 8 * x.length)).filter (flagB ps)).Nodup := nodup_of_sorted (sorted_filter _ _)
  have hle : ((List.range (13 * t + 8 * x.length)).filter (flagB ps)).length ≤ t := by
    have := nodup_len (l := ints ((List.range (13 * t + 8 * x.length)).filter (flagB ps))) (m := ps) (by
      unfold ints
      rw [List.Nodup, List.pairwise_map]
      exact hnd.imp fun h => by omega) (fun y hy => by
      unfold ints at hy
      obtain ⟨q, hq, rfl⟩ := List.mem_map.1 hy
      exact flagB_mem (List.mem_filter.1 hq).2)
    rw [length_ints] at this
    omega
  have ff := flip_facts (f := flagB ps) (is01_wordL t (turnI x (ints (abTo (flagB ps) (13 * t) (13 * t + 8 * x.length)))) (turnI z (ints (inTo (flagB ps) (13 * t) (13 * t + 8 * x.length))))) (is01_wordL t x z) (by rw [length_wordL, length_turnI]) (length_wordL t x z) (fun i hi => by
    rw [i4 i hi, Nat.xor_assoc, Nat.xor_self, Nat.xor_zero])
  exact ⟨i1, i2, ⟨(length_turnI _ _).symm, hz.len, hx, hz.isB, hz.above, hz.cw, by rw [length_turnI, ff.2.1, hcount], by omega⟩⟩

/-! Two lists that grow beside the flags. -/
theorem owned_cellB {e : TypeId} {w : World} {base g n cap : Nat} {zs : List Bool} (h : w.ownsRow base e 1 (.slice (some ⟨g, 0, none⟩) n cap) n (zs.map Value.bool)) (i : Nat) (hi : i < n) :
    w.cell? ⟨g, i, none⟩ = some (.bool (zs[i]?.getD false)) := by
  have hl : zs.length = n := by have := h.1; simpa using this
  rw [h.cellAt i (by omega)]
  simp [List.getElem?_map, List.getElem?_eq_getElem (show i < zs.length from by omega)]
structure SplitAt (Tb Ti : TypeId) (g n : Nat) (fl : List Bool) (I A : List Nat) (v11 v12 : Value) (wr : World) : Prop where
  flags : wr.ownsRow g Tb 1 (.slice (some ⟨g, 0, none⟩) n n) n (fl.map Value.bool)
  li : wr.ownsRow (g + 1) Ti 1 v11 I.length ((ints I).map (Value.int .i64))
  la : wr.ownsRow (g + 1) Ti 1 v12 A.length ((ints A).map (Value.int .i64))
  ap : ∀ b, v11.ownBlock = some b → v12.ownBlock ≠ some b
theorem apart_or {v u : Value} (h : ∀ b, v.ownBlock = some b → u.ownBlock ≠ some b) : u.ownBlock = none ∨ u.ownBlock ≠ v.ownBlock := by
  cases hv : v.ownBlock with
  | none => cases hu : u.ownBlock with
    | none => exact .inl rfl
    | some b => exact .inr (by simp)
  | some b => exact .inr (h b hv)
theorem SplitAt.flags_kept {Tb Ti : TypeId} {g n : Nat} {fl : List Bool} {I A : List Nat} {v11 v12 : Value} {wr w1 : World} {row : Option Nat} (h : SplitAt Tb Ti g n fl I A v11 v12 wr) (o : Obj) (hg : (wr.alloc o).grownBy w1 row) (hr : ∀ b, row = some b → g + 1 ≤ b) :
    w1.ownsRow g Tb 1 (.slice (some ⟨g, 0, none⟩) n n) n (fl.map Value.bool) :=
  (h.flags.alloc o).kept hg (.inr (by
    show some g ≠ row
    intro e
    have := hr g e.symm
    omega))
theorem SplitAt.pushI {Tb Ti : TypeId} {g n : Nat} {fl : List Bool} {I A : List Nat} {v11 v12 v' : Value} {wr w1 : World} {k : Nat} (h : SplitAt Tb Ti g n fl I A v11 v12 wr) (o : Obj) (ho : w1.ownsRow (g + 1) Ti 1 v' (I.length + 1) ((ints I).map (Value.int .i64) ++ [.int .i64 (k : Int)])) (hg : (wr.alloc o).grownBy w1 v11.ownBlock)
    (hat : v'.ownBlock = v11.ownBlock ∨ v'.ownBlock = some (wr.heap.size + 1)) : SplitAt Tb Ti g n fl (I ++ [k]) A v' v12 w1 := by
  refine ⟨h.flags_kept o hg (fun b hb => (h.li.lt b hb).1), ?_, (h.la.alloc o).kept hg (apart_or h.ap), fun b hb => ?_⟩
  · rw [List.length_append, ints_snoc, List.map_append]
    exact ho
  · rcases hat with e | e
    · exact h.ap b (by rw [← e]; exact hb)
    · intro hb2
      have := (h.la.lt b hb2).2
      rw [e] at hb
      simp at hb
      omega
theorem SplitAt.pushA {Tb Ti : TypeId} {g n : Nat} {fl : List Bool} {I A : List Nat} {v11 v12 v' : Value} {wr w1 : World} {k : Nat} (h : SplitAt Tb Ti g n fl I A v11 v12 wr) (o : Obj) (ho : w1.ownsRow (g + 1) Ti 1 v' (A.length + 1) ((ints A).map (Value.int .i64) ++ [.int .i64 (k : Int)])) (hg : (wr.alloc o).grownBy w1 v12.ownBlock)
    (hat : v'.ownBlock = v12.ownBlock ∨ v'.ownBlock = some (wr.heap.size + 1)) : SplitAt Tb Ti g n fl I (A ++ [k]) v11 v' w1 := by
  refine ⟨h.flags_kept o hg (fun b hb => (h.la.lt b hb).1), (h.li.alloc o).kept hg (apart_or (v := v12) (u := v11) fun b hb he => h.ap b he hb), ?_, fun b hb => ?_⟩
  · rw [List.length_append, ints_snoc, List.map_append]
    exact ho
  · rcases hat with e | e
    · rw [e]; exact h.ap b hb
    · intro hb2
      have := (h.li.lt b hb).2
      rw [e] at hb2
      simp at hb2
      omega

theorem Try.info4 : (Try.prog.info? 4).map (fun i => (i.zero, i.size, i.bytes)) = some (some (.bool false), 1, 1) := by kernel_rfl
theorem made_bools (n : Nat) : (madeCells (Value.bool false).cells (n * 1)).toList = (List.replicate n false).map Value.bool := by
  rw [Nat.mul_one]
  simpa [Value.cells] using toList_madeCells_one (Value.bool false) n
set_option maxHeartbeats 12800000 in
set_option maxRecDepth 100000 in
theorem walk_bchCorrects (hB : HBitsC) (hE : HEncC) (hD : HDecC) (t : Int) (a c : Option Addr) (len cap pl cap' : Nat) (x ps : List Int) (w : World) (t1 : -9223372036854775808 ≤ t) (t2 : t ≤ 9223372036854775807)
    (rx : Row .u8 w a len cap x) (bx : IsB x) (rp : Row .i64 w c pl cap' ps) (hw : ∀ q ∈ ps, (Lit.int .i64 q).wf = true) :
    Calls Try.prog 5 #[.int .i64 t, .slice a len cap, .slice c pl cap'] w fun e w' => e = .returned (.bool true) ∧ Below w.heap.size w w' := by
  have hmax : len ≤ maxLen := Nat.le_trans rx.hcap rx.hmax
  have hmax' : pl ≤ maxLen := Nat.le_trans rp.hcap rp.hmax
  by_cases hs : len ≤ 40
  case neg =>
    have hsm := small5_no (n := len) (m := 0) (fun h => hs h.1)
    go_enter Try.func5, Try.ntmps5
    go_wp2_with fail
    refine (small5_any _ _ _ _ _ _ _ hmax (Nat.zero_le _)).mono ?_
    rintro e w' ⟨rfl, rfl⟩
    rw [hsm]
    go_wp2_with fail
    go_ret
    exact ⟨rfl, Below.refl _ _⟩
  have hsm := small5_yes hs (Nat.zero_le 40)
  by_cases hg : len = 0 ∨ t < 1 ∨ 8 < t ∨ t < (pl : Int)
  · unfold maxLen at hmax'
    rcases (show len = 0 ∨ (len ≠ 0 ∧ t < 1) ∨ (len ≠ 0 ∧ 1 ≤ t ∧ 8 < t) ∨ (len ≠ 0 ∧ 1 ≤ t ∧ t ≤ 8 ∧ t < (pl : Int)) by omega) with h | ⟨h1, h2⟩ | ⟨h1, h2, h3⟩ | ⟨h1, h2, h3, h4⟩
    · subst h
      clear hg
      go_enter Try.func5, Try.ntmps5
      go_wp2_with fail
      refine (small5_any _ _ _ _ _ _ _ hmax (Nat.zero_le _)).mono ?_
      rintro e w' ⟨rfl, rfl⟩
      rw [hsm]
      go_wp2_with fail
      go_ret
      exact ⟨rfl, Below.refl _ _⟩
    · have g1 : ((len : Int) == 0) = false := by simp; omega
      clear hg h1
      go_enter Try.func5, Try.ntmps5
      go_wp2_with fail
      refine (small5_any _ _ _ _ _ _ _ hmax (Nat.zero_le _)).mono ?_
      rintro e w' ⟨rfl, rfl⟩
      rw [hsm]
      go_wp2_with fail
      go_ret
      exact ⟨rfl, Below.refl _ _⟩
    · have g1 : ((len : Int) == 0) = false := by simp; omega
      clear hg h1
      go_enter Try.func5, Try.ntmps5
      go_wp2_with fail
      refine (small5_any _ _ _ _ _ _ _ hmax (Nat.zero_le _)).mono ?_
      rintro e w' ⟨rfl, rfl⟩
      rw [hsm]
      go_wp2_with fail
      go_ret
      exact ⟨rfl, Below.refl _ _⟩
    · have g1 : ((len : Int) == 0) = false := by simp; omega
      clear hg h1
      go_enter Try.func5, Try.ntmps5
      go_wp2_with fail
      refine (small5_any _ _ _ _ _ _ _ hmax (Nat.zero_le _)).mono ?_
      rintro e w' ⟨rfl, rfl⟩
      rw [hsm]
      go_wp2_with fail
      go_ret
      exact ⟨rfl, Below.refl _ _⟩
  have hl0 : 1 ≤ len := by omega
  obtain ⟨t, rfl⟩ := Int.eq_ofNat_of_zero_le (show 0 ≤ t by omega)
  have ht1 : 1 ≤ t := by omega
  have ht2 : t ≤ 8 := by omega
  have hpt : pl ≤ t := by omega
  clear hg t1 t2
  have g1 : ((len : Int) == 0) = false := by simp; omega
  obtain ⟨j0, hj0, hy0, hy1, hy2⟩ := info_parts Try.info4
  obtain ⟨i0, hi0, hz0, hz1, hz2⟩ := info_parts Try.info3
  have HLx : Hid (x.length = len) := rx.hlen
  have HLp : Hid (ps.length = pl) := rp.hlen
  obtain ⟨n, hn⟩ : ∃ n, n = (13 * t + 7) / 8 := ⟨_, rfl⟩
  have HN : Hid (n = (13 * t + 7) / 8) := hn
  have hn14 : n ≤ 14 := by omega
  have hn8 : 13 * t ≤ 8 * n := by omega
  have cSz := refSize_any t
  rw [← hn] at cSz
  have HMAY : Hid (mayB t len (n : Nat) = true) := by show _ = _; unfold mayB; rw [decide_eq_true_iff]; omega
  clear hn
  obtain ⟨N, hNN⟩ : ∃ N, N = 13 * t + 8 * len := ⟨_, rfl⟩
  have hN8 : N ≤ 500 := by omega
  have HNN : Hid (N = 13 * t + 8 * len) := hNN
  have eN : 13 * (t : Int) + 8 * (len : Int) = (N : Int) := by omega
  have eNw : IntKind.i64.wrap ((N : Nat) : Int) = (N : Int) := by rw [IntKind.wrap_i64]; omega
  have h13N : 13 * t ≤ N := by omega
  clear hNN
  have HCOR : Hid (∀ z, IsEnc t x z → inAll n (ints (inTo (flagB ps) (13 * t) N)) ∧ inAll len (ints (abTo (flagB ps) (13 * t) N)) ∧
      IsDec t (turnI x (ints (abTo (flagB ps) (13 * t) N))) (turnI z (ints (inTo (flagB ps) (13 * t) N))) x z ((inTo (flagB ps) (13 * t) N).length + (abTo (flagB ps) (13 * t) N).length)) := fun z hz => by
    have := corr_dec (ps := ps) ht1 ht2 bx hz (by rw [HLp.out]; exact hpt)
    rw [HLx.out, ← HNN.out, hz.len, ← HN.out] at this
    exact this
  have HUQ : Hid (∀ b m d k q q', b.length = len → IsDec t b m d k q → ∀ d' k', IsDec t b m d' k' q' → d = d' ∧ k = k' ∧ q = q') := fun b m d k q q' hb h d' k' h' => dec_unique (by rw [hb]; omega) h h'
  have HSA : Hid (∀ j, j < N → (setTo N ps pl)[j]?.getD false = flagB ps j) := fun j hj => by rw [← HLp.out]; exact setTo_all N ps j hj
  have HSS : Hid (∀ i p, i < pl → ps[i]?.getD 0 = ((p : Nat) : Int) → p < N → setTo N ps (i + 1) = (setTo N ps i).set p true) := fun i p hi hp hpn => setTo_succ N ps i p (by rw [HLp.out]; exact hi) hp hpn
  have HPB : Hid (∀ k, k < pl → -9223372036854775808 ≤ ps[k]?.getD 0 ∧ ps[k]?.getD 0 ≤ 9223372036854775807) := fun k hk => by
    have hk' : k < ps.length := by rw [HLp.out]; exact hk
    rw [List.getElem?_eq_getElem hk']
    exact bounds_i64 (hw _ (List.getElem_mem hk'))
  clear hw
  have hmaxN : N ≤ maxLen := by unfold maxLen; omega
  have HMK : Hid (∀ (w0 w1 : World), w1.ownsRow w0.heap.size 4 1 (.slice (some ⟨w0.heap.size, 0, none⟩) N N) N (madeCells (Value.bool false).cells (N * 1)).toList → w0.grownBy w1 none →
      w1.ownsRow w0.heap.size 4 1 (.slice (some ⟨w0.heap.size, 0, none⟩) N N) N ((setTo N ps 0).map Value.bool) ∧ Below w0.heap.size w0 w1) := fun w0 w1 h1 h2 => by
    rw [made_bools] at h1
    exact ⟨by rw [setTo_zero]; exact h1, (Below.refl _ _).grown h2 (Nat.le_refl _) (by simp)⟩
  go_enter Try.func5, Try.ntmps5
  go_wp2_with fail
  refine (small5_any _ _ _ _ _ _ _ hmax (Nat.zero_le _)).mono ?_
  rintro e w' ⟨rfl, rfl⟩
  rw [hsm]
  -- more
  go_wp2_with fail
  refine (hE.yes t _ _ _ x _ rx bx (by omega) ht1 ht2 hl0).mono ?_
  rintro e w1 ⟨z, hz, az, cz, rfl, rz, q1⟩
  have hlz : z.length = n := by rw [hz.len, HN.out]
  have bz := hz.isB
  obtain ⟨hin1, hin2, hdec⟩ := HCOR.out z hz
  have HDEC : Hid _ := hdec
  have HIN1 : Hid (inB n (ints (inTo (flagB ps) (13 * t) N)) = true) := (inB_iff _ _).2 hin1
  have HIN2 : Hid (inB len (ints (abTo (flagB ps) (13 * t) N)) = true) := (inB_iff _ _).2 hin2
  have HWF1 : Hid (∀ q ∈ ints (inTo (flagB ps) (13 * t) N), (Lit.int .i64 q).wf = true) := wf_of_in hin1 (by omega)
  have HWF2 : Hid (∀ q ∈ ints (abTo (flagB ps) (13 * t) N), (Lit.int .i64 q).wf = true) := wf_of_in hin2 (by omega)
  have HLz : Hid (z.length = n) := hlz
  rw [hlz] at rz ⊢
  clear hz hlz hin1 hin2 hdec HCOR
  replace rx := rx.below q1 (Nat.le_refl _)
  replace rp := rp.below q1 (Nat.le_refl _)
  go_wp2_with fail
  refine (cSz _ ht2).mono ?_
  rintro e w' ⟨rfl, rfl⟩
  clear cSz
  -- flip
  go_wp2_with (at_make; refine wpList_make_full _ rfl _ _ 40 rfl w1.heap.size 4 j0 (.bool false) 1 Try.underlying40 hj0 hy0 hy1 _ _ _ _ N rfl rfl (by omega) (by omega) (by rw [hy2]; omega) hmaxN (Nat.le_refl _) ?_; intro w2 hown2 hgrow2)
  obtain ⟨hf0, hb0⟩ := HMK.out w1 w2 hown2 hgrow2
  clear hown2 hgrow2 HMK
  have HQ1 : Hid (Below w.heap.size w w1) := q1
  clear q1
  generalize hgg : w1.heap.size = g at *
  have HGG : Hid (w1.heap.size = g) := hgg
  clear hgg
  go_loopw [10] (fun y wr => ∃ i : Nat, i ≤ pl ∧ y = .int .i64 i ∧ wr.ownsRow g 4 1 (.slice (some ⟨g, 0, none⟩) N N) N ((setTo N ps i).map Value.bool) ∧ Below g w1 wr) (fun y _ => pl - (intOf y).toNat)
  case atStart => exact ⟨0, Nat.zero_le _, rfl, hf0, hb0⟩
  case round =>
    clear hf0 hb0
    obtain ⟨i, hi, rfl, hf, hb⟩ := hrel
    by_cases hlt : i < pl
    · have hrr := rp.below hb (by rw [HGG.out]; exact Nat.le_refl _)
      obtain ⟨b1, off1, rfl, hbs1, hcell1⟩ := hrr.hcell (by omega)
      have hd1 := hcell1 i hlt
      clear hcell1 hrr
      have hpb := HPB.out i hlt
      have HSi : Hid (∀ p : Nat, ps[i]?.getD 0 = (p : Int) → p < N → setTo N ps (i + 1) = (setTo N ps i).set p true) := fun p => HSS.out i p hlt
      have hii : (i : Int) < (pl : Int) := by omega
      generalize hq : ps[i]?.getD 0 = q at *
      clear hq
      by_cases hq1 : q < 0
      · have HFIN : Hid (Below w.heap.size w wr) := HQ1.out.trans (hb.mono (by rw [← HGG.out]; exact HQ1.out.size))
        clear hf hb
        go_wp2_with fail
        go_ret
        exact ⟨rfl, HFIN.out⟩
      · by_cases hq2 : (N : Int) ≤ q
        · have HFIN : Hid (Below w.heap.size w wr) := HQ1.out.trans (hb.mono (by rw [← HGG.out]; exact HQ1.out.size))
          clear hf hb
          go_wp2_with fail
          go_ret
          exact ⟨rfl, HFIN.out⟩
        · obtain ⟨p, rfl⟩ := Int.eq_ofNat_of_zero_le (show 0 ≤ q by omega)
          have hpN : p < N := by omega
          have hpN' : (p : Int) < (N : Int) := by omega
          have HS := HSi.out p rfl hpN
          have hcl := owned_cellB hf p hpN
          have hfz := hf.frozenAt p
          have R := (hf.stored p (.bool true)).1
          rw [show ((setTo N ps i).map Value.bool).set p (.bool true) = ((setTo N ps i).set p true).map Value.bool from by rw [List.map_set], ← HS] at R
          have HR : Hid _ := R
          have HRB : Hid _ := hb.setCell (p := ⟨g, p, none⟩) (Nat.le_refl _) (.bool true)
          clear R HS HSi hf hb hq1 hq2
          go_wp2_with fail
          go_roundw
          case rel => exact ⟨i + 1, by omega, by go_num, HR.out, HRB.out⟩
          case measure => simp [intOf]; omega
    · have e : i = pl := by omega
      subst e
      have hS0 : SplitAt 4 3 g N (setTo N ps i) (inTo (flagB ps) (13 * t) 0) (abTo (flagB ps) (13 * t) 0) (.slice none 0 0) (.slice none 0 0) wr := ⟨hf, World.ownsRow_nil _ _ _ _, World.ownsRow_nil _ _ _ _, fun b hb => by simp [Value.ownBlock] at hb⟩
      have hgw : g + 1 ≤ wr.heap.size := by have := (hf.lt g rfl).2; omega
      clear hf HSS HPB
      go_wp2_with fail
      go_loopw [11, 12, 13] (fun v11 v12 y wr => ∃ k : Nat, k ≤ N ∧ y = .int .i64 k ∧ SplitAt 4 3 g N (setTo N ps i) (inTo (flagB ps) (13 * t) k) (abTo (flagB ps) (13 * t) k) v11 v12 wr ∧ Below g w1 wr ∧ g + 1 ≤ wr.heap.size) (fun _ _ y _ => N - (intOf y).toNat)
      case atStart => exact ⟨0, Nat.zero_le _, rfl, hS0, hb, hgw⟩
      case round =>
        clear hS0 hb hgw
        obtain ⟨k, hk, rfl, hS, hb, hgw⟩ := hrel
        obtain ⟨ai, ci, rfl, ri⟩ := row_of_owns hS.li
        obtain ⟨aa, ca, rfl, ra⟩ := row_of_owns hS.la
        clear ri ra
        by_cases hlt2 : k < N
        · have hcl := owned_cellB hS.flags k hlt2
          rw [HSA.out k hlt2] at hcl
          have hkk : (k : Int) < (N : Int) := by omega
          have hle := inTo_le (flagB ps) (13 * t) k
          cases hfl : flagB ps k
          · rw [hfl] at hcl
            obtain ⟨e1, e2⟩ := none_hit (T := 13 * t) hfl
            have HE1 : Hid (inTo (flagB ps) (13 * t) (k + 1) = inTo (flagB ps) (13 * t) k) := e1
            have HE2 : Hid (abTo (flagB ps) (13 * t) (k + 1) = abTo (flagB ps) (13 * t) k) := e2
            clear e1 e2 hfl
            generalize hii1 : inTo (flagB ps) (13 * t) k = I at *
            generalize hii2 : abTo (flagB ps) (13 * t) k = A at *
            clear hii1 hii2
            generalize hil : I.length = nI at *
            generalize hal : A.length = nA at *
            clear hil hal
            go_wp2_with fail
            go_roundw
            case rel => exact ⟨k + 1, by omega, by go_num, by rw [HE1.out, HE2.out]; exact hS, hb, hgw⟩
            case measure => simp [intOf]; omega
          · rw [hfl] at hcl
            by_cases hk13 : k < 13 * t
            · obtain ⟨e1, e2⟩ := inTo_hit hfl hk13
              have HE1 : Hid (inTo (flagB ps) (13 * t) (k + 1) = inTo (flagB ps) (13 * t) k ++ [k]) := e1
              have HE2 : Hid (abTo (flagB ps) (13 * t) (k + 1) = abTo (flagB ps) (13 * t) k) := e2
              have HP : Hid (∀ (v' : Value) (w3 : World), w3.ownsRow (g + 1) 3 1 v' ((inTo (flagB ps) (13 * t) k).length + 1) ((ints (inTo (flagB ps) (13 * t) k)).map (Value.int .i64) ++ [.int .i64 (k : Int)]) → (wr.alloc (Obj.cells #[.int .i64 (k : Int)] 3)).grownBy w3 (Value.slice ai (inTo (flagB ps) (13 * t) k).length ci).ownBlock →
                  (v'.ownBlock = (Value.slice ai (inTo (flagB ps) (13 * t) k).length ci).ownBlock ∨ v'.ownBlock = some (wr.heap.size + 1)) →
                  SplitAt 4 3 g N (setTo N ps i) (inTo (flagB ps) (13 * t) (k + 1)) (abTo (flagB ps) (13 * t) (k + 1)) v' (.slice aa (abTo (flagB ps) (13 * t) k).length ca) w3 ∧ Below g w1 w3 ∧ g + 1 ≤ w3.heap.size) := fun v' w3 ho hgr hat => by
                rw [HE1.out, HE2.out]
                refine ⟨hS.pushI _ ho hgr hat, (hb.alloc (by omega) _).grown hgr (by simp; omega) (fun b hb => by have := (hS.li.lt b hb).1; omega), by have := hgr.size; simp at this; omega⟩
              clear e1 e2 hfl
              have hown := hS.li
              generalize hii1 : inTo (flagB ps) (13 * t) k = I at *
              generalize hii2 : abTo (flagB ps) (13 * t) k = A at *
              clear hii1 hii2
              generalize hil : I.length = nI at *
              generalize hal : A.length = nA at *
              clear hil hal hS hb
              have hk13' : (k : Int) < 13 * (t : Int) := by omega
              go_wp2_with (at_builtin; refine wpList_append_own_at _ rfl _ _ 32 rfl (g + 1) 3 i0 (.int .i64 0) 1 8 Try.underlying32 hi0 hz0 hz1 hz2 rfl (by decide) _ _ _ rfl (hown.alloc _) ⟨wr.heap.size, 0, none⟩ 1 1 [.int .i64 (k : Nat)] rfl rfl (cell_one_new _ _ _) (by intro u hu; simp at hu; subst hu; rfl) (by unfold maxLen; omega) (by omega) (by simp; omega) ?_)
              intro v' w3 hown' hgrow _ hat
              obtain ⟨hS3, hb3, hg3⟩ := HP.out v' w3 hown' hgrow hat
              clear hown hown' hgrow hat HP
              go_wp2_with fail
              go_roundw
              case rel => exact ⟨k + 1, by omega, by go_num, hS3, hb3, hg3⟩
              case measure => simp [intOf]; omega
            · obtain ⟨e1, e2⟩ := abTo_hit hfl hk13
              have HE1 : Hid (inTo (flagB ps) (13 * t) (k + 1) = inTo (flagB ps) (13 * t) k) := e1
              have HE2 : Hid (abTo (flagB ps) (13 * t) (k + 1) = abTo (flagB ps) (13 * t) k ++ [k - 13 * t]) := e2
              have HP : Hid (∀ (v' : Value) (w3 : World), w3.ownsRow (g + 1) 3 1 v' ((abTo (flagB ps) (13 * t) k).length + 1) ((ints (abTo (flagB ps) (13 * t) k)).map (Value.int .i64) ++ [.int .i64 ((k - 13 * t : Nat) : Int)]) → (wr.alloc (Obj.cells #[.int .i64 ((k - 13 * t : Nat) : Int)] 3)).grownBy w3 (Value.slice aa (abTo (flagB ps) (13 * t) k).length ca).ownBlock →
                  (v'.ownBlock = (Value.slice aa (abTo (flagB ps) (13 * t) k).length ca).ownBlock ∨ v'.ownBlock = some (wr.heap.size + 1)) →
                  SplitAt 4 3 g N (setTo N ps i) (inTo (flagB ps) (13 * t) (k + 1)) (abTo (flagB ps) (13 * t) (k + 1)) (.slice ai (inTo (flagB ps) (13 * t) k).length ci) v' w3 ∧ Below g w1 w3 ∧ g + 1 ≤ w3.heap.size) := fun v' w3 ho hgr hat => by
                rw [HE1.out, HE2.out]
                refine ⟨hS.pushA _ ho hgr hat, (hb.alloc (by omega) _).grown hgr (by simp; omega) (fun b hb => by have := (hS.la.lt b hb).1; omega), by have := hgr.size; simp at this; omega⟩
              clear e1 e2 hfl
              have hown := hS.la
              have hk13' : ¬ (k : Int) < 13 * (t : Int) := by omega
              have eK : (k : Int) - 13 * (t : Int) = ((k - 13 * t : Nat) : Int) := by omega
              have eKb : k - 13 * t ≤ 1000 := by omega
              generalize hii1 : inTo (flagB ps) (13 * t) k = I at *
              generalize hii2 : abTo (flagB ps) (13 * t) k = A at *
              clear hii1 hii2
              generalize hil : I.length = nI at *
              generalize hal : A.length = nA at *
              clear hil hal hS hb
              generalize k - 13 * t = kd at *
              have eKw : IntKind.i64.wrap ((kd : Nat) : Int) = (kd : Int) := by rw [IntKind.wrap_i64]; omega
              go_wp2_with (at_builtin; refine wpList_append_own_at _ rfl _ _ 32 rfl (g + 1) 3 i0 (.int .i64 0) 1 8 Try.underlying32 hi0 hz0 hz1 hz2 rfl (by decide) _ _ _ rfl (hown.alloc _) ⟨wr.heap.size, 0, none⟩ 1 1 [.int .i64 (kd : Nat)] rfl rfl (cell_one_new _ _ _) (by intro u hu; simp at hu; subst hu; rfl) (by unfold maxLen; omega) (by omega) (by simp; omega) ?_)
              intro v' w3 hown' hgrow _ hat
              obtain ⟨hS3, hb3, hg3⟩ := HP.out v' w3 hown' hgrow hat
              clear hown hown' hgrow hat HP
              go_wp2_with fail
              go_roundw
              case rel => exact ⟨k + 1, by omega, by go_num, hS3, hb3, hg3⟩
              case measure => simp [intOf]; omega
        · have e : k = N := by omega
          subst e
          obtain ⟨a1, c1, hv1, ri⟩ := row_of_owns hS.li
          obtain ⟨a2, c2, hv2, ra⟩ := row_of_owns hS.la
          simp only [Value.slice.injEq, true_and] at hv1 hv2
          obtain ⟨rfl, rfl⟩ := hv1
          obtain ⟨rfl, rfl⟩ := hv2
          clear hS
          rw [← HGG.out] at hb
          replace rx := rx.below hb (Nat.le_refl _)
          replace rz := rz.below hb (Nat.le_refl _)
          have q1 : Below w.heap.size w wr := btrans HQ1.out hb
          clear hb hgw HSA
          have hle := inTo_le (flagB ps) (13 * t) k
          generalize hii1 : inTo (flagB ps) (13 * t) k = I at *
          generalize hii2 : abTo (flagB ps) (13 * t) k = A at *
          clear hii1 hii2
          generalize hil : I.length = nI at *
          generalize hal : A.length = nA at *
          clear hil hal
          -- b
          go_wp2_with fail
          refine (turn_any a _ len cap nA _ x (ints A) _ rx bx ra HWF2.out (by omega)).mono ?_
          rintro e w4 ⟨q2, h4⟩
          rcases h4 with ⟨_, rfl, hown4⟩ | ⟨hf4, _⟩
          case inr => exact absurd hf4 (by rw [HIN2.out]; simp)
          have rb := isB_of_row hown4
          clear hown4 ra
          replace rx := rx.below q2 (Nat.le_refl _)
          replace rz := rz.below q2 (Nat.le_refl _)
          replace ri := ri.below q2 (Nat.le_refl _)
          replace q1 := btrans q1 q2
          clear q2
          generalize wr.heap.size = g4 at *
          -- m
          go_wp2_with fail
          refine (turn_any az _ n cz nI _ z (ints I) _ rz bz ri HWF1.out (by omega)).mono ?_
          rintro e w5 ⟨q2, h5⟩
          rcases h5 with ⟨_, rfl, hown5⟩ | ⟨hf5, _⟩
          case inr => exact absurd hf5 (by rw [HIN1.out]; simp)
          have rm := isB_of_row hown5
          clear hown5 ri
          replace rx := rx.below q2 (Nat.le_refl _)
          replace rz := rz.below q2 (Nat.le_refl _)
          replace rb := rb.below q2 (Nat.le_refl _)
          replace q1 := btrans q1 q2
          clear q2
          generalize w4.heap.size = g5 at *
          have bb : IsB (turnI x (ints A)) := isB_turnI bx _
          have bm : IsB (turnI z (ints I)) := isB_turnI bz _
          have HLb : Hid ((turnI x (ints A)).length = len) := by show _ = _; rw [length_turnI, HLx.out]
          generalize turnI x (ints A) = tb at *
          generalize turnI z (ints I) = tm at *
          -- decode
          go_wp2_with fail
          refine (hD.yes t _ _ len _ n _ tb tm _ rb bb rm bm (by omega) (by omega) HMAY.out).mono ?_
          rintro e w6 (⟨d, kk, cnt, hdec, a6, c6, b6, d6, rfl, rd, rk, q2⟩ | ⟨hno, _⟩)
          case inr => exact absurd HDEC.out (hno _ _ _)
          obtain ⟨rfl, rfl, rfl⟩ := HUQ.out tb tm d kk cnt _ HLb.out hdec x z HDEC.out
          clear hdec
          rw [HLx.out] at rd ⊢
          rw [HLz.out] at rk ⊢
          replace rx := rx.below q2 (Nat.le_refl _)
          replace rz := rz.below q2 (Nat.le_refl _)
          replace q1 := btrans q1 q2
          clear q2 rb rm
          go_wp2_with fail
          refine (awake5_any hB hE hD _).mono ?_
          rintro e w7 ⟨rfl, q2⟩
          replace rx := rx.below q2 (Nat.le_refl _)
          replace rz := rz.below q2 (Nat.le_refl _)
          replace rd := rd.below q2 (Nat.le_refl _)
          replace rk := rk.below q2 (Nat.le_refl _)
          replace q1 := btrans q1 q2
          clear q2
          have hc1 := conv_row Try.underlying22 Try.underlying5 Try.underlying9 rx
          have hc2 := conv_row Try.underlying22 Try.underlying5 Try.underlying9 rz
          have hc3 := conv_row Try.underlying22 Try.underlying5 Try.underlying9 rd
          have hc4 := conv_row Try.underlying22 Try.underlying5 Try.underlying9 rk
          clear rx rz rd rk
          go_wp2_with fail
          go_ret
          exact ⟨rfl, q1⟩

end Go.Proofs.Ytjiaomkjebbkpaa
