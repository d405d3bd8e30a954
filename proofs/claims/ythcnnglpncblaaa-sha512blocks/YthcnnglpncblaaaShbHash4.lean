/-
  The code of layer 14 (sha512): Sum, of parts.
-/
import Derived.Test.YthcnnglpncblaaaShbHash3
namespace Go.Proofs.Ythcnnglpncblaaa.B
open Go.RowKit
set_option linter.unusedVariables false
set_option maxRecDepth 8192

/-- A byte slice's place and bytes. -/
structure PartV where
  at_ : Option Addr
  len : Nat
  cap : Nat
  num : List Nat
instance : Inhabited PartV := ⟨⟨none, 0, 0, []⟩⟩
/-- Byte slices, each with its bytes. -/
structure PartsAt (w : World) (a : Option Addr) (len cap : Nat) (R : Nat → PartV) : Prop where
  hlen : len ≤ cap
  hmax : cap ≤ maxLen
  each : 0 < len → ∃ b off, a = some ⟨b, off, none⟩ ∧ b < w.heap.size ∧ ∀ i, i < len → w.cell? ⟨b, off + i, none⟩ = some (.slice (R i).at_ (R i).len (R i).cap) ∧ Row .u8 w (R i).at_ (R i).len (R i).cap (nI (R i).num) ∧ ∀ x ∈ (R i).num, x < 256
theorem PartsAt.below {w w' : World} {a : Option Addr} {len cap : Nat} {R : Nat → PartV} (h : PartsAt w a len cap R) {B : Nat} (q : Below B w w') (hB : w.heap.size ≤ B) : PartsAt w' a len cap R := by
  refine ⟨h.hlen, h.hmax, fun h0 => ?_⟩
  obtain ⟨b, off, e, hb, hc⟩ := h.each h0
  refine ⟨b, off, e, Nat.lt_of_lt_of_le hb q.size, fun i hi => ?_⟩
  obtain ⟨c1, c2, c3⟩ := hc i hi
  exact ⟨(q.cell (p := ⟨b, off + i, none⟩) (Nat.lt_of_lt_of_le hb hB)).trans c1, c2.below q hB, c3⟩
/-- What the first i parts hold. -/
def catTo (R : Nat → PartV) : Nat → List Nat
  | 0 => []
  | i + 1 => catTo R i ++ (R i).num
theorem catTo_le (R : Nat → PartV) {i n : Nat} (h : i ≤ n) : (catTo R i).length ≤ (catTo R n).length := by
  induction n with
  | zero => rw [show i = 0 from by omega]; exact Nat.le_refl _
  | succ n ih =>
    rcases Nat.lt_or_ge n i with h1 | h1
    · rw [show i = n + 1 from by omega]; exact Nat.le_refl _
    · have := ih h1; rw [catTo, List.length_append]; omega
theorem wpList_build2 {P : Program} {ops : Array Oper} {rest : List Oper} {o : Oper} {a : Act} {w : World} {Q : Exit → Act → World → Prop} (hgd : o.guard = none) (t : TypeId) (i j : Nat) (x y : Operand) (ho : o.op = .build t #[(i, x), (j, y)])
    (vx vy : Value) (hx : a.eval x = vx) (hy : a.eval y = vy) (cs : Array Value) (hb : P.built t [(i, vx), (j, vy)] = some cs) (h : wpList P ops Q rest (a.put o.dst (.agg cs)) w) : wpList P ops Q (o :: rest) a w := by
  have hv : ((#[(i, x), (j, y)] : Array (Nat × Operand)).map fun (i, x) => (i, a.eval x)).toList = [(i, vx), (j, vy)] := by simp [hx, hy]
  exact wpList_build hgd t _ ho (by rw [hv, hb]; rfl) (by rw [hv, hb]; exact h)
theorem RunIs.new {w : World} {h : Nat} {K : List Nat} {S : S8} (H : RunAt w h K S.list (List.replicate 128 0) 0) : RunIs w h K S [] := by
  refine ⟨List.replicate 128 0, ?_, ⟨List.length_replicate, ?_⟩, fun x hx => by rw [(List.mem_replicate.1 hx).2]; decide⟩
  · rw [List.length_nil, Nat.zero_div, Nat.zero_mod]; exact H
  · rw [List.length_nil, Nat.zero_mod, List.take_zero, List.drop_nil]
set_option maxHeartbeats 3200000 in
theorem sum_gen (K : List Nat) (S : S8) (hK : K.length = 80) (hKl : ∀ x ∈ K, x < 18446744073709551616) (hSok : S.Ok)
    (hR : ∀ w, Calls Try.prog 9 #[] w fun e w' => e = .returned (.agg ((nI K).map (Value.int .u64)).toArray) ∧ Below w.heap.size w w')
    (hS : ∀ w, Calls Try.prog 11 #[] w fun e w' => e = .returned (.agg ((nI S.list).map (Value.int .u64)).toArray) ∧ Below w.heap.size w w')
    (R : Nat → PartV) (w : World) (a : Option Addr) (len cap : Nat) (hP : PartsAt w a len cap R) (hb : (catTo R len).length < 1000000000) :
    Calls Try.prog 15 #[.slice a len cap] w fun e w' => e = .returned (.agg ((nI (sumL K S (catTo R len))).map (Value.int .u8)).toArray) ∧ Below w.heap.size w w' := by
  have HK : Hid (K.length = 80 ∧ ∀ x ∈ K, x < 18446744073709551616) := ⟨hK, hKl⟩
  have HT : Hid (∀ (w : World) (h : Nat) (D z : List Nat) (a : Option Addr) (len cap : Nat), RunIs w h K S D → Row .u8 w a len cap (nI z) → (∀ x ∈ z, x < 256) → (0 < len → ∀ ad, a = some ad → ad.block ≠ h) → D.length + len < 1000000000000 →
    Calls Try.prog 28 #[.pointer (some ⟨h, 0, none⟩), .slice a len cap] w fun e w' => e = .returned (.tuple #[]) ∧ RunIs w' h K S (D ++ z) ∧ w.grownBy w' (some h)) := fun w h D z a len cap => take_any K S hK hKl hSok w h D z a len cap
  have hS8 : S.list.length = 8 := rfl
  have HL : Hid ((nI (sumL K S (catTo R len))).length = 64) := by show _ = _; rw [nI_length]; rfl
  have HB0 : Hid (∀ i, i ≤ len → (catTo R i).length < 1000000000) := fun i hi => Nat.lt_of_le_of_lt (catTo_le R hi) hb
  obtain ⟨cs, hcs, hnew⟩ := newRun K S.list hK hS8
  have HUN : Hid (∀ (w : World) (g : Nat) (T : TypeId), w.heap[g]? = some (.cells cs T (0, 0)) → RunAt w g K S.list (List.replicate 128 0) 0) := fun w g T hg => hnew.run hK hS8 hg
  have hon := hnew.ones
  have hsz := hnew.size
  have HP : Hid (PartsAt w a len cap R) := hP
  have hlm : len ≤ maxLen := Nat.le_trans hP.hlen hP.hmax
  unfold maxLen at hlm
  have hlc := hP.hlen
  clear hK hKl hb hP hnew
  have A2 := Arr.new w 35 .u8 (nI (List.replicate 64 0)) _ rfl
  have q0 := below_one w (.cells ((nI (List.replicate 64 0)).map (Value.int .u8)).toArray 35)
  have s0 : (w.alloc (.cells ((nI (List.replicate 64 0)).map (Value.int .u8)).toArray 35)).heap.size = w.heap.size + 1 := by simp
  have hz1 := Try.zeroValue56
  have hz2 := Try.zeroCells56_ne
  have hz3 := Try.zeroCells56_size
  go_enter Try.func15, Try.ntmps15
  go_wp2_with fail
  change Calls Try.prog _ _ (w.alloc (.cells ((nI (List.replicate 64 0)).map (Value.int .u8)).toArray 35)) _
  generalize w.alloc (.cells ((nI (List.replicate 64 0)).map (Value.int .u8)).toArray 35) = w0 at *
  refine (hR w0).mono ?_
  rintro e w1 ⟨rfl, q1⟩
  have s1 := q1.size
  replace A2 := A2.below q1 (by omega)
  replace q0 := q0.trans (q1.mono (by omega))
  clear hR q1
  generalize hX1 : ((nI K).map (Value.int .u64)).toArray = X1 at *
  clear hX1
  go_wp2_with fail
  refine (hS w1).mono ?_
  rintro e w2 ⟨rfl, q2⟩
  have s2 := q2.size
  replace A2 := A2.below q2 (by omega)
  replace q0 := q0.trans (q2.mono (by omega))
  clear hS q2
  generalize hX2 : ((nI S.list).map (Value.int .u64)).toArray = X2 at *
  clear hX2
  go_wp2_with (first
    | (refine wpList_build2 rfl 56 0 1 _ _ rfl (.agg X1) (.agg X2) rfl rfl cs hcs ?_)
    | refine wpList_store_row rfl 56 _ _ rfl w2.heap.size cs rfl rfl 56 Try.zeroCells56 (heap_alloc_last _ _) (by rw [Try.size56, hsz]) (by rw [hz3, hsz]) hon ?_)
  have hrun := HUN.out _ _ _ (setRow_heap (w2.alloc (.cells Try.zeroCells56 56)) w2.heap.size _ cs 56 (0, 0) (heap_alloc_last w2 _))
  replace A2 := (A2.alloc (.cells Try.zeroCells56 56)).whole_other cs (show w.heap.size ≠ w2.heap.size by omega)
  replace q0 := below_setRow (q0.alloc (by omega) (.cells Try.zeroCells56 56)) (show w.heap.size ≤ w2.heap.size by omega) cs
  clear hcs HUN hon hsz hz1 hz2 hz3
  obtain ⟨w3, hw3⟩ : ∃ x, x = (w2.alloc (.cells Try.zeroCells56 56)).setRow w2.heap.size cs := ⟨_, rfl⟩
  rw [← hw3] at hrun A2 q0
  try rw [← hw3]
  have hI : RunIs w3 w2.heap.size K S (catTo R 0) := RunIs.new hrun
  clear hw3 hrun
  have hh : w.heap.size < w2.heap.size := by omega
  generalize w2.heap.size = hb at *
  clear s0 s1 s2
  go_loopw [4, 12] (fun c i wr => ∃ k : Nat, k ≤ len ∧ i = .int .i64 (k : Int) ∧ c = .int .u64 (((catTo R k).length : Nat) : Int) ∧ Hid (RunIs wr hb K S (catTo R k)) ∧ Hid (Arr wr w.heap.size 35 .u8 (nI (List.replicate 64 0))) ∧ Hid (Below w.heap.size w wr)) (fun _ i _ => len - (intOf i).toNat)
  case atStart => exact ⟨0, Nat.zero_le _, rfl, rfl, hI, A2, q0⟩
  case round =>
    clear hI A2 q0
    obtain ⟨k, hk, rfl, rfl, HI, HA, HB⟩ := hrel
    by_cases hlt : k < len
    · obtain ⟨b, off, rfl, hbs, hc⟩ := (HP.out.below HB.out (Nat.le_refl _)).each (by omega)
      obtain ⟨c1, c2, c3⟩ := hc k hlt
      obtain ⟨b', off', e', hb', hc'⟩ := HP.out.each (by omega)
      obtain ⟨d1, d2, d3⟩ := hc' k hlt
      have hne : 0 < (R k).len → ∀ ad, (R k).at_ = some ad → ad.block ≠ hb := fun h0 ad hd => by
        obtain ⟨bb, oo, hab, hbs, _⟩ := d2.hcell h0
        rw [hab, Option.some.injEq] at hd
        rw [← hd]
        show bb ≠ _
        omega
      have hl1 := HB0.out k hk
      have hl2 := HB0.out (k + 1) (by omega)
      have hlen : (R k).num.length = (R k).len := by have := c2.hlen; rwa [nI_length] at this
      have HC : Hid (catTo R (k + 1) = catTo R k ++ (R k).num) := rfl
      rw [HC.out, List.length_append, hlen] at hl2
      have ht := HT.out wr hb (catTo R k) (R k).num (R k).at_ (R k).len (R k).cap HI.out c2 c3 hne (by omega)
      have HCL : Hid ((catTo R (k + 1)).length = (catTo R k).length + (R k).len) := by show _ = _; rw [HC.out, List.length_append, hlen]
      have HCU : Hid (∀ w', RunIs w' hb K S (catTo R k ++ (R k).num) → RunIs w' hb K S (catTo R (k + 1))) := fun w' h => h
      clear hc hc' d1 d2 d3 c2 c3 e' hne hlen hb'
      generalize (catTo R k).length = n at *
      generalize (R k).len = rl at *
      generalize (R k).at_ = ra at *
      generalize (R k).cap = rc at *
      go_wp2_with fail
      refine ht.mono ?_
      rintro e w' ⟨rfl, H', g'⟩
      have A' := HA.out.turned g' (by omega)
      have hsw := HB.out.size
      have q' : Below w.heap.size w w' := turned_new HB.out g' hsw (by omega)
      clear ht c1
      go_wp2
      go_roundw
      case rel => exact ⟨k + 1, by omega, by go_num, by rw [HCL.out]; go_num, HCU.out _ H', A', q'⟩
      case measure => simp [intOf]; omega
    · obtain rfl : k = len := by omega
      have hl1 := HB0.out k (Nat.le_refl _)
      have hpd := padding_any (catTo R k).length wr (by omega)
      have HPL := padL_length (catTo R k).length
      have hnl := noughts_lt (catTo R k).length
      have ht := fun (w' : World) (a : Option Addr) (c : Nat) (h1 : RunIs w' hb K S (catTo R k)) (h2 : Row .u8 w' a (noughts (catTo R k).length + 17) c (nI (padL (catTo R k).length))) (h3 : 0 < noughts (catTo R k).length + 17 → ∀ ad, a = some ad → ad.block ≠ hb) => HT.out w' hb (catTo R k) (padL (catTo R k).length) a (noughts (catTo R k).length + 17) c h1 h2 (padL_lt _) h3 (by omega)
      have HSUM : Hid (∀ w', RunIs w' hb K S (catTo R k ++ padL (catTo R k).length) → ∃ st : S8, st.Ok ∧ st.bytes = sumL K S (catTo R k) ∧ w'.rangeAt hb 80 ((nI st.list).map (Value.int .u64))) := fun w' h => by
        obtain ⟨r, h1, _⟩ := h
        refine ⟨_, blocksTo_ok hSok _ _, ?_, h1.rs⟩
        unfold sumL
        rw [List.length_append, HPL]
      clear HB0 HPL HT
      generalize (catTo R k).length = n at *
      obtain ⟨sm, hsm⟩ : ∃ x, sumL K S (catTo R k) = x := ⟨_, rfl⟩
      have HSM : Hid (sumL K S (catTo R k) = sm) := hsm
      rw [hsm] at HSUM HL
      clear hsm
      generalize noughts n + 17 = pl at *
      go_wp2_with fail
      refine hpd.mono ?_
      rintro e w4 ⟨v4, rfl, own4, q4⟩
      obtain ⟨a4, c4, rfl, row4⟩ := row_of_owns own4
      have hsw := HB.out.size
      have hlt4 := HI.out.lt
      have hne4 : 0 < pl → ∀ ad, a4 = some ad → ad.block ≠ hb := fun h0 ad hd => by
        have := (own4.lt ad.block (by rw [hd]; rfl)).1
        omega
      replace ht := ht w4 a4 c4 (HI.out.below q4 hlt4) row4 hne4
      have A4 := HA.out.below q4 HA.out.lt
      have q04 := HB.out.trans (q4.mono hsw)
      clear own4 row4 hne4 hpd q4
      go_wp2_with fail
      refine ht.mono ?_
      rintro e w5 ⟨rfl, H5, g5⟩
      obtain ⟨st, hok, hbytes, hrng⟩ := HSUM.out w5 H5
      have A5 := A4.turned g5 (by omega)
      have q5 : Below w.heap.size w w5 := turned_new q04 g5 (by have := q04.size; omega) (by omega)
      have HL8 : Hid ((nI st.list).length = 8) := by show _ = _; rw [nI_length]; rfl
      clear ht HSUM
      go_wp2_with (refine wpList_loadM rfl 26 _ rfl hb 80 rfl hrng Try.underlying26 Try.size26 HL8.out ?_)
      refine (told_any st w5 hok).mono ?_
      rintro e w6 ⟨rfl, q6⟩
      have A6 := A5.below q6 (by have := q5.size; have := A5.lt; omega)
      replace q6 := q5.trans (q6.mono q5.size)
      rw [hbytes]
      go_wp2_with (refine wpList_storeA rfl 35 _ _ rfl w.heap.size (nI sm) rfl rfl A6 Try.size35 (by decide +kernel) HL.out ?_)
      exact bodyPost_ret (resA rfl _ _ w.heap.size rfl (A6.whole _) Try.underlying35 Try.size35 HL.out) rfl ⟨by rw [HSM.out], below_setRow q6 (Nat.le_refl _) _⟩
theorem sum14_any (R : Nat → PartV) (w : World) (a : Option Addr) (len cap : Nat) (hP : PartsAt w a len cap R) (hb : (catTo R len).length < 1000000000) :
    Calls Try.prog 15 #[.slice a len cap] w fun e w' => e = .returned (.agg ((nI (sumL KL S0 (catTo R len))).map (Value.int .u8)).toArray) ∧ Below w.heap.size w w' :=
  sum_gen KL S0 KL_length KL_lt S0_ok rounds_any (fun w => by rw [S0_list]; exact start_any w) R w a len cap hP hb
end Go.Proofs.Ythcnnglpncblaaa.B
