/-
  The code of layer 13 (sha256): Hash.Sum, Sum.
-/
import Derived.Test.YtoijeefmddopbaaShaHash5
namespace Go.Proofs.Ytoijeefmddopbaa
open Go.RowKit
set_option linter.unusedVariables false
set_option maxRecDepth 8192

theorem turned_row {w w1 : World} {row : Option Nat} (g : w.grownBy w1 row) (b : Nat) (hb : w.heap.size ≤ b) (cs : Array Value) : w.grownBy (w1.setRow b cs) row :=
  ⟨g.os, g.tape, g.output, by rw [size_setRow]; exact g.size, fun k hk hne => by rw [setRow_other w1 b k cs (by omega)]; exact g.block k hk hne⟩
/-- A window of a row, as slicing makes it. -/
theorem row_window {k : IntKind} {w : World} {a : Option Addr} {len cap : Nat} {zs : List Int} (hr : Row k w a len cap zs) (l m : Nat) (hm : 0 < m) (hl : l + m ≤ len) : ∃ a', sliced a l (l + m) cap 1 = .slice a' m (cap - l) ∧ ∀ w', (∀ b off, a = some ⟨b, off, none⟩ → w'.heap[b]? = w.heap[b]? ∧ w.heap.size ≤ w'.heap.size) → Row k w' a' m (cap - l) ((zs.drop l).take m) := by
  obtain ⟨b, off, rfl, hbs, hcell⟩ := hr.hcell (by omega)
  have hc := hr.hcap
  have hx := hr.hmax
  have hlen := hr.hlen
  refine ⟨some ⟨b, off + l, none⟩, by simp [sliced, show ¬ cap = l by omega, plain_add], fun w' hw' => ?_⟩
  obtain ⟨h1, h2⟩ := hw' b off rfl
  refine ⟨by simp; omega, by omega, by omega, by simp, fun _ => ⟨b, off + l, rfl, by omega, fun i hi => ?_⟩⟩
  rw [World.cell?_of_block (w := w) h1, Nat.add_assoc, hcell (l + i) (by omega), List.getElem?_take, if_pos hi, List.getElem?_drop]
theorem run_windowA {P : Program} (t e : TypeId) (hu : P.underlying t = some (.slice e)) (he : (P.info? e).map (·.size) = some 1) (a : Option Addr) (len cap l h : Nat) (kl kh : IntKind) (hl : l ≤ h) (hc : h ≤ cap) (w : World) :
    (Instr.sliceAt t (.slice a len cap) (some (.int kl (l : Int))) (some (.int kh (h : Int))) none).run P w = .ok (sliced a l h cap 1) w := by
  have hel : P.elem t = e := by simp [Program.elem, hu]
  obtain ⟨inf, hq, hs⟩ := Option.map_eq_some_iff.1 he
  have hu' : P.underlying t = some (.slice (P.elem t)) := by rw [hel]; exact hu
  rw [run_sliceAt_slice w t _ _ _ _ hu', run_slice_lh w t a len cap hu' kl kh (l : Int) (h : Int) (by omega) (by omega) (by omega)]
  rw [hel]
  simp [sizeOf, typeInfo, hq, hs]
theorem exec_sliceLH {P : Program} {a : Act} {o : Oper} {w : World} (ty : TypeId) (x lo hi : Operand) (ho : o.op = .slice ty x (some lo) (some hi) none) (vx vl vh v : Value) (hx : a.eval x = vx) (hl : a.eval lo = vl) (hh : a.eval hi = vh) (hr : (Instr.sliceAt ty vx (some vl) (some vh) none).run P w = .ok v w) : (execOp a.eval o).run P w = .ok (.value v) w := by
  unfold execOp
  simp only [ho, hx, hl, hh, Option.map_some, Option.map_none, Sem.run_bind, Sem.run_pure, Result.andThen_ok, hr]
theorem exec_sliceH {P : Program} {a : Act} {o : Oper} {w : World} (ty : TypeId) (x hi : Operand) (ho : o.op = .slice ty x none (some hi) none) (vx vh v : Value) (hx : a.eval x = vx) (hh : a.eval hi = vh) (hr : (Instr.sliceAt ty vx none (some vh) none).run P w = .ok v w) : (execOp a.eval o).run P w = .ok (.value v) w := by
  unfold execOp
  simp only [ho, hx, hh, Option.map_some, Option.map_none, Sem.run_bind, Sem.run_pure, Result.andThen_ok, hr]
/-- What Sum's blocks make. -/
theorem sum_tail (K : List Nat) (S : S8) (D r : List Nat) (h : RestOk D r) : (blocksTo K (blocksTo K S D (D.length / 64)) (r.take (D.length % 64) ++ padL D.length) ((D.length % 64 + (noughts D.length + 9)) / 64)).bytes = sumL K S D := by
  have h1 : 64 * (D.length / 64) ≤ D.length := by omega
  have e : r.take (D.length % 64) ++ padL D.length = (D ++ padL D.length).drop (64 * (D.length / 64)) := by rw [h.2, List.drop_append_of_le_length h1]
  have e2 : blocksTo K S D (D.length / 64) = blocksTo K S (D ++ padL D.length) (D.length / 64) := blocksTo_same K S _ _ _ (by rw [List.take_append_of_le_length h1])
  unfold sumL
  rw [e, e2, ← blocksTo_add]
  congr 2
  omega
theorem owns_row_below {w : World} {base : Nat} {e : TypeId} {size : Nat} {v : Value} {n : Nat} {xs : List Value} (h : w.ownsRow base e size v n xs) (g : Nat) (hg : g < base) (cs : Array Value) : (w.setRow g cs).ownsRow base e size v n xs := by
  obtain ⟨h1, h2⟩ := h
  refine ⟨h1, ?_⟩
  rcases h2 with h2 | ⟨g', cap, cur, hv, hg', hh, r⟩
  · exact .inl h2
  · exact .inr ⟨g', cap, cur, hv, hg', by rw [setRow_other w g g' cs (by omega)]; exact hh, r⟩
set_option maxHeartbeats 800000 in
theorem hsum_nil (w : World) : Calls Try.prog 25 #[.pointer none] w fun e w' => e = .returned (.agg ((nI (List.replicate 32 0)).map (Value.int .u8)).toArray) ∧ Below w.heap.size w w' := by
  have A2 := Arr.new w 43 .u8 (nI (List.replicate 32 0)) _ rfl
  go_enter Try.func25, Try.ntmps25
  go_wp2_with (refine wpList_storeA rfl 43 _ _ rfl w.heap.size (nI (List.replicate 32 0)) rfl rfl A2 Try.size43 (by decide +kernel) (by decide +kernel) ?_)
  exact bodyPost_ret (resA rfl _ _ w.heap.size rfl (A2.whole _) Try.underlying43 Try.size43 (by decide +kernel)) rfl ⟨rfl, below_setRow (below_one w _) (Nat.le_refl _) _⟩
set_option maxHeartbeats 3200000 in
theorem hsum_gen (K : List Nat) (S : S8) (hK : K.length = 64) (hKl : ∀ x ∈ K, x < 4294967296) (hSok : S.Ok)
    (hOnce : ∀ w h D, HIs w h K S D → Calls Try.prog 40 #[.pointer (some ⟨h, 0, none⟩), .func (.func 41) #[.pointer (some ⟨h, 0, none⟩)] #[]] w fun e w' => e = .returned (.tuple #[]) ∧ OnAt w' h K S D ∧ w.grownBy w' (some h))
    (w : World) (h : Nat) (D : List Nat) (H : HIs w h K S D) (hb : D.length < 1000000000000) :
    Calls Try.prog 25 #[.pointer (some ⟨h, 0, none⟩)] w fun e w' => e = .returned (.agg ((nI (sumL K S D)).map (Value.int .u8)).toArray) ∧ OnAt w' h K S D ∧ w.grownBy w' (some h) := by
  have hmf : ∀ (fn : Fn) (first cap : Array Value) (w : World), (Instr.makeFunc fn first cap).run Try.prog w = .ok (.func fn first cap) w := fun _ _ _ _ => rfl
  have HK : Hid (K.length = 64) := hK
  have HKl : Hid (∀ x ∈ K, x < 4294967296) := hKl
  clear hK hKl
  have hlt := H.lt
  have A2 := Arr.new w 43 .u8 (nI (List.replicate 32 0)) _ rfl
  have q0 := below_one w (.cells ((nI (List.replicate 32 0)).map (Value.int .u8)).toArray 43)
  replace H := H.below q0 hlt
  have s0 : (w.alloc (.cells ((nI (List.replicate 32 0)).map (Value.int .u8)).toArray 43)).heap.size = w.heap.size + 1 := by simp
  go_enter Try.func25, Try.ntmps25
  go_wp2_with fail
  change Calls Try.prog _ _ (w.alloc (.cells ((nI (List.replicate 32 0)).map (Value.int .u8)).toArray 43)) _
  generalize w.alloc (.cells ((nI (List.replicate 32 0)).map (Value.int .u8)).toArray 43) = w0 at *
  refine (hOnce _ h D H).mono ?_
  rintro e w1 ⟨rfl, H1, g1⟩
  clear hOnce H hmf
  have s1 := g1.size
  replace A2 := A2.turned g1 (by omega)
  replace g1 := turned_trans (turned_below (some h) q0) g1
  clear q0
  obtain ⟨r, A1, R1⟩ := H1
  go_wp2_with fail
  refine (count_load ⟨h, 139, none⟩ D.length _ A1.cn).mono ?_
  rintro e w1' ⟨rfl, rfl⟩
  have HOK : Hid ((blocksTo K S D (D.length / 64)).Ok) := blocksTo_ok hSok _ _
  have HTL : Hid ((blocksTo K (blocksTo K S D (D.length / 64)) (r.take (D.length % 64) ++ padL D.length) ((D.length % 64 + (noughts D.length + 9)) / 64)).bytes = sumL K S D) := sum_tail K S D r R1.1
  have HON : Hid (∀ w', HashAt w' h 1 0 K (blocksTo K S D (D.length / 64)).list r D.length → OnAt w' h K S D) := fun w' h' => ⟨r, h', R1⟩
  have hpw := pad_whole D.length
  have hnl := noughts_lt D.length
  have HR2 : Hid (∀ x ∈ r, x < 256) := R1.2
  clear R1
  generalize blocksTo K S D (D.length / 64) = st at *
  generalize hN : D.length = n at *
  clear hN
  have HLs : Hid ((nI st.list).length = 8) := by show _ = _; rw [nI_length]; rfl
  have A4 := Arr.new w1 30 .u32 (nI (List.replicate 8 0)) _ rfl
  go_wp2_with (first
    | (refine wpList_loadM rfl 30 _ rfl h 67 rfl A1.rs Try.underlying30 Try.size30 HLs.out ?_)
    | (refine wpList_storeA rfl 30 _ _ rfl w1.heap.size (nI st.list) rfl rfl A4 Try.size30 (by decide +kernel) HLs.out ?_))
  rw [show ∀ a : Act, a.put none undef = a from fun _ => rfl]
  have A4' := A4.whole (nI st.list)
  have H2 : HashAt ((w1.alloc (.cells ((nI (List.replicate 8 0)).map (Value.int .u32)).toArray 30)).setRow w1.heap.size ((nI st.list).map (Value.int .u32)).toArray) h 1 0 K st.list r n := A1.same ((setRow_other _ _ _ _ (by have := A1.lt; omega)).trans (Below.heap_alloc _ _ _ A1.lt)) (by rw [size_setRow]; simp)
  have A2' := (A2.alloc (.cells ((nI (List.replicate 8 0)).map (Value.int .u32)).toArray 30)).whole_other ((nI st.list).map (Value.int .u32)).toArray (show w.heap.size ≠ w1.heap.size by omega)
  have g2 := turned_row (turned_trans g1 (turned_below (some h) (below_one w1 (.cells ((nI (List.replicate 8 0)).map (Value.int .u32)).toArray 30)))) w1.heap.size (by omega) ((nI st.list).map (Value.int .u32)).toArray
  have s2 : ((w1.alloc (.cells ((nI (List.replicate 8 0)).map (Value.int .u32)).toArray 30)).setRow w1.heap.size ((nI st.list).map (Value.int .u32)).toArray).heap.size = w1.heap.size + 1 := by rw [size_setRow]; simp
  have hlt1 := A1.lt
  change Code.wp _ _ _ _ ((w1.alloc (.cells ((nI (List.replicate 8 0)).map (Value.int .u32)).toArray 30)).setRow w1.heap.size ((nI st.list).map (Value.int .u32)).toArray)
  generalize (w1.alloc (.cells ((nI (List.replicate 8 0)).map (Value.int .u32)).toArray 30)).setRow w1.heap.size ((nI st.list).map (Value.int .u32)).toArray = w2 at *
  clear A4 A1 A2 g1
  obtain ⟨mr, hmr⟩ : ∃ x, n % 64 = x := ⟨_, rfl⟩
  have HMR : Hid (n % 64 = mr) := hmr
  have hm64 : mr < 64 := by rw [← hmr]; exact Nat.mod_lt _ (by decide)
  have hrem : (n : Int) % 64 = (mr : Int) := by rw [← hmr]; omega
  rw [hmr] at HTL
  clear hmr
  refine held_begin (by kernel_rfl) ?_
  refine held_reads (rs := [0, 1, 2, 3, 4, 5, 6]) (fuel := 4) (by kernel_rfl) (fun c d v a w h => by cases d <;> exact h) (by kernel_rfl) (Since.drew _) (fun K' hK' => ?_)
  refine calm_move _ rfl (by rfl) rfl ?_
  go_simp
  refine calm_do (.pointer (some ⟨h, 0, none⟩)) rfl (by rfl) (fun w' hw' => ?_) ?_
  · go_simp
  go_simp
  refine calm_do (.pointer (some ⟨h, 75, none⟩)) rfl (by rfl) (fun w' hw' => ?_) ?_
  · go_simp
  go_simp
  refine calm_move _ rfl (by rfl) rfl ?_
  go_simp
  refine calm_do (.int .u64 (mr : Int)) rfl (by rfl) (fun w' hw' => ?_) ?_
  · go_simp
    rw [Int.tmod_eq_emod_of_nonneg (by omega)]
    exact hrem
  go_simp
  refine calm_do (.slice (some ⟨h, 75, none⟩) mr 64) rfl (by rfl) (fun w' hw' => ?_) ?_
  · exact exec_sliceH 74 (.tmp 26) (.tmp 28) rfl (.pointer (some ⟨h, 75, none⟩)) (.int .u64 (mr : Int)) _ rfl rfl (run_sliceAtH 74 5 64 Try.underlying74 Try.one5 h 75 .u64 mr (by omega) (by decide) w')
  go_simp
  refine calm_move _ rfl (by rfl) rfl ?_
  go_simp
  refine calm_nil (hK'.out _ ?_)
  clear hK' K'
  refine held_call (i := 7) (fuel := 3) (by kernel_rfl) rfl (by rfl) (fun K' hK' => ?_)
  go_simp
  refine (padding_any n _ hb).mono ?_
  rintro e w3 ⟨v3, rfl, own3, q3⟩
  obtain ⟨a3, c3, rfl, row3⟩ := row_of_owns own3
  clear own3
  have S3 : Since w2 w3 := Since.trans (Since.drew w2) q3
  refine hK' _ _ S3 ?_
  clear hK' K' q3
  refine held_call (i := 8) (fuel := 2) (by kernel_rfl) rfl (by rfl) (fun K' hK' => ?_)
  have S4 : Since w3 (w3.alloc (.cells #[.slice (some ⟨h, 75, none⟩) mr 64, .slice a3 (noughts n + 9) c3] 36)) := below_one _ _
  go_simp
  refine hK' _ _ S4 ?_
  clear hK' K'
  refine held_call (i := 9) (fuel := 1) (by kernel_rfl) rfl (by rfl) (fun K' hK' => ?_)
  have S24 := Since.trans S3 S4
  have hlt2 : h < w2.heap.size := H2.lt
  have H4 := H2.below S24 hlt2
  have row4 := H4.row
  have rowr : Row .u8 (w3.alloc (.cells #[.slice (some ⟨h, 75, none⟩) mr 64, .slice a3 (noughts n + 9) c3] 36)) (some ⟨h, 75, none⟩) mr 64 (nI (r.take mr)) := by
    refine ⟨by rw [nI_length, List.length_take, H2.lr]; omega, by omega, row4.hmax, by simp, fun h0 => ?_⟩
    obtain ⟨b', o', e', hb', hc'⟩ := row4.hcell (by decide)
    simp only [Option.some.injEq, Addr.mk.injEq, and_true] at e'
    obtain ⟨rfl, rfl⟩ := e'
    refine ⟨h, 75, rfl, hb', fun i hi => ?_⟩
    rw [hc' i (by omega), ← nI_take, List.getElem?_take, if_pos hi]
  have z3 : (w3.alloc (.cells #[.slice (some ⟨h, 75, none⟩) mr 64, .slice a3 (noughts n + 9) c3] 36)).heap.size = w3.heap.size + 1 := by simp
  have hs3 := S3.size
  go_simp
  refine (concat13_any (r.take mr) (padL n) _ a3 mr 64 (noughts n + 9) c3 w3.heap.size _ rowr (row3.below S4 (Nat.le_refl _)) (by rw [z3]; omega) (by rw [World.cell?_alloc_at _ _ _ _ rfl]; rfl) (by rw [World.cell?_alloc_at _ _ _ _ rfl]; rfl) (by omega) (by omega) (by omega)).mono ?_
  rintro e w5 ⟨v5, rfl, own5, q5⟩
  obtain ⟨a5, c5, rfl, _⟩ := row_of_owns own5
  have S5 := Since.trans S24 q5
  rw [z3] at own5
  refine hK' _ _ q5 ?_
  clear hK' K' H4 row4 rowr row3 S4 S24 q5
  refine held_reads (rs := [10]) (fuel := 0) (by kernel_rfl) (fun c d v a w h => by cases d <;> exact h) (by kernel_rfl) (Since.refl _) (fun K' hK' => ?_)
  go_simp
  refine calm_assign _ rfl (by rfl) rfl ?_
  go_simp
  refine calm_nil (hK'.out _ ?_)
  clear hK' K'
  refine wpAnyH_done (by kernel_rfl) ?_ _
  have HH : Hid (HashAt w5 h 1 0 K st.list r n) := H2.below S5 hlt2
  have HA4 : Hid (Arr w5 w1.heap.size 30 .u32 (nI st.list)) := A4'.below S5 (by omega)
  have HA2 : Hid (Arr w5 w.heap.size 43 .u8 (nI (List.replicate 32 0))) := A2'.below S5 (by omega)
  have HG : Hid (w.grownBy w5 (some h)) := turned_trans g2 (turned_below _ S5)
  have HO : Hid (w5.ownsRow (w3.heap.size + 1) 5 1 (.slice a5 (mr + (noughts n + 9)) c5) (mr + (noughts n + 9)) ((nI (r.take mr ++ padL n)).map (Value.int .u8))) := own5
  clear H2 A4' A2' g2 own5 S5 S3
  have HBY : Hid (∀ x ∈ r.take mr ++ padL n, x < 256) := fun x hx => by
    rcases List.mem_append.1 hx with h' | h'
    · exact HR2.out x (List.mem_of_mem_take h')
    · exact padL_lt n x h'
  have hTL : (mr + (noughts n + 9)) % 64 = 0 := by have := HMR.out; omega
  obtain ⟨TB, hTB⟩ : ∃ TB, mr + (noughts n + 9) = 64 * TB := ⟨(mr + (noughts n + 9)) / 64, by omega⟩
  rw [show (mr + (noughts n + 9)) / 64 = TB from by omega] at HTL
  rw [hTB] at HO ⊢
  generalize hTl : r.take mr ++ padL n = tl at *
  have hTB3 : TB ≤ 3 := by omega
  have hW3 : w1.heap.size < w3.heap.size + 1 := by omega
  have hW : w.heap.size < w1.heap.size := by omega
  have hW3' : w.heap.size < w3.heap.size + 1 := by omega
  generalize w3.heap.size + 1 = B at *
  clear hTl hTL hTB hpw hrem z3 hs3 hnl s2
  have HTl : Hid (tl.length = 64 * TB) := by show _ = _; have := HO.out.1; rw [List.length_map, nI_length] at this; simpa using this
  go_wp2
  go_loopw [6] (fun y wr => ∃ k : Nat, k ≤ TB ∧ y = .int .i64 ((64 * k : Nat) : Int) ∧ Hid (Arr wr w1.heap.size 30 .u32 (nI (blocksTo K st tl k).list)) ∧ Hid (HashAt wr h 1 0 K st.list r n) ∧ Hid (Arr wr w.heap.size 43 .u8 (nI (List.replicate 32 0))) ∧ Hid (wr.ownsRow B 5 1 (.slice a5 (64 * TB) c5) (64 * TB) ((nI tl).map (Value.int .u8))) ∧ Hid (w.grownBy wr (some h))) (fun y _ => 64 * TB - (intOf y).toNat)
  case atStart => exact ⟨0, Nat.zero_le _, rfl, HA4, HH, HA2, HO, HG⟩
  case round =>
    clear HA4 HH HA2 HO HG
    obtain ⟨k, hk, rfl, HA4, HH, HA2, HO, HG⟩ := hrel
    have HOKk : Hid ((blocksTo K st tl k).Ok) := blocksTo_ok HOK.out _ _
    have HNX : Hid (mixL K (blocksTo K st tl k) ((tl.drop (64 * k)).take 64) = blocksTo K st tl (k + 1)) := rfl
    have hlt4 := HA4.out.lt
    by_cases hkt : k < TB
    · obtain ⟨a6, c6, e6, row6⟩ := row_of_owns HO.out
      simp only [Value.slice.injEq, true_and] at e6
      obtain ⟨rfl, rfl⟩ := e6
      obtain ⟨a7, hs7, row7⟩ := row_window row6 (64 * k) 64 (by decide) (by omega)
      have hcap6 := row6.hcap
      have HWin : Hid (∀ W, (Instr.sliceAt 36 (.slice a5 (64 * TB) c5) (some (.int .i64 ((64 * k : Nat) : Int))) (some (.int .i64 ((64 * k + 64 : Nat) : Int))) none).run Try.prog W = .ok (.slice a7 64 (c5 - 64 * k)) W) := fun W => by
        rw [run_windowA 36 5 Try.underlying36 Try.one5 a5 (64 * TB) c5 (64 * k) (64 * k + 64) .i64 .i64 (by omega) (by omega) W, hs7]
      have HRW : Hid (∀ w', (∀ b off, a5 = some ⟨b, off, none⟩ → w'.heap[b]? = wr.heap[b]? ∧ wr.heap.size ≤ w'.heap.size) → Row .u8 w' a7 64 (c5 - 64 * k) (nI ((tl.drop (64 * k)).take 64))) := fun w' hw' => by
        have := row7 w' hw'
        rw [nI_drop, nI_take] at this
        exact this
      have HW256 : Hid (∀ x ∈ (tl.drop (64 * k)).take 64, x < 256) := fun x hx => HBY.out x (List.mem_of_mem_drop (List.mem_of_mem_take hx))
      clear row6 row7 hs7
      generalize (tl.drop (64 * k)).take 64 = zk at *
      generalize blocksTo K st tl k = sk at *
      have e1 : ((64 * k : Nat) : Int) + 64 = ((64 * k + 64 : Nat) : Int) := by omega
      have HE1 : Hid (((64 * k : Nat) : Int) + 64 = ((64 * k + 64 : Nat) : Int)) := e1
      clear e1
      obtain ⟨p0, hp0⟩ : ∃ p0, 64 * k = p0 := ⟨_, rfl⟩
      have HP0 : Hid (64 * k = p0) := hp0
      rw [hp0] at HE1 HWin HRW ⊢
      have hp1 : p0 < 64 * TB := by omega
      have hp2 : p0 ≤ 192 := by omega
      clear hp0
      have hS0 : HashAt wr.drew h 1 0 K st.list r n ∧ (∃ ys : List Int, ys.length = 8 ∧ Arr wr.drew w1.heap.size 30 .u32 ys) ∧ Arr wr.drew w.heap.size 43 .u8 (nI (List.replicate 32 0)) ∧ wr.drew.ownsRow B 5 1 (.slice a5 (64 * TB) c5) (64 * TB) ((nI tl).map (Value.int .u8)) ∧ w.grownBy wr.drew (some h) ∧ w1.heap.size < wr.drew.heap.size := ⟨HH.out.drew, ⟨_, (show (nI sk.list).length = 8 by rw [nI_length]; rfl), HA4.out⟩, HA2.out, HO.out, turned_drew HG.out, hlt4⟩
      go_wp2_with fail
      refine heldS_open (fun w' => HashAt w' h 1 0 K st.list r n ∧ (∃ ys : List Int, ys.length = 8 ∧ Arr w' w1.heap.size 30 .u32 ys) ∧ Arr w' w.heap.size 43 .u8 (nI (List.replicate 32 0)) ∧ w'.ownsRow B 5 1 (.slice a5 (64 * TB) c5) (64 * TB) ((nI tl).map (Value.int .u8)) ∧ w.grownBy w' (some h) ∧ w1.heap.size < w'.heap.size) (by kernel_rfl) ?_
      refine held_reads (rs := [1, 2, 3, 4, 5, 6, 7, 8, 9]) (fuel := 3) (by kernel_rfl) (fun c d v a w h => by cases d <;> exact h) (by kernel_rfl) hS0 (fun K' hK' => ?_)
      refine calm_move _ rfl (by rfl) rfl ?_
      go_simp
      refine calm_move _ rfl (by rfl) rfl ?_
      go_simp
      refine calm_move _ rfl (by rfl) rfl ?_
      go_simp
      refine calm_do (.int .i64 ((p0 + 64 : Nat) : Int)) rfl (by rfl) (fun w' hw' => ?_) ?_
      · go_simp
        rw [IntKind.wrap_i64]
        omega
      go_simp
      refine calm_do (.slice a7 64 (c5 - p0)) rfl (by rfl) (fun w' hw' => ?_) ?_
      · exact exec_sliceLH 36 (.tmp 41) (.tmp 42) (.tmp 44) rfl (.slice a5 (64 * TB) c5) (.int .i64 (p0 : Int)) (.int .i64 ((p0 + 64 : Nat) : Int)) _ rfl rfl rfl (HWin.out w')
      go_simp
      refine calm_move _ rfl (by rfl) rfl ?_
      go_simp
      refine calm_do (.pointer (some ⟨h, 0, none⟩)) rfl (by rfl) (fun w' hw' => ?_) ?_
      · go_simp
      go_simp
      refine calm_do (.pointer (some ⟨h, 3, none⟩)) rfl (by rfl) (fun w' hw' => ?_) ?_
      · go_simp
      go_simp
      refine calm_do (.agg ((nI K).map (Value.int .u32)).toArray) rfl (by rfl) (fun w' hw' => ?_) ?_
      · exact exec_loadM 32 _ rfl h 3 rfl hw'.1.rK Try.underlying32 Try.size32 (by rw [nI_length]; exact HK.out)
      go_simp
      refine calm_nil (hK'.out _ ?_)
      clear hK' K'
      refine heldS_op (i := 0) (fuel := 2) (by kernel_rfl) rfl (by rfl) (fun K' hK' => ?_)
      refine wp_load_row 30 _ rfl w1.heap.size rfl 30 _ (0, 0) _ HA4.out Try.underlying30 rfl (by rw [Try.size30]; simp [nI_length]; rfl) ?_
      go_simp
      refine hK' _ _ hS0 ?_
      clear hK' K'
      refine heldS_op (i := 10) (fuel := 1) (by kernel_rfl) rfl (by rfl) (fun K' hK' => ?_)
      go_simp
      refine (mix_any sk K zk a7 (c5 - p0) wr.drew HOKk.out HK.out HKl.out (HRW.out wr.drew (fun b off hb' => ⟨rfl, Nat.le_refl _⟩)) HW256.out).mono ?_
      rintro e wm ⟨rfl, qm⟩
      obtain ⟨hh0, ⟨ys, hy, ha0⟩, hz0, ho0, hg0, hl0⟩ := hS0
      have SM : HashAt wm h 1 0 K st.list r n ∧ (∃ ys : List Int, ys.length = 8 ∧ Arr wm w1.heap.size 30 .u32 ys) ∧ Arr wm w.heap.size 43 .u8 (nI (List.replicate 32 0)) ∧ wm.ownsRow B 5 1 (.slice a5 (64 * TB) c5) (64 * TB) ((nI tl).map (Value.int .u8)) ∧ w.grownBy wm (some h) ∧ w1.heap.size < wm.heap.size := ⟨hh0.below qm hh0.lt, ⟨ys, hy, ha0.below qm ha0.lt⟩, hz0.below qm hz0.lt, ownsSince ho0 qm, turned_trans hg0 (turned_below _ qm), Nat.lt_of_lt_of_le hl0 qm.size⟩
      refine hK' _ _ SM ?_
      clear hK' K' hh0 hy ha0 hz0 ho0 hg0 hl0 qm
      obtain ⟨hh, ⟨ys, hy, ha⟩, hz, ho, hg, hl⟩ := SM
      refine heldS_op (i := 11) (fuel := 0) (by kernel_rfl) rfl (by rfl) (fun K' hK' => ?_)
      refine wp_storeA 30 _ _ rfl w1.heap.size (nI (mixL K sk zk).list) rfl rfl ha Try.size30 hy (by rw [nI_length]; rfl) ?_
      have A4 := ha.whole (nI (mixL K sk zk).list)
      have H5 : HashAt (wm.setRow w1.heap.size ((nI (mixL K sk zk).list).map (Value.int .u32)).toArray) h 1 0 K st.list r n := hh.same (setRow_other _ _ _ _ (by omega)) (by rw [size_setRow]; exact Nat.le_refl _)
      have A2 := hz.whole_other ((nI (mixL K sk zk).list).map (Value.int .u32)).toArray (show w.heap.size ≠ w1.heap.size by omega)
      have O5 := owns_row_below ho w1.heap.size hW3 ((nI (mixL K sk zk).list).map (Value.int .u32)).toArray
      have G5 := turned_row hg w1.heap.size (by omega) ((nI (mixL K sk zk).list).map (Value.int .u32)).toArray
      have L5 : w1.heap.size < (wm.setRow w1.heap.size ((nI (mixL K sk zk).list).map (Value.int .u32)).toArray).heap.size := by rw [size_setRow]; exact hl
      generalize wm.setRow w1.heap.size ((nI (mixL K sk zk).list).map (Value.int .u32)).toArray = wE at *
      refine hK' _ _ ⟨H5, ⟨_, (show (nI (mixL K sk zk).list).length = 8 by rw [nI_length]; rfl), A4⟩, A2, O5, G5, L5⟩ ?_
      clear hK' K'
      refine wpAnyH_done (by kernel_rfl) ?_ _
      rw [HNX.out] at A4
      clear hh hy ha hz ho hg hl
      go_wp2
      go_roundw
      case rel => exact ⟨k + 1, by omega, by have := HP0.out; go_num, A4, H5, A2, O5, G5⟩
      case measure => have := HP0.out; simp [intOf]; omega
    · obtain rfl : k = TB := by omega
      have HLk : Hid ((nI (blocksTo K st tl k).list).length = 8) := by show _ = _; rw [nI_length]; rfl
      have A4 := HA4.out
      generalize blocksTo K st tl k = sk at *
      go_wp2_with (refine wpList_loadA rfl 30 _ rfl w1.heap.size rfl A4 Try.underlying30 Try.size30 HLk.out ?_)
      refine (told_any sk _ HOKk.out).mono ?_
      rintro e w6 ⟨rfl, q6⟩
      have H6 := HH.out.below q6 HH.out.lt
      have A6 := HA2.out.below q6 HA2.out.lt
      have G6 := turned_trans HG.out (turned_below _ q6)
      have HL32 : Hid ((nI sk.bytes).length = 32) := by show _ = _; rw [nI_length]; rfl
      go_wp2_with (refine wpList_storeA rfl 43 _ _ rfl w.heap.size (nI sk.bytes) rfl rfl A6 Try.size43 (by decide +kernel) HL32.out ?_)
      have H7 : HashAt (w6.setRow w.heap.size ((nI sk.bytes).map (Value.int .u8)).toArray) h 1 0 K st.list r n := H6.same (setRow_other _ _ _ _ (by omega)) (by rw [size_setRow]; exact Nat.le_refl _)
      exact bodyPost_ret (resA rfl _ _ w.heap.size rfl (A6.whole _) Try.underlying43 Try.size43 HL32.out) rfl ⟨by rw [HTL.out], HON.out _ H7, turned_row G6 w.heap.size (Nat.le_refl _) _⟩
theorem write13_any (w : World) (h : Nat) (D z : List Nat) (a : Option Addr) (len cap : Nat) (H : HIs w h KL S0 D) (hr : Row .u8 w a len cap (nI z)) (hz : ∀ x ∈ z, x < 256) (hne : 0 < len → ∀ ad, a = some ad → ad.block ≠ h) (hb : D.length + len < 1000000000000) :
    Calls Try.prog 24 #[.pointer (some ⟨h, 0, none⟩), .slice a len cap] w fun e w' => e = .returned (.int .i64 0) ∧ OnAt w' h KL S0 (D ++ z) ∧ w.grownBy w' (some h) :=
  write_gen KL S0 KL_length KL_lt S0_ok once_any w h D z a len cap H hr hz hne hb
theorem hsum13_any (w : World) (h : Nat) (D : List Nat) (H : HIs w h KL S0 D) (hb : D.length < 1000000000000) :
    Calls Try.prog 25 #[.pointer (some ⟨h, 0, none⟩)] w fun e w' => e = .returned (.agg ((nI (sumL KL S0 D)).map (Value.int .u8)).toArray) ∧ OnAt w' h KL S0 D ∧ w.grownBy w' (some h) :=
  hsum_gen KL S0 KL_length KL_lt S0_ok once_any w h D H hb
theorem sumL_length (K : List Nat) (S : S8) (D : List Nat) : (sumL K S D).length = 32 := rfl
end Go.Proofs.Ytoijeefmddopbaa
