/-
  The code of layer 13 (sha256): root, Start, Rounds: arrays by value.
-/
import Derived.Test.YtoijeefmddopbaaShaRef4
import Derived.Deep.MidRow
import Derived.Deep.WholeRow
namespace Go.Proofs.Ytoijeefmddopbaa
open Go.RowKit
set_option linter.unusedVariables false
set_option maxRecDepth 8192

/-- The block g is an array of numbers. -/
def Arr (w : World) (g : Nat) (T : TypeId) (k : IntKind) (zs : List Int) : Prop := w.heap[g]? = some (.cells (zs.map (Value.int k)).toArray T (0, 0))
theorem Arr.lt {w : World} {g : Nat} {T : TypeId} {k : IntKind} {zs : List Int} (h : Arr w g T k zs) : g < w.heap.size := by
  unfold Arr at h
  rcases Nat.lt_or_ge g w.heap.size with h' | h'
  · exact h'
  · rw [Array.getElem?_eq_none h'] at h; simp at h
theorem Arr.cell {w : World} {g : Nat} {T : TypeId} {k : IntKind} {zs : List Int} (h : Arr w g T k zs) (i : Nat) (hi : i < zs.length) : w.cell? ⟨g, i, none⟩ = some (.int k (zs[i]?.getD 0)) := by
  rw [cell_of_row w g i _ T (0, 0) h]
  simp [List.getElem?_map, List.getElem?_eq_getElem hi]
theorem Arr.unfrozen {w : World} {g : Nat} {T : TypeId} {k : IntKind} {zs : List Int} (h : Arr w g T k zs) (i : Nat) : w.frozen? ⟨g, i, none⟩ = false := by
  unfold Arr at h; simp [World.frozen?, h]
theorem Arr.new (w : World) (T : TypeId) (k : IntKind) (zs : List Int) (cs : Array Value) (hc : cs = (zs.map (Value.int k)).toArray) : Arr (w.alloc (.cells cs T)) w.heap.size T k zs := by
  subst hc; exact heap_alloc_last w _
theorem Arr.alloc {w : World} {g : Nat} {T : TypeId} {k : IntKind} {zs : List Int} (h : Arr w g T k zs) (o : Obj) : Arr (w.alloc o) g T k zs := by
  unfold Arr; rw [Below.heap_alloc w o g h.lt]; exact h
theorem Arr.below {w w' : World} {g B : Nat} {T : TypeId} {k : IntKind} {zs : List Int} (h : Arr w g T k zs) (hb : Below B w w') (hg : g < B) : Arr w' g T k zs := by
  unfold Arr; rw [hb.block g hg]; exact h
theorem Arr.drewN {w : World} {g : Nat} {T : TypeId} {k : IntKind} {zs : List Int} (h : Arr w g T k zs) (n : Nat) : Arr (w.drewN n) g T k zs := h
theorem Arr.other {w : World} {g : Nat} {T : TypeId} {k : IntKind} {zs : List Int} (h : Arr w g T k zs) (a : Addr) (v : Value) (hne : g ≠ a.block) : Arr (w.setCell a v) g T k zs := by
  unfold Arr; rw [Below.heap_setCell w a v g hne]; exact h
theorem Arr.own {w : World} {g : Nat} {T : TypeId} {k : IntKind} {zs : List Int} (h : Arr w g T k zs) (hm : zs.length ≤ maxLen) : w.ownsRow g T 1 (.slice (some ⟨g, 0, none⟩) zs.length zs.length) zs.length (zs.map (Value.int k)) :=
  owns_of_heap h (by simp) (Nat.le_refl _) hm
theorem Arr.set {w : World} {g : Nat} {T : TypeId} {k : IntKind} {zs : List Int} (h : Arr w g T k zs) (hm : zs.length ≤ maxLen) (i : Nat) (x : Int) : Arr (w.setCell ⟨g, i, none⟩ (.int k x)) g T k (zs.set i x) := by
  have h1 := ((h.own hm).stored i (.int k x)).1
  rw [← List.map_set] at h1
  exact heap_of_owns h1
theorem Arr.whole {w : World} {g : Nat} {T : TypeId} {k : IntKind} {zs : List Int} (h : Arr w g T k zs) (ys : List Int) : Arr (w.setRow g (ys.map (Value.int k)).toArray) g T k ys := setRow_heap w g _ _ T (0, 0) h
theorem Arr.whole_other {w : World} {g g' : Nat} {T : TypeId} {k : IntKind} {zs : List Int} (h : Arr w g T k zs) (cs : Array Value) (hne : g ≠ g') : Arr (w.setRow g' cs) g T k zs := by
  unfold Arr; rw [setRow_other w g' g cs hne]; exact h
theorem Arr.row {w : World} {g : Nat} {T : TypeId} {k : IntKind} {zs : List Int} (h : Arr w g T k zs) (hm : zs.length ≤ maxLen) (n : Nat) (hn : zs.length = n) : Row k w (some ⟨g, 0, none⟩) n n zs := by
  subst hn
  obtain ⟨a, c, e, r⟩ := row_of_owns (h.own hm)
  simp only [Value.slice.injEq, true_and] at e
  obtain ⟨rfl, rfl⟩ := e
  exact r
theorem ints_one (k : IntKind) (zs : List Int) : ((zs.map (Value.int k)).toArray).all (·.oneCell') = true := all_oneCell_toArray (by intro v hv; obtain ⟨z, _, rfl⟩ := List.mem_map.1 hv; rfl)
theorem wpList_loadA {P : Program} {ops : Array Oper} {rest : List Oper} {o : Oper} {a : Act} {w : World} {Q : Exit → Act → World → Prop} (hgd : o.guard = none) (ty : TypeId) (x : Operand) (ho : o.op = .load ty x)
    (g : Nat) (hx : a.eval x = .pointer (some ⟨g, 0, none⟩)) {T : TypeId} {k : IntKind} {zs : List Int} (hA : Arr w g T k zs) {n : Nat} {e : TypeId} (hu : P.underlying ty = some (.array n e)) {m : Nat} (hi : (P.info? ty).map (·.size) = some m) (hl : zs.length = m)
    (h : wpList P ops Q rest (a.put o.dst (.agg (zs.map (Value.int k)).toArray)) w) : wpList P ops Q (o :: rest) a w :=
  wpList_load_row hgd ty x ho g hx T _ (0, 0) _ hA hu rfl (by rw [hi]; simp [hl]) h
theorem wpList_storeA {P : Program} {ops : Array Oper} {rest : List Oper} {o : Oper} {a : Act} {w : World} {Q : Exit → Act → World → Prop} (hgd : o.guard = none) (ty : TypeId) (x y : Operand) (ho : o.op = .store ty x y)
    (g : Nat) {k : IntKind} (ys : List Int) (hx : a.eval x = .pointer (some ⟨g, 0, none⟩)) (hy : a.eval y = .agg (ys.map (Value.int k)).toArray) {T : TypeId} {zs : List Int} (hA : Arr w g T k zs) {m : Nat} (hi : (P.info? ty).map (·.size) = some m) (hl : zs.length = m) (hl2 : ys.length = m)
    (h : wpList P ops Q rest (a.put o.dst undef) (w.setRow g (ys.map (Value.int k)).toArray)) : wpList P ops Q (o :: rest) a w :=
  wpList_store_row hgd ty x y ho g _ hx hy T _ hA (by rw [hi]; simp [hl2]) (by simp [hl, hl2]) (ints_one k ys) h
theorem resA {P : Program} {fn : Func} {p : Tmp} {ty : TypeId} (h : fn.results = #[.cell p ty]) (tmps : Array Value) (w : World) (g : Nat) (hp : tmps.getD p undef = .pointer (some ⟨g, 0, none⟩)) {T : TypeId} {k : IntKind} {zs : List Int} (hA : Arr w g T k zs)
    {n : Nat} {e : TypeId} (hu : P.underlying ty = some (.array n e)) {m : Nat} (hi : (P.info? ty).map (·.size) = some m) (hl : zs.length = m) : (results fn tmps).run P w = .ok (.agg (zs.map (Value.int k)).toArray) w :=
  results_cell_row h tmps w g T _ (0, 0) _ hp hA hu rfl (by rw [hi]; simp [hl])
theorem Try.size30 : (Try.prog.info? 30).map (·.size) = some 8 := by kernel_rfl
theorem Try.size32 : (Try.prog.info? 32).map (·.size) = some 64 := by kernel_rfl
theorem half_bit34 (k : Nat) (hk : k < 35) : 17179869184 / 2 ^ k = 2 ^ (34 - k) := by
  have : 17179869184 = 2 ^ (34 - k) * 2 ^ k := by rw [← Nat.pow_add, show 34 - k + k = 34 from by omega]
  rw [this, Nat.mul_div_cancel _ (Nat.two_pow_pos k)]
set_option maxHeartbeats 1600000 in
theorem root_any (F : FuncId) (f : Nat → Nat) (lim : Nat) (w : World) (hlim : lim < 18446744073709551616) (hf : ∀ (r : Nat) w, r < 34359738368 → Calls Try.prog F #[.int .u64 (r : Int)] w fun e w' => e = .returned (.int .u64 ((f r : Nat) : Int)) ∧ w = w')
    (hcall : ∀ args w, Sem.run Try.prog (callFunc F args) w = .ok (.enter F args) w) :
    Calls Try.prog 27 #[.int .u64 (lim : Int), .func (.func F) #[] #[]] w fun e w' => e = .returned (.int .u32 ((rtTo f lim 35 % 4294967296 : Nat) : Int)) ∧ w = w' := by
  go_enter Try.func27, Try.ntmps27
  go_wp2
  go_loop [5, 6] (fun r y => ∃ k : Nat, k ≤ 35 ∧ y = .int .u64 ((17179869184 / 2 ^ k : Nat) : Int) ∧ r = .int .u64 ((rtTo f lim k : Nat) : Int)) (fun _ y => (intOf y).toNat)
  case atStart => exact ⟨0, by omega, by simp, rfl⟩
  case round =>
    obtain ⟨k, hk, rfl, rfl⟩ := hrel
    have hlt := rtTo_lt f lim k
    have hlt1 := rtTo_lt f lim (k + 1)
    have HH : Hid (17179869184 / 2 ^ (k + 1) = 17179869184 / 2 ^ k / 2) := (div_step2 _ k).symm
    have hle : 17179869184 / 2 ^ k ≤ 17179869184 := Nat.div_le_self _ _
    by_cases h35 : k < 35
    · have hb := half_bit34 k h35
      have h1 : 0 < 2 ^ (34 - k) := Nat.two_pow_pos _
      have HF : Hid (rtTo f lim (k + 1) = bif Nat.blt (f (rtTo f lim k ||| 2 ^ (34 - k))) lim then rtTo f lim k ||| 2 ^ (34 - k) else rtTo f lim k) := rfl
      rw [hb] at HH hle ⊢
      have hor : rtTo f lim k ||| 2 ^ (34 - k) < 34359738368 := Nat.or_lt_two_pow (n := 35) hlt (Nat.pow_lt_pow_right (by decide) (by omega))
      generalize rtTo f lim k = r at *
      generalize 2 ^ (34 - k) = bit at *
      have eor : bits .or .u64 (r : Int) (bit : Int) = ((r ||| bit : Nat) : Int) := u64_or_nat r bit (by omega) (by omega)
      generalize r ||| bit = rb at *
      go_wp2_with fail
      refine (hf rb _ hor).mono ?_
      rintro e w2 ⟨rfl, rfl⟩
      have hblt : Nat.blt (f rb) lim = decide (f rb < lim) := by rw [Bool.eq_iff_iff, Nat.blt_eq, decide_eq_true_iff]
      rw [hblt] at HF
      generalize f rb = fr at *
      clear hblt
      by_cases hfl : fr < lim
      · have hd : decide (fr < lim) = true := decide_eq_true hfl
        rw [hd] at HF
        clear hd
        go_wp2
        go_round
        case rel => exact ⟨k + 1, by omega, by rw [HH.out]; go_num, by rw [HF.out]; rfl⟩
        case measure => simp [intOf]; omega
      · have hd : decide (fr < lim) = false := decide_eq_false hfl
        rw [hd] at HF
        clear hd
        go_wp2
        go_round
        case rel => exact ⟨k + 1, by omega, by rw [HH.out]; go_num, by rw [HF.out]; rfl⟩
        case measure => simp [intOf]; omega
    · obtain rfl : k = 35 := by omega
      have hz : 17179869184 / 2 ^ 35 = 0 := by decide
      rw [hz] at HH hle ⊢
      generalize hr0 : rtTo f lim 35 = r at *
      have HR : Hid (rtTo f lim 35 = r) := hr0
      clear hr0
      go_wp2
      go_ret
      exact ⟨ret_int (by first | omega | (rw [HR.out] <;> omega)), rfl⟩
/-- What is laid into an array from the front on, noughts behind it. -/
def fillL (L : List Nat) (n k : Nat) : List Nat := L.take k ++ List.replicate (n - k) 0
theorem fillL_length {L : List Nat} {n k : Nat} (hL : L.length = n) (hk : k ≤ n) : (fillL L n k).length = n := by simp [fillL]; omega
theorem fillL_zero (L : List Nat) (n : Nat) : fillL L n 0 = List.replicate n 0 := by simp [fillL]
theorem fillL_full {L : List Nat} {n : Nat} (hL : L.length = n) : fillL L n n = L := by simp [fillL, List.take_of_length_le (show L.length ≤ n by omega)]
theorem fillL_next {L : List Nat} {n k : Nat} (hL : L.length = n) (hk : k < n) : (fillL L n k).set k (L[k]?.getD 0) = fillL L n (k + 1) := by
  unfold fillL
  have hl : (L.take k).length = k := by simp; omega
  rw [List.set_append_right _ _ (by omega), hl, Nat.sub_self, take_snocN L k (by omega), show n - k = (n - (k + 1)) + 1 from by omega, List.replicate_succ, List.set_cons_zero, List.append_assoc]
  rfl
set_option maxHeartbeats 1600000 in
theorem start_any (w : World) : Calls Try.prog 13 #[] w fun e w' => e = .returned (.agg ((nI SL).map (Value.int .u32)).toArray) ∧ Below w.heap.size w w' := by
  have HSL : Hid (SL.length = 8) := by show _ = _; decide +kernel
  go_enter Try.func13, Try.ntmps13
  go_wp2_with fail
  have A0 := (Arr.new w 30 .u32 (nI (List.replicate 8 0)) _ rfl).alloc (.cells ((nI (List.replicate 8 0)).map (Value.int .u32)).toArray 30)
  have A1 := Arr.new (w.alloc (.cells ((nI (List.replicate 8 0)).map (Value.int .u32)).toArray 30)) 30 .u32 (nI (List.replicate 8 0)) _ rfl
  have hs : (w.alloc (.cells ((nI (List.replicate 8 0)).map (Value.int .u32)).toArray 30)).heap.size = w.heap.size + 1 := by simp
  have hs2 : ((w.alloc (.cells ((nI (List.replicate 8 0)).map (Value.int .u32)).toArray 30)).alloc (.cells ((nI (List.replicate 8 0)).map (Value.int .u32)).toArray 30)).heap.size = w.heap.size + 2 := by simp
  have q1 := below_two w (.cells ((nI (List.replicate 8 0)).map (Value.int .u32)).toArray 30) (.cells ((nI (List.replicate 8 0)).map (Value.int .u32)).toArray 30)
  rw [hs] at A1
  clear hs
  change Calls Try.prog _ _ ((w.alloc (.cells ((nI (List.replicate 8 0)).map (Value.int .u32)).toArray 30)).alloc (.cells ((nI (List.replicate 8 0)).map (Value.int .u32)).toArray 30)) _
  generalize (w.alloc (.cells ((nI (List.replicate 8 0)).map (Value.int .u32)).toArray 30)).alloc (.cells ((nI (List.replicate 8 0)).map (Value.int .u32)).toArray 30) = w1 at *
  refine (shaPrimes_yes 8 _ (by decide)).mono ?_
  rintro e w2 ⟨v2, rfl, hown2, q2⟩
  obtain ⟨a2, c2, rfl, _⟩ := row_of_owns hown2
  have q12 : Below w.heap.size w w2 := q1.trans (q2.mono (by omega))
  replace A0 := A0.below q2 (by omega)
  replace A1 := A1.below q2 (by omega)
  have hs3 := q2.size
  clear q1 q2
  go_wp2
  go_loopw [12] (fun y wr => ∃ k : Nat, k ≤ 8 ∧ y = .int .i64 (k : Int) ∧ Hid (Arr wr (w.heap.size + 1) 30 .u32 (nI (fillL SL 8 k))) ∧ Hid (Arr wr w.heap.size 30 .u32 (nI (List.replicate 8 0))) ∧ Hid (Below w.heap.size w wr) ∧ Hid (wr.ownsRow w1.heap.size 3 1 (.slice a2 8 c2) 8 ((nI (prL.take 8)).map (Value.int .i64)))) (fun y _ => 8 - (intOf y).toNat)
  case atStart => exact ⟨0, by omega, rfl, by rw [fillL_zero]; exact A1, A0, q12, hown2⟩
  case round =>
    clear A0 A1 q12 hown2
    obtain ⟨k, hk, rfl, HA1, HA0, HB, HO⟩ := hrel
    by_cases hlt : k < 8
    · obtain ⟨a3, c3, e3, row3⟩ := row_of_owns HO.out
      simp only [Value.slice.injEq, true_and] at e3
      obtain ⟨rfl, rfl⟩ := e3
      obtain ⟨b, off, rfl, hbs, hcell⟩ := row3.hcell (by omega)
      have hc1 := hcell k hlt
      clear hcell row3
      rw [nI_get, prL_take_get 8 k hlt] at hc1
      have HS : Hid (SL[k]?.getD 0 = rtTo sqT (prL[k]?.getD 0) 35 % 4294967296) := by show _ = _; rw [map_take_get _ 8 k SL SL_code (by decide) hlt]
      have hp := prL_get_lt k
      have hcl := HA1.out.cell k (by rw [nI_length, fillL_length HSL.out hk]; exact hlt)
      have hfz := HA1.out.unfrozen k
      generalize prL[k]?.getD 0 = p at *
      have hroot := root_any 28 sqT p wr (by omega) (fun r w h => squareTop_any r w h) (fun _ _ => rfl)
      have HA1' : Hid (Arr (wr.setCell ⟨w.heap.size + 1, k, none⟩ (.int .u32 ((rtTo sqT p 35 % 4294967296 : Nat) : Int))) (w.heap.size + 1) 30 .u32 (nI (fillL SL 8 (k + 1)))) := by
        show Arr _ _ _ _ _
        have := HA1.out.set (by rw [nI_length, fillL_length HSL.out hk]; decide) k ((rtTo sqT p 35 % 4294967296 : Nat) : Int)
        rw [nI_set, ← HS.out, fillL_next HSL.out hlt, HS.out] at this
        exact this
      have hzlt := Nat.mod_lt (rtTo sqT p 35) (show 4294967296 > 0 by decide)
      generalize rtTo sqT p 35 % 4294967296 = z at *



      go_wp2_with fail
      refine hroot.mono ?_
      rintro e w3 ⟨rfl, rfl⟩
      go_wp2
      go_roundw
      case rel => exact ⟨k + 1, by omega, by go_num, HA1', HA0.out.other _ _ (by show w.heap.size ≠ w.heap.size + 1; omega), HB.out.setCell (by show w.heap.size ≤ w.heap.size + 1; omega) _, ownsRow_setCell_below HO.out (by show w.heap.size + 1 < w1.heap.size; omega) _⟩
      case measure => simp [intOf]; omega
    · obtain rfl : k = 8 := by omega
      have A1 := HA1.out
      rw [fillL_full HSL.out] at A1
      have hl : (nI SL).length = 8 := by rw [nI_length]; exact HSL.out
      have HL : Hid ((nI SL).length = 8) := hl
      clear hl
      go_wp2_with (first
        | (refine wpList_loadA rfl 30 _ rfl (w.heap.size + 1) rfl A1 Try.underlying30 Try.size30 HL.out ?_)
        | (refine wpList_storeA rfl 30 _ _ rfl w.heap.size (nI SL) rfl rfl HA0.out Try.size30 (by decide +kernel) HL.out ?_))
      exact bodyPost_ret (resA rfl _ _ w.heap.size rfl (HA0.out.whole _) Try.underlying30 Try.size30 HL.out) rfl ⟨rfl, below_setRow HB.out (Nat.le_refl _) _⟩
set_option maxHeartbeats 1600000 in
theorem rounds_any (w : World) : Calls Try.prog 14 #[] w fun e w' => e = .returned (.agg ((nI KL).map (Value.int .u32)).toArray) ∧ Below w.heap.size w w' := by
  have HSL : Hid (KL.length = 64) := by show _ = _; decide +kernel
  go_enter Try.func14, Try.ntmps14
  go_wp2_with fail
  have A0 := (Arr.new w 32 .u32 (nI (List.replicate 64 0)) _ rfl).alloc (.cells ((nI (List.replicate 64 0)).map (Value.int .u32)).toArray 32)
  have A1 := Arr.new (w.alloc (.cells ((nI (List.replicate 64 0)).map (Value.int .u32)).toArray 32)) 32 .u32 (nI (List.replicate 64 0)) _ rfl
  have hs : (w.alloc (.cells ((nI (List.replicate 64 0)).map (Value.int .u32)).toArray 32)).heap.size = w.heap.size + 1 := by simp
  have hs2 : ((w.alloc (.cells ((nI (List.replicate 64 0)).map (Value.int .u32)).toArray 32)).alloc (.cells ((nI (List.replicate 64 0)).map (Value.int .u32)).toArray 32)).heap.size = w.heap.size + 2 := by simp
  have q1 := below_two w (.cells ((nI (List.replicate 64 0)).map (Value.int .u32)).toArray 32) (.cells ((nI (List.replicate 64 0)).map (Value.int .u32)).toArray 32)
  rw [hs] at A1
  clear hs
  change Calls Try.prog _ _ ((w.alloc (.cells ((nI (List.replicate 64 0)).map (Value.int .u32)).toArray 32)).alloc (.cells ((nI (List.replicate 64 0)).map (Value.int .u32)).toArray 32)) _
  generalize (w.alloc (.cells ((nI (List.replicate 64 0)).map (Value.int .u32)).toArray 32)).alloc (.cells ((nI (List.replicate 64 0)).map (Value.int .u32)).toArray 32) = w1 at *
  refine (shaPrimes_yes 64 _ (by decide)).mono ?_
  rintro e w2 ⟨v2, rfl, hown2, q2⟩
  obtain ⟨a2, c2, rfl, _⟩ := row_of_owns hown2
  have q12 : Below w.heap.size w w2 := q1.trans (q2.mono (by omega))
  replace A0 := A0.below q2 (by omega)
  replace A1 := A1.below q2 (by omega)
  have hs3 := q2.size
  clear q1 q2
  go_wp2
  go_loopw [12] (fun y wr => ∃ k : Nat, k ≤ 64 ∧ y = .int .i64 (k : Int) ∧ Hid (Arr wr (w.heap.size + 1) 32 .u32 (nI (fillL KL 64 k))) ∧ Hid (Arr wr w.heap.size 32 .u32 (nI (List.replicate 64 0))) ∧ Hid (Below w.heap.size w wr) ∧ Hid (wr.ownsRow w1.heap.size 3 1 (.slice a2 64 c2) 64 ((nI (prL.take 64)).map (Value.int .i64)))) (fun y _ => 64 - (intOf y).toNat)
  case atStart => exact ⟨0, by omega, rfl, by rw [fillL_zero]; exact A1, A0, q12, hown2⟩
  case round =>
    clear A0 A1 q12 hown2
    obtain ⟨k, hk, rfl, HA1, HA0, HB, HO⟩ := hrel
    by_cases hlt : k < 64
    · obtain ⟨a3, c3, e3, row3⟩ := row_of_owns HO.out
      simp only [Value.slice.injEq, true_and] at e3
      obtain ⟨rfl, rfl⟩ := e3
      obtain ⟨b, off, rfl, hbs, hcell⟩ := row3.hcell (by omega)
      have hc1 := hcell k hlt
      clear hcell row3
      rw [nI_get, prL_take_get 64 k hlt] at hc1
      have HS : Hid (KL[k]?.getD 0 = rtTo cbT (prL[k]?.getD 0 * 4294967296) 35 % 4294967296) := by show _ = _; rw [map_take_get _ 64 k KL KL_code (by decide) hlt]
      have hp := prL_get_lt k
      have hcl := HA1.out.cell k (by rw [nI_length, fillL_length HSL.out hk]; exact hlt)
      have hfz := HA1.out.unfrozen k
      generalize prL[k]?.getD 0 = p at *
      have hroot := root_any 29 cbT (p * 4294967296) wr (by omega) (fun r w h => cubeTop_any r w h) (fun _ _ => rfl)
      have HA1' : Hid (Arr (wr.setCell ⟨w.heap.size + 1, k, none⟩ (.int .u32 ((rtTo cbT (p * 4294967296) 35 % 4294967296 : Nat) : Int))) (w.heap.size + 1) 32 .u32 (nI (fillL KL 64 (k + 1)))) := by
        show Arr _ _ _ _ _
        have := HA1.out.set (by rw [nI_length, fillL_length HSL.out hk]; decide) k ((rtTo cbT (p * 4294967296) 35 % 4294967296 : Nat) : Int)
        rw [nI_set, ← HS.out, fillL_next HSL.out hlt, HS.out] at this
        exact this
      have hzlt := Nat.mod_lt (rtTo cbT (p * 4294967296) 35) (show 4294967296 > 0 by decide)
      generalize rtTo cbT (p * 4294967296) 35 % 4294967296 = z at *
      have hsh : (p : Int) * 4294967296 = ((p * 4294967296 : Nat) : Int) := by omega
      have hpl : p * 4294967296 < 18446744073709551616 := by omega
      generalize p * 4294967296 = pp at *
      go_wp2_with fail
      refine hroot.mono ?_
      rintro e w3 ⟨rfl, rfl⟩
      go_wp2
      go_roundw
      case rel => exact ⟨k + 1, by omega, by go_num, HA1', HA0.out.other _ _ (by show w.heap.size ≠ w.heap.size + 1; omega), HB.out.setCell (by show w.heap.size ≤ w.heap.size + 1; omega) _, ownsRow_setCell_below HO.out (by show w.heap.size + 1 < w1.heap.size; omega) _⟩
      case measure => simp [intOf]; omega
    · obtain rfl : k = 64 := by omega
      have A1 := HA1.out
      rw [fillL_full HSL.out] at A1
      have hl : (nI KL).length = 64 := by rw [nI_length]; exact HSL.out
      have HL : Hid ((nI KL).length = 64) := hl
      clear hl
      go_wp2_with (first
        | (refine wpList_loadA rfl 32 _ rfl (w.heap.size + 1) rfl A1 Try.underlying32 Try.size32 HL.out ?_)
        | (refine wpList_storeA rfl 32 _ _ rfl w.heap.size (nI KL) rfl rfl HA0.out Try.size32 (by decide +kernel) HL.out ?_))
      exact bodyPost_ret (resA rfl _ _ w.heap.size rfl (HA0.out.whole _) Try.underlying32 Try.size32 HL.out) rfl ⟨rfl, below_setRow HB.out (Nat.le_refl _) _⟩
end Go.Proofs.Ytoijeefmddopbaa
