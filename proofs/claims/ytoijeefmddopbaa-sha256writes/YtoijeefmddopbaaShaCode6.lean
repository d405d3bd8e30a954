/-
  The code of layer 13 (sha256): told, Block.
-/
import Derived.Test.YtoijeefmddopbaaShaCode5
namespace Go.Proofs.Ytoijeefmddopbaa
open Go.RowKit
set_option linter.unusedVariables false
set_option maxRecDepth 8192

section
variable {P : Program} {ops : Array Oper} {Q : Exit → Act → World → Prop} {md : Region.Mode} {S : World → Prop}
/-- A region that draws its order, under any condition. -/
theorem heldS_open (S : World → Prop) {id : Nat} {a : Act} {w : World} (hm : P.follows .mixedOrders = true)
    (h : wpAnyH P .any ops Q S ops.size (Array.replicate ops.size false) a w.drew) : (Code.region id ops true).wp P Q a w := wp_region_held hm h
/-- The one operation that may come up. -/
theorem heldS_op {i : Nat} {o : Oper} {fuel : Nat} {listed : Array Bool} {a : Act} {w : World} (hr : Region.ready md ops listed = [i]) (ho : ops[i]? = some o)
    (hw : Region.wanted o (yielded ops a.tmps) = true)
    (h : ∀ K' : Act → World → Prop, (∀ a w1, S w1 → wpAnyH P md ops Q S fuel (listed.setIfInBounds i true) a w1 → K' a w1) → Oper.wp P o a w K' Q) :
    wpAnyH P md ops Q S (fuel + 1) listed a w := by
  refine wpAnyH_all hr (by simp) fun j hj => ?_
  simp only [List.mem_singleton] at hj
  subst hj
  refine wpOp_step ho fun K' hK => ?_
  rw [if_pos hw]
  exact h K' fun a w1 hs hh => hK a w1 ⟨hs, hh⟩
end
theorem exec_loadA {P : Program} {a : Act} {o : Oper} {w : World} (ty : TypeId) (x : Operand) (ho : o.op = .load ty x) (g : Nat) (hx : a.eval x = .pointer (some ⟨g, 0, none⟩)) {T : TypeId} {k : IntKind} {zs : List Int} (hA : Arr w g T k zs) {n : Nat} {e : TypeId}
    (hu : P.underlying ty = some (.array n e)) {m : Nat} (hi : (P.info? ty).map (·.size) = some m) (hl : zs.length = m) : (execOp a.eval o).run P w = .ok (.value (.agg (zs.map (Value.int k)).toArray)) w := by
  unfold execOp
  simp only [ho, hx, Instr.loadAt, Instr.sureAddr, Sem.run_bind, Sem.run_pure, Result.andThen_ok, run_loadVar_row w g T ty _ (0, 0) _ hA hu rfl (show (P.info? ty).map (·.size) = some (zs.map (Value.int k)).toArray.size by rw [hi]; simp [hl])]
theorem wp_storeA {P : Program} {o : Oper} {a : Act} {w : World} {K : Act → World → Prop} {Q : Exit → Act → World → Prop} (ty : TypeId) (x y : Operand) (ho : o.op = .store ty x y)
    (g : Nat) {k : IntKind} (ys : List Int) (hx : a.eval x = .pointer (some ⟨g, 0, none⟩)) (hy : a.eval y = .agg (ys.map (Value.int k)).toArray) {T : TypeId} {zs : List Int} (hA : Arr w g T k zs) {m : Nat} (hi : (P.info? ty).map (·.size) = some m) (hl : zs.length = m) (hl2 : ys.length = m)
    (h : K (a.put o.dst undef) (w.setRow g (ys.map (Value.int k)).toArray)) : o.wp P a w K Q :=
  wp_store_row ty x y ho g _ hx hy T _ hA (by rw [hi]; simp [hl2]) (by simp [hl, hl2]) (ints_one k ys) h

/-- A part of an array of single cells, through its address. -/
theorem run_sliceAtA {P : Program} (t e : TypeId) (n : Nat) (hu : P.underlying t = some (.array n e)) (he : (P.info? e).map (·.size) = some 1) (b o : Nat) (kl kh : IntKind) (l h : Nat) (h1 : l ≤ h) (h2 : h ≤ n) (h3 : l < n) (w : World) :
    (Instr.sliceAt t (.pointer (some ⟨b, o, none⟩)) (some (.int kl (l : Int))) (some (.int kh (h : Int))) none).run P w = .ok (.slice (some ⟨b, o + l, none⟩) (h - l) (n - l)) w := by
  have hal : P.arrayLen t = n := by simp [Program.arrayLen, hu]
  have hel : P.elem t = e := by simp [Program.elem, hu]
  obtain ⟨inf, hq, hs⟩ := Option.map_eq_some_iff.1 he
  rw [run_sliceAt_array_lh w t ⟨b, o, none⟩ (by rw [hal, hel]; exact hu) kl kh (l : Int) (h : Int) (by omega) (by omega) (by rw [hal]; omega)]
  rw [hal, hel]
  simp [sizeOf, typeInfo, hq, hs, slicedAt, show ¬ n = l by omega, plain_add]
theorem run_sliceAtL {P : Program} (t e : TypeId) (n : Nat) (hu : P.underlying t = some (.array n e)) (he : (P.info? e).map (·.size) = some 1) (b o : Nat) (kl : IntKind) (l : Nat) (h3 : l < n) (w : World) :
    (Instr.sliceAt t (.pointer (some ⟨b, o, none⟩)) (some (.int kl (l : Int))) none none).run P w = .ok (.slice (some ⟨b, o + l, none⟩) (n - l) (n - l)) w := by
  have hal : P.arrayLen t = n := by simp [Program.arrayLen, hu]
  have hel : P.elem t = e := by simp [Program.elem, hu]
  obtain ⟨inf, hq, hs⟩ := Option.map_eq_some_iff.1 he
  rw [run_sliceAt_array_l w t ⟨b, o, none⟩ (by rw [hal, hel]; exact hu) kl (l : Int) (by omega) (by rw [hal]; omega)]
  rw [hal, hel]
  simp [sizeOf, typeInfo, hq, hs, slicedAt, show ¬ n = l by omega, plain_add]
theorem run_sliceAtH {P : Program} (t e : TypeId) (n : Nat) (hu : P.underlying t = some (.array n e)) (he : (P.info? e).map (·.size) = some 1) (b o : Nat) (kh : IntKind) (h : Nat) (h2 : h ≤ n) (h3 : 0 < n) (w : World) :
    (Instr.sliceAt t (.pointer (some ⟨b, o, none⟩)) none (some (.int kh (h : Int))) none).run P w = .ok (.slice (some ⟨b, o, none⟩) h n) w := by
  have hal : P.arrayLen t = n := by simp [Program.arrayLen, hu]
  have hel : P.elem t = e := by simp [Program.elem, hu]
  obtain ⟨inf, hq, hs⟩ := Option.map_eq_some_iff.1 he
  rw [run_sliceAt_array_h w t ⟨b, o, none⟩ (by rw [hal, hel]; exact hu) kh (h : Int) (by omega) (by rw [hal]; omega)]
  rw [hal, hel]
  simp [sizeOf, typeInfo, hq, hs, slicedAt, show ¬ n = 0 by omega, plain_add]
theorem run_sliceAtAll {P : Program} (t e : TypeId) (n : Nat) (hu : P.underlying t = some (.array n e)) (he : (P.info? e).map (·.size) = some 1) (b o : Nat) (h3 : 0 < n) (w : World) :
    (Instr.sliceAt t (.pointer (some ⟨b, o, none⟩)) none none none).run P w = .ok (.slice (some ⟨b, o, none⟩) n n) w := by
  have hal : P.arrayLen t = n := by simp [Program.arrayLen, hu]
  have hel : P.elem t = e := by simp [Program.elem, hu]
  obtain ⟨inf, hq, hs⟩ := Option.map_eq_some_iff.1 he
  rw [run_sliceAt_array_all w t ⟨b, o, none⟩ (by rw [hal, hel]; exact hu)]
  rw [hal, hel]
  simp [sizeOf, typeInfo, hq, hs, slicedAt, show ¬ n = 0 by omega, plain_add]

/-- The state's first k words as bytes. -/
def toldTo (s : S8) (k : Nat) : List Nat := s.bytes.take (4 * k) ++ List.replicate (32 - 4 * k) 0
theorem bytes_length (s : S8) : s.bytes.length = 32 := rfl
theorem toldTo_length (s : S8) (k : Nat) (hk : k ≤ 8) : (toldTo s k).length = 32 := by simp [toldTo, bytes_length]; omega
theorem toldTo_next (s : S8) (k : Nat) (hk : k < 8) : spL (toldTo s k) (beN 4 (s.list[k]?.getD 0)) (4 * k) 4 0 = toldTo s (k + 1) := by
  rw [beN_four]
  rcases (show k = 0 ∨ k = 1 ∨ k = 2 ∨ k = 3 ∨ k = 4 ∨ k = 5 ∨ k = 6 ∨ k = 7 by omega) with rfl | rfl | rfl | rfl | rfl | rfl | rfl | rfl <;> rfl
theorem Try.one5 : (Try.prog.info? 5).map (·.size) = some 1 := by kernel_rfl
theorem Try.size43 : (Try.prog.info? 43).map (·.size) = some 32 := by kernel_rfl
set_option maxHeartbeats 1600000 in
theorem told_any (s : S8) (w : World) (hs : s.Ok) : Calls Try.prog 44 #[.agg ((nI s.list).map (Value.int .u32)).toArray] w fun e w' => e = .returned (.agg ((nI s.bytes).map (Value.int .u8)).toArray) ∧ Below w.heap.size w w' := by
  generalize hX0 : ((nI s.list).map (Value.int .u32)).toArray = X0
  have HL8 : Hid ((nI s.list).length = 8) := by show _ = _; rw [nI_length]; rfl
  go_enter Try.func44, Try.ntmps44
  have A1 := ((Arr.new w 30 .u32 (nI s.list) X0 hX0.symm).alloc (.cells ((nI (List.replicate 32 0)).map (Value.int .u8)).toArray 43)).alloc (.cells ((nI (List.replicate 32 0)).map (Value.int .u8)).toArray 43)
  have A2 := (Arr.new (w.alloc (.cells X0 30)) 43 .u8 (nI (List.replicate 32 0)) _ rfl).alloc (.cells ((nI (List.replicate 32 0)).map (Value.int .u8)).toArray 43)
  have A3 := Arr.new ((w.alloc (.cells X0 30)).alloc (.cells ((nI (List.replicate 32 0)).map (Value.int .u8)).toArray 43)) 43 .u8 (nI (List.replicate 32 0)) _ rfl
  have q1 := below_three w (.cells X0 30) (.cells ((nI (List.replicate 32 0)).map (Value.int .u8)).toArray 43) (.cells ((nI (List.replicate 32 0)).map (Value.int .u8)).toArray 43)
  have z1 : (w.alloc (.cells X0 30)).heap.size = w.heap.size + 1 := by simp
  have z2 : ((w.alloc (.cells X0 30)).alloc (.cells ((nI (List.replicate 32 0)).map (Value.int .u8)).toArray 43)).heap.size = w.heap.size + 1 + 1 := by simp
  rw [z1] at A2
  rw [z2] at A3
  go_wp2_with (refine wpList_loadA rfl 30 _ rfl w.heap.size rfl A1 Try.underlying30 Try.size30 HL8.out ?_)
  clear z1 z2 A1
  go_loopw [7] (fun y wr => ∃ k : Nat, k ≤ 8 ∧ y = .int .i64 (k : Int) ∧ Hid (Arr wr (w.heap.size + 1 + 1) 43 .u8 (nI (toldTo s k))) ∧ Hid (Arr wr (w.heap.size + 1) 43 .u8 (nI (List.replicate 32 0))) ∧ Hid (Below w.heap.size w wr)) (fun y _ => 8 - (intOf y).toNat)
  case atStart => exact ⟨0, by omega, rfl, A3, A2, q1⟩
  case round =>
    clear A3 A2 q1
    obtain ⟨k, hk, rfl, HA3, HA2, HB⟩ := hrel
    by_cases hlt : k < 8
    · have hv : X0[k]? = some (.int .u32 ((s.list[k]?.getD 0 : Nat) : Int)) := by
        rw [← hX0, ← nI_get, List.getElem?_toArray, List.getElem?_map, List.getElem?_eq_getElem (show k < (nI s.list).length by rw [HL8.out]; exact hlt)]
        rfl
      have HV : Hid (X0[k]? = some (.int .u32 ((s.list[k]?.getD 0 : Nat) : Int))) := hv
      clear hv
      have HT : Hid (spL (toldTo s k) (beN 4 (s.list[k]?.getD 0)) (4 * k) 4 0 = toldTo s (k + 1)) := toldTo_next s k hlt
      have hx : s.list[k]?.getD 0 < 4294967296 := by
        rcases (show k = 0 ∨ k = 1 ∨ k = 2 ∨ k = 3 ∨ k = 4 ∨ k = 5 ∨ k = 6 ∨ k = 7 by omega) with rfl | rfl | rfl | rfl | rfl | rfl | rfl | rfl
        · exact hs.a
        · exact hs.b
        · exact hs.c
        · exact hs.d
        · exact hs.e
        · exact hs.f
        · exact hs.g
        · exact hs.h
      generalize s.list[k]?.getD 0 = x at *
      have hsl : ∀ W, (Instr.sliceAt 43 (.pointer (some ⟨w.heap.size + 1 + 1, 0, none⟩)) (some (.int .i64 ((k : Int) * 4))) (some (.int .i64 (((k : Int) + 1) * 4))) none).run Try.prog W = .ok (.slice (some ⟨w.heap.size + 1 + 1, 4 * k, none⟩) 4 (32 - 4 * k)) W := fun W => by
        rw [show (k : Int) * 4 = ((4 * k : Nat) : Int) from by omega, show ((k : Int) + 1) * 4 = ((4 * k + 4 : Nat) : Int) from by omega, run_sliceAtA 43 5 32 Try.underlying43 Try.one5 _ _ .i64 .i64 (4 * k) (4 * k + 4) (by omega) (by omega) (by omega) W, show 4 * k + 4 - 4 * k = 4 from by omega, Nat.zero_add]
      go_wp2_with (refine wpList_indexA rfl 30 _ _ rfl X0 _ k rfl rfl Try.underlying30 Try.underlying29 Try.one29 hlt HV.out ?_)
      refine (put13_any (toldTo s k) 43 (w.heap.size + 1 + 1) (4 * k) 4 x (32 - 4 * k) _ HA3.out (by rw [toldTo_length s k hk]; omega) (by rw [toldTo_length s k hk]; omega) (by omega) (by decide)).mono ?_
      rintro e w3 ⟨rfl, A3, q3⟩
      rw [HT.out] at A3
      have A2 := HA2.out.below q3 (by omega)
      have q4 := HB.out.trans (q3.mono (by omega))
      clear hsl q3
      go_wp2
      go_roundw
      case rel => exact ⟨k + 1, by omega, by go_num, A3, A2, q4⟩
      case measure => simp [intOf]; omega
    · obtain rfl : k = 8 := by omega
      have A3 : Arr wr (w.heap.size + 1 + 1) 43 .u8 (nI s.bytes) := HA3.out
      have HL : Hid ((nI s.bytes).length = 32) := by show _ = _; rw [nI_length]; rfl
      go_wp2_with (first
        | (refine wpList_loadA rfl 43 _ rfl (w.heap.size + 1 + 1) rfl A3 Try.underlying43 Try.size43 HL.out ?_)
        | (refine wpList_storeA rfl 43 _ _ rfl (w.heap.size + 1) (nI s.bytes) rfl rfl HA2.out Try.size43 (by decide +kernel) HL.out ?_))
      exact bodyPost_ret (resA rfl _ _ (w.heap.size + 1) rfl (HA2.out.whole _) Try.underlying43 Try.size43 HL.out) rfl ⟨rfl, below_setRow HB.out (by omega) _⟩
theorem resA2 {P : Program} {fn : Func} {p u : Tmp} {ty : TypeId} (h : fn.results = #[.cell p ty, .tmp u]) (tmps : Array Value) (w : World) (g : Nat) (hp : tmps.getD p undef = .pointer (some ⟨g, 0, none⟩)) {T : TypeId} {k : IntKind} {zs : List Int} (hA : Arr w g T k zs)
    {n : Nat} {e : TypeId} (hu : P.underlying ty = some (.array n e)) {m : Nat} (hi : (P.info? ty).map (·.size) = some m) (hl : zs.length = m) : (results fn tmps).run P w = .ok (.tuple #[.agg (zs.map (Value.int k)).toArray, tmps.getD u undef]) w := by
  have hl' := run_loadVar_row (P := P) w g T ty _ (0, 0) _ hA hu rfl (by rw [hi]; simp [hl])
  rw [results_cell_tmp h, hp]
  simp [asAddr, Result.andThen, hl']
set_option maxHeartbeats 800000 in
theorem block13_no (s : S8) (a : Option Addr) (len cap : Nat) (w : World) (hne : len ≠ 64) : Calls Try.prog 19 #[.agg ((nI s.list).map (Value.int .u32)).toArray, .slice a len cap] w fun e w' => e = .returned (.tuple #[.agg ((nI (List.replicate 8 0)).map (Value.int .u32)).toArray, .int .i64 1]) ∧ Below w.heap.size w w' := by
  generalize ((nI s.list).map (Value.int .u32)).toArray = X0
  have hq : ((len : Int) != 64) = true := by simp; omega
  have A4 := Arr.new (w.alloc (.cells X0 30)) 30 .u32 (nI (List.replicate 8 0)) _ rfl
  have z1 : (w.alloc (.cells X0 30)).heap.size = w.heap.size + 1 := by simp
  rw [z1] at A4
  have q1 := below_two w (.cells X0 30) (.cells ((nI (List.replicate 8 0)).map (Value.int .u32)).toArray 30)
  go_enter Try.func19, Try.ntmps19
  go_wp2_with (refine wpList_storeA rfl 30 _ _ rfl (w.heap.size + 1) (nI (List.replicate 8 0)) rfl rfl A4 Try.size30 (by decide +kernel) (by decide +kernel) ?_)
  exact bodyPost_ret (resA2 rfl _ _ (w.heap.size + 1) rfl (A4.whole _) Try.underlying30 Try.size30 (by decide +kernel)) rfl ⟨rfl, below_setRow q1 (by omega) _⟩
set_option maxHeartbeats 1600000 in
theorem block13_yes (s : S8) (z : List Nat) (a : Option Addr) (cap : Nat) (w : World) (hs : s.Ok) (hr : Row .u8 w a 64 cap (nI z)) (hz : ∀ x ∈ z, x < 256) : Calls Try.prog 19 #[.agg ((nI s.list).map (Value.int .u32)).toArray, .slice a 64 cap] w fun e w' => e = .returned (.tuple #[.agg ((nI (mixL KL s z).list).map (Value.int .u32)).toArray, .int .i64 0]) ∧ Below w.heap.size w w' := by
  generalize hX0 : ((nI s.list).map (Value.int .u32)).toArray = X0
  have HX0 : Hid (((nI s.list).map (Value.int .u32)).toArray = X0) := hX0
  clear hX0
  have A2 := (Arr.new w 30 .u32 (nI s.list) X0 HX0.out.symm).alloc (.cells ((nI (List.replicate 8 0)).map (Value.int .u32)).toArray 30)
  have A4 := Arr.new (w.alloc (.cells X0 30)) 30 .u32 (nI (List.replicate 8 0)) _ rfl
  have z1 : (w.alloc (.cells X0 30)).heap.size = w.heap.size + 1 := by simp
  have z2 : ((w.alloc (.cells X0 30)).alloc (.cells ((nI (List.replicate 8 0)).map (Value.int .u32)).toArray 30)).heap.size = w.heap.size + 2 := by simp
  rw [z1] at A4
  have q1 := below_two w (.cells X0 30) (.cells ((nI (List.replicate 8 0)).map (Value.int .u32)).toArray 30)
  have HL8 : Hid ((nI s.list).length = 8) := by show _ = _; rw [nI_length]; rfl
  go_enter Try.func19, Try.ntmps19
  go_wp2_with fail
  clear z1
  change Code.wp _ _ _ _ ((w.alloc (.cells X0 30)).alloc (.cells ((nI (List.replicate 8 0)).map (Value.int .u32)).toArray 30))
  generalize (w.alloc (.cells X0 30)).alloc (.cells ((nI (List.replicate 8 0)).map (Value.int .u32)).toArray 30) = w1 at *
  have hS0 : Below w.heap.size w w1.drew ∧ Arr w1.drew w.heap.size 30 .u32 (nI s.list) ∧ (∃ ys : List Int, ys.length = 8 ∧ Arr w1.drew (w.heap.size + 1) 30 .u32 ys) ∧ w1.heap.size ≤ w1.drew.heap.size := ⟨q1.drew, A2, ⟨_, by decide +kernel, A4⟩, Nat.le_refl _⟩
  clear A2 A4 q1
  refine heldS_open (fun w' => Below w.heap.size w w' ∧ Arr w' w.heap.size 30 .u32 (nI s.list) ∧ (∃ ys : List Int, ys.length = 8 ∧ Arr w' (w.heap.size + 1) 30 .u32 ys) ∧ w1.heap.size ≤ w'.heap.size) (by kernel_rfl) ?_
  refine held_reads (rs := [0, 1]) (fuel := 4) (by kernel_rfl) (fun c d v a w h => by cases d <;> exact h) (by kernel_rfl) hS0 (fun K hK => ?_)
  refine calm_do (.agg X0) rfl (by rfl) (fun w' hw' => ?_) ?_
  · rw [← HX0.out]
    exact exec_loadA 30 _ rfl w.heap.size rfl hw'.2.1 Try.underlying30 Try.size30 HL8.out
  go_simp
  refine calm_move _ rfl (by rfl) rfl ?_
  go_simp
  refine calm_nil (hK.out _ ?_)
  clear hK K
  refine heldS_op (i := 2) (fuel := 3) (by kernel_rfl) rfl (by rfl) (fun K hK => ?_)
  go_simp
  refine (rounds_any _).mono ?_
  rintro e w2 ⟨rfl, q2⟩
  obtain ⟨qa, Aa, ⟨ys, hy, Ab⟩, hsa⟩ := hS0
  have S2 : Below w.heap.size w w2 ∧ Arr w2 w.heap.size 30 .u32 (nI s.list) ∧ (∃ ys : List Int, ys.length = 8 ∧ Arr w2 (w.heap.size + 1) 30 .u32 ys) ∧ w1.heap.size ≤ w2.heap.size := ⟨qa.trans (q2.mono qa.size), Aa.below q2 Aa.lt, ⟨ys, hy, Ab.below q2 Ab.lt⟩, Nat.le_trans hsa q2.size⟩
  clear qa Aa hy Ab hsa q2
  refine hK _ _ S2 ?_
  clear hK K
  refine heldS_op (i := 3) (fuel := 2) (by kernel_rfl) rfl (by rfl) (fun K hK => ?_)
  go_simp
  rw [← HX0.out]
  refine (mix_any s KL z a cap w2 hs KL_length KL_lt (hr.below S2.1 (Nat.le_refl _)) hz).mono ?_
  rintro e w3 ⟨rfl, q3⟩
  obtain ⟨qa, Aa, ⟨ys, hy, Ab⟩, hsa⟩ := S2
  have S3 : Below w.heap.size w w3 ∧ Arr w3 w.heap.size 30 .u32 (nI s.list) ∧ (∃ ys : List Int, ys.length = 8 ∧ Arr w3 (w.heap.size + 1) 30 .u32 ys) ∧ w1.heap.size ≤ w3.heap.size := ⟨qa.trans (q3.mono qa.size), Aa.below q3 Aa.lt, ⟨ys, hy, Ab.below q3 Ab.lt⟩, Nat.le_trans hsa q3.size⟩
  clear qa Aa hy Ab hsa q3
  refine hK _ _ S3 ?_
  clear hK K
  obtain ⟨qa, Aa, ⟨ys, hy, Ab⟩, hsa⟩ := S3
  have HL : Hid ((nI (mixL KL s z).list).length = 8) := by show _ = _; rw [nI_length]; rfl
  refine heldS_op (i := 4) (fuel := 1) (by kernel_rfl) rfl (by rfl) (fun K hK => ?_)
  refine wp_storeA 30 _ _ rfl (w.heap.size + 1) (nI (mixL KL s z).list) rfl rfl Ab Try.size30 hy HL.out ?_
  have A4 := Ab.whole (nI (mixL KL s z).list)
  have q4 := below_setRow qa (show w.heap.size ≤ w.heap.size + 1 by omega) ((nI (mixL KL s z).list).map (Value.int .u32)).toArray
  have S4 : Below w.heap.size w (w3.setRow (w.heap.size + 1) ((nI (mixL KL s z).list).map (Value.int .u32)).toArray) ∧ Arr (w3.setRow (w.heap.size + 1) ((nI (mixL KL s z).list).map (Value.int .u32)).toArray) w.heap.size 30 .u32 (nI s.list) ∧ (∃ ys : List Int, ys.length = 8 ∧ Arr (w3.setRow (w.heap.size + 1) ((nI (mixL KL s z).list).map (Value.int .u32)).toArray) (w.heap.size + 1) 30 .u32 ys) ∧ w1.heap.size ≤ (w3.setRow (w.heap.size + 1) ((nI (mixL KL s z).list).map (Value.int .u32)).toArray).heap.size :=
    ⟨q4, Aa.whole_other _ (by omega), ⟨_, HL.out, A4⟩, by rw [size_setRow]; exact hsa⟩
  refine hK _ _ S4 ?_
  clear hK K
  refine held_reads (rs := [5]) (fuel := 0) (by kernel_rfl) (fun c d v a w h => by cases d <;> exact h) (by kernel_rfl) S4 (fun K hK => ?_)
  go_simp
  refine calm_assign _ rfl (by rfl) rfl ?_
  go_simp
  refine calm_nil (hK.out _ ?_)
  clear hK K S4
  refine wpAnyH_done (by kernel_rfl) ?_ _
  generalize w3.setRow (w.heap.size + 1) ((nI (mixL KL s z).list).map (Value.int .u32)).toArray = w4 at *
  go_wp2
  exact bodyPost_ret (resA2 rfl _ _ (w.heap.size + 1) rfl A4 Try.underlying30 Try.size30 HL.out) rfl ⟨rfl, q4⟩
end Go.Proofs.Ytoijeefmddopbaa
