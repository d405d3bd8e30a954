/-
  The code of layer 11 (store), as it landed: lay: bytes on a block's pages behind the first one, by a range over slices.Chunk.
-/
import Derived.Test.YtbafkakhhelcmaaGreatStoreCode3
namespace Go.Proofs.YtbafkakhhelcmaaGreat
open Go.RowKit Go.Maps Go.Shelf
set_option linter.unusedVariables false
set_option maxRecDepth 8192
attribute [local go_sem] Oper.semAt_some

/-- 'make([]byte, n)'. -/
theorem makeZ11 (n : Nat) (hn : n ≤ 1000) (w : World) : ∃ w', Sem.run Tryz.prog (Instr.makeSlice 43 (.int .i64 (n : Int)) (.int .i64 (n : Int))) w = .ok (.slice (some ⟨w.heap.size, 0, none⟩) n n) w' ∧
    w'.heap[w.heap.size]? = some (.cells ((List.replicate n (0 : Int)).map (Value.int .u8)).toArray 5 (0, 0)) ∧ Below w.heap.size w w' := by
  obtain ⟨i0, hi0, hz0, hz1, hz2⟩ := info_parts Tryz.info5
  obtain ⟨w', hrun, r1, r2⟩ := run_make_full (P := Tryz.prog) w w.heap.size 43 5 i0 (.int .u8 0) 1 Tryz.underlying43 hi0 hz0 hz1 .i64 .i64 n (by rw [hz2]; omega) (by unfold maxLen; omega) (Nat.le_refl _)
  rw [made_ints] at r1
  exact ⟨w', hrun, heap_of_owns r1, (Below.refl _ _).grown r2 (Nat.le_refl _) (by simp)⟩
theorem cellFar {w : World} {p q : Addr} {v : Value} (h : q.block ≠ p.block) : (w.setCell p v).cell? q = w.cell? q := World.cell?_of_block (Below.heap_setCell w p v q.block h)
theorem cell_up {w : World} {p : Addr} {v : Value} (h : w.cell? p = some v) (o : Obj) : (w.alloc o).cell? p = some v := by rw [(below_one w o).cell (lt_of_cell h)]; exact h
theorem soft_up {w : World} {p : Addr} {v : Value} (h : w.cell? p = some v) (hf : w.frozen? p = false) (o : Obj) : (w.alloc o).frozen? p = false := by rw [(below_one w o).frozen (lt_of_cell h)]; exact hf
section
variable {G : Geo} {B : CB} {F : Nat → Prop} {N : Nat} {S : CS} {d s g : Nat} {st : List Int} {nu : Int} {dn : Bool}
theorem SDoes.setNew {F' : Nat → Prop} {w w' : World} (h : SDoes F s g w F' w') {p : Addr} (hp : w.heap.size ≤ p.block) (v : Value) : SDoes F s g w F' (w'.setCell p v) := ⟨h.tn.setCell (.inr hp) v, h.nw⟩
theorem OffS.set {k : IntKind} {w : World} {a : Option Addr} {len cap : Nat} {z : List Int} (h : OffS F s g k w a len cap z) (p : Addr) (v : Value) (hp : 0 < len → ∀ q, a = some q → q.block ≠ p.block) : OffS F s g k (w.setCell p v) a len cap z := by
  refine ⟨⟨h.row.hlen, h.row.hcap, h.row.hmax, h.row.hnil, fun h0 => ?_⟩, h.off⟩
  obtain ⟨b, off, rfl, hb, hc⟩ := h.row.hcell h0
  refine ⟨b, off, rfl, by simpa using hb, fun i hi => ?_⟩
  rw [cellFar (q := ⟨b, off + i, none⟩) (hp h0 ⟨b, off, none⟩ rfl)]
  exact hc i hi
/-- lay, behind the pieces pre. -/
structure LayI (G : Geo) (B : CB) (F : Nat → Prop) (N : Nat) (S : CS) (d s g : Nat) (st : List Int) (nu : Int) (dn : Bool) (x : Int) (hd D : List Int) (a : Option Addr) (len cap : Nat) (w : World) (k : Nat) (pre : List (Ch G.R len)) (W : World) : Prop where
  ex : ∃ F1 S1, (LAt G B k F1 (N + 4 * pre.length) S1 d s g st nu dn W ∧ Fil G S1 x (hd :: pre.map (fun c => chunkZ G.R D c.1)) ∧ Apart S S1 x) ∧ (∀ y, F1 y → F y ∨ k ≤ y) ∧ SDoes F s g w F1 W ∧ OffS F1 s g .u8 W a len cap D
  c0 : W.cell? ⟨w.heap.size, 0, none⟩ = some (.pointer (some ⟨s, 0, none⟩))
  c1 : W.cell? ⟨w.heap.size + 1, 0, none⟩ = some (.int .i64 x)
  c2 : W.cell? ⟨w.heap.size + 1 + 1, 0, none⟩ = some (.int .i64 (G.R : Int))
  c3 : W.cell? ⟨w.heap.size + 1 + 1 + 1, 0, none⟩ = some (.int .i64 0)
  f3 : W.frozen? ⟨w.heap.size + 1 + 1 + 1, 0, none⟩ = false
  c4 : W.cell? ⟨w.heap.size + 1 + 1 + 1 + 1, 0, none⟩ = some (.int .i64 ((1 + pre.length : Nat) : Int))
  f4 : W.frozen? ⟨w.heap.size + 1 + 1 + 1 + 1, 0, none⟩ = false
  sz : k ≤ W.heap.size
theorem LayI.own {x : Int} {hd D : List Int} {a : Option Addr} {len cap : Nat} {w : World} {k : Nat} (hk : w.heap.size ≤ k) : OwnFrom k (LayI G B F N S d s g st nu dn x hd D a len cap w k) := by
  intro pre W W' row h hg hr
  have hr2 : ∀ r, row = some r → ∃ o : Obj, W.heap[r]? = some o ∧ o.isCells = false := fun r e => (hr r e).2
  obtain ⟨⟨F1, S1, ⟨h1, h2, h3⟩, h4, h5, h6⟩, c0, c1, c2, c3, f3, c4, f4, sz⟩ := h
  exact ⟨⟨F1, S1, ⟨h1.own hg hr, h2, h3⟩, h4, h5.own hg (fun r e => by have := (hr r e).1; omega), h6.own hg hr2⟩, cell_kept c0 hg hr2, cell_kept c1 hg hr2, cell_kept c2 hg hr2, cell_kept c3 hg hr2, (frozen_kept c3 hg hr2).trans f3, cell_kept c4 hg hr2, (frozen_kept c4 hg hr2).trans f4, Nat.le_trans sz hg.size⟩
/-- lay, left at the last of pre. -/
structure LayX (G : Geo) (B : CB) (F : Nat → Prop) (N : Nat) (S : CS) (d s g : Nat) (st : List Int) (nu : Int) (dn : Bool) (x : Int) (hd D : List Int) (len : Nat) (w : World) (k : Nat) (c : Code) (pre : List (Ch G.R len)) (W : World) : Prop where
  ret : c = .ret
  ex : ∃ F1 S1 m, (LAt G B k F1 (N + 4 * pre.length) S1 d s g st nu dn W ∧ Torn G S1 x ((hd :: pre.map (fun c => chunkZ G.R D c.1)).take m) ∧ Apart S S1 x) ∧ (m ≤ 1 + pre.length ∧ S.ah ≠ 0) ∧ SDoes F s g w F1 W
  c3 : W.cell? ⟨w.heap.size + 1 + 1 + 1, 0, none⟩ = some (.int .i64 70)
theorem LayX.own {x : Int} {hd D : List Int} {len : Nat} {w : World} {k : Nat} (hk : w.heap.size ≤ k) (c : Code) : OwnFrom k (LayX G B F N S d s g st nu dn x hd D len w k c) := by
  intro pre W W' row h hg hr
  have hr2 : ∀ r, row = some r → ∃ o : Obj, W.heap[r]? = some o ∧ o.isCells = false := fun r e => (hr r e).2
  obtain ⟨h0, ⟨F1, S1, m, ⟨h1, h2, h3⟩, h4, h5⟩, c3⟩ := h
  exact ⟨h0, ⟨F1, S1, m, ⟨h1.own hg hr, h2, h3⟩, h4, h5.own hg (fun r e => by have := (hr r e).1; omega)⟩, cell_kept c3 hg hr2⟩
/-- The i-th piece of a row. -/
theorem piece_row {k : IntKind} {w : World} {b off len cap R : Nat} {D : List Int} {i : Nat} (h : Row k w (some ⟨b, off, none⟩) len cap D) (hi : i * R < len) (hR : 1 ≤ R) : Row k w (some ⟨b, off + i * R, none⟩) (min R (len - i * R)) (min R (len - i * R)) ((D.drop (i * R)).take R) := by
  have hl := h.hlen
  refine ⟨by rw [List.length_take, List.length_drop, hl], Nat.le_refl _, by have := h.hcap; have := h.hmax; omega, fun e => (by cases e), fun h0 => ?_⟩
  obtain ⟨b', off', e, hb, hc⟩ := h.hcell (by omega)
  simp only [Option.some.injEq, Addr.mk.injEq, and_true] at e
  obtain ⟨rfl, rfl⟩ := e
  refine ⟨b, off + i * R, rfl, hb, fun q hq => ?_⟩
  rw [Nat.add_assoc, hc (i * R + q) (by omega), List.getElem?_take, if_pos (by omega), List.getElem?_drop]

set_option maxHeartbeats 3200000 in
set_option maxRecDepth 100000 in
theorem lay_any (x : Int) (hx : 0 ≤ x ∧ x < G.b) (hd D : List Int) (a : Option Addr) (len cap : Nat) (w : World) (h : StAt G B F N S d s g st nu dn w) (hlim : B.lim ≤ w.heap.size) (hN : N + 300 < 1000000) (hf : Fil G S x [hd]) (hr : OffS F s g .u8 w a len cap D) (hD : IsB D) (hC : len ≤ G.C) :
    Calls Tryz.prog 67 #[.pointer (some ⟨s, 0, none⟩), .int .i64 x, .int .i64 (G.R : Int), .slice a len cap] w fun e w' => ∃ r F1 S1, (e = .returned (.int .i64 r) ∧ StAt G B F1 (N + 4 * pagesOf G.R len) S1 d s g st nu dn w' ∧ SDoes F s g w F1 w' ∧ Apart S S1 x) ∧
      ((r = 0 ∧ Fil G S1 x (hd :: (List.range (pagesOf G.R len)).map (chunkZ G.R D))) ∨ (r = 70 ∧ S.ah ≠ 0 ∧ ∃ m, m ≤ 1 + pagesOf G.R len ∧ Torn G S1 x ((hd :: (List.range (pagesOf G.R len)).map (chunkZ G.R D)).take m))) := by
  have hR := G.ok.hR1
  have hGp := G.ok.hp
  have hpp := may_pages (G := G) hC
  have hGC : G.C ≤ 4032 := by
    unfold Geo.C
    exact Nat.mul_le_mul (show (G.p - 1).toNat ≤ 63 by omega) hR.2
  have hGb := G.ok.hb
  have hDl := hr.row.hlen
  obtain ⟨b, off, hab⟩ : ∃ b off, 0 < len → a = some ⟨b, off, none⟩ := by
    by_cases h0 : 0 < len
    · obtain ⟨b, off, e, _⟩ := hr.row.hcell h0; exact ⟨b, off, fun _ => e⟩
    · exact ⟨0, 0, fun e => absurd e h0⟩
  refine (callsIn_wide (n := 3)).1 ?_
  refine callsIn_of_wp_marks Tryz.func67 rfl trivial ?_ rfl
  simp only [Tryz.ntmps67, List.size_toArray, List.length_cons, List.length_nil, Nat.reduceAdd, Nat.reduceSub, Array.replicate_succ, Array.replicate_zero, List.push_toArray, List.append_toArray, List.nil_append, List.cons_append]
  gi_wp2_with (refine ⟨trivial, ?_⟩; gi_at_call 95; refine (callsIn_wide.2 (chunk_any a len cap G.R (by omega) _)).mono ?_; rintro e w1 ⟨rfl, rfl⟩)
  have q0 : Below w.heap.size w _ := ((((((below_one w (.cells #[.pointer (some ⟨s, 0, none⟩)] 33)).alloc (by simp) (.cells #[.int .i64 x] 3)).alloc (by simp; omega) (.cells #[.int .i64 (G.R : Int)] 3)).alloc (by simp; omega) (.cells #[.int .i64 0] 29)).alloc (by simp; omega) (.cells #[.int .i64 1] 3)).alloc (by simp; omega) (.cells #[.slice a len cap] 43)).alloc (by simp; omega) (.cells #[.int .i64 (G.R : Int)] 3)
  have c0 := cell_up (cell_up (cell_up (cell_up (cell_up (cell_up (new_cell1 w (.pointer (some ⟨s, 0, none⟩)) 33).1 (.cells #[.int .i64 x] 3)) (.cells #[.int .i64 (G.R : Int)] 3)) (.cells #[.int .i64 0] 29)) (.cells #[.int .i64 1] 3)) (.cells #[.slice a len cap] 43)) (.cells #[.int .i64 (G.R : Int)] 3)
  have c1 := cell_up (cell_up (cell_up (cell_up (cell_up (new_cell1 (w.alloc (.cells #[.pointer (some ⟨s, 0, none⟩)] 33)) (.int .i64 x) 3).1 (.cells #[.int .i64 (G.R : Int)] 3)) (.cells #[.int .i64 0] 29)) (.cells #[.int .i64 1] 3)) (.cells #[.slice a len cap] 43)) (.cells #[.int .i64 (G.R : Int)] 3)
  have c2 := cell_up (cell_up (cell_up (cell_up (new_cell1 ((w.alloc (.cells #[.pointer (some ⟨s, 0, none⟩)] 33)).alloc (.cells #[.int .i64 x] 3)) (.int .i64 (G.R : Int)) 3).1 (.cells #[.int .i64 0] 29)) (.cells #[.int .i64 1] 3)) (.cells #[.slice a len cap] 43)) (.cells #[.int .i64 (G.R : Int)] 3)
  have n3 := new_cell1 (((w.alloc (.cells #[.pointer (some ⟨s, 0, none⟩)] 33)).alloc (.cells #[.int .i64 x] 3)).alloc (.cells #[.int .i64 (G.R : Int)] 3)) (.int .i64 0) 29
  have c3 := cell_up (cell_up (cell_up n3.1 (.cells #[.int .i64 1] 3)) (.cells #[.slice a len cap] 43)) (.cells #[.int .i64 (G.R : Int)] 3)
  have f3 := soft_up (cell_up (cell_up n3.1 (.cells #[.int .i64 1] 3)) (.cells #[.slice a len cap] 43)) (soft_up (cell_up n3.1 (.cells #[.int .i64 1] 3)) (soft_up n3.1 n3.2 (.cells #[.int .i64 1] 3)) (.cells #[.slice a len cap] 43)) (.cells #[.int .i64 (G.R : Int)] 3)
  have n4 := new_cell1 ((((w.alloc (.cells #[.pointer (some ⟨s, 0, none⟩)] 33)).alloc (.cells #[.int .i64 x] 3)).alloc (.cells #[.int .i64 (G.R : Int)] 3)).alloc (.cells #[.int .i64 0] 29)) (.int .i64 1) 3
  have c4 := cell_up (cell_up n4.1 (.cells #[.slice a len cap] 43)) (.cells #[.int .i64 (G.R : Int)] 3)
  have f4 := soft_up (cell_up n4.1 (.cells #[.slice a len cap] 43)) (soft_up n4.1 n4.2 (.cells #[.slice a len cap] 43)) (.cells #[.int .i64 (G.R : Int)] 3)
  have c5 := cell_up (new_cell1 (((((w.alloc (.cells #[.pointer (some ⟨s, 0, none⟩)] 33)).alloc (.cells #[.int .i64 x] 3)).alloc (.cells #[.int .i64 (G.R : Int)] 3)).alloc (.cells #[.int .i64 0] 29)).alloc (.cells #[.int .i64 1] 3)) (.slice a len cap) 43).1 (.cells #[.int .i64 (G.R : Int)] 3)
  have c6 := (new_cell1 ((((((w.alloc (.cells #[.pointer (some ⟨s, 0, none⟩)] 33)).alloc (.cells #[.int .i64 x] 3)).alloc (.cells #[.int .i64 (G.R : Int)] 3)).alloc (.cells #[.int .i64 0] 29)).alloc (.cells #[.int .i64 1] 3)).alloc (.cells #[.slice a len cap] 43)) (.int .i64 (G.R : Int)) 3).1
  have hsz : (((((((w.alloc (.cells #[.pointer (some ⟨s, 0, none⟩)] 33)).alloc (.cells #[.int .i64 x] 3)).alloc (.cells #[.int .i64 (G.R : Int)] 3)).alloc (.cells #[.int .i64 0] 29)).alloc (.cells #[.int .i64 1] 3)).alloc (.cells #[.slice a len cap] 43)).alloc (.cells #[.int .i64 (G.R : Int)] 3)).heap.size = w.heap.size + 7 := by simp
  simp only [World.size_alloc] at c1 c2 c3 f3 c4 f4 c5 c6
  clear n3 n4
  generalize (((((((w.alloc (.cells #[.pointer (some ⟨s, 0, none⟩)] 33)).alloc (.cells #[.int .i64 x] 3)).alloc (.cells #[.int .i64 (G.R : Int)] 3)).alloc (.cells #[.int .i64 0] 29)).alloc (.cells #[.int .i64 1] 3)).alloc (.cells #[.slice a len cap] 43)).alloc (.cells #[.int .i64 (G.R : Int)] 3)) = w0 at *
  have hsd := h.sb.slt
  have hgd := h.sb.glt
  have hdd := h.db.lt
  have HFR : Hid (∀ y, F y → y < w.heap.size) := h.chip.fresh
  have HRL : Hid (0 < len → ∀ y, a = some y → y.block < w.heap.size) := fun h0 y hy => hr.row.blk_lt h0 y hy
  obtain ⟨B', hlat, hback⟩ := lat_of (h.below q0) (Nat.le_trans hlim q0.size)
  have hI0 : LayI G B' F N S d s g st nu dn x hd D a len cap w w0.heap.size [] w0 :=
    ⟨⟨F, S, ⟨hlat, hf, Apart.refl _ _⟩, fun y hy => .inl hy, SDoes.of_below q0, hr.step (SDoes.of_below q0)⟩, c0, c1, c2, c3, f3, c4, f4, Nat.le_refl _⟩
  clear c0 c1 c2 c3 f3 c4 f4 q0
  refine wpIn_rangeFunc_ownG rfl (by omega) (gf := 119) (lb := #[.pointer (some ⟨w.heap.size + 1 + 1 + 1 + 1 + 1, 0, none⟩), .pointer (some ⟨w.heap.size + 1 + 1 + 1 + 1 + 1 + 1, 0, none⟩)]) rfl trivial (enters_of Tryz.func119 (by kernel_rfl) rfl)
    (chunk_stops _ (by omega) (w.heap.size + 1 + 1 + 1 + 1 + 1) (w.heap.size + 1 + 1 + 1 + 1 + 1 + 1) b off a len cap G.R hab hr.row.hcap hr.row.hmax (by omega) (by omega) w0 (by omega) (by omega) c5 c6) keeps2_t keeps2_b (Below.refl _ _) (fun _ => rfl)
    (LayI G B' F N S d s g st nu dn x hd D a len cap w w0.heap.size) (LayX G B' F N S d s g st nu dn x hd D len w w0.heap.size)
    (LayI.own (by omega)) (LayX.own (by omega)) hI0
    (fun c => { tmps := #[.pointer (some ⟨s, 0, none⟩), .int .i64 x, .int .i64 (G.R : Int), .slice a len cap, .pointer (some ⟨w.heap.size, 0, none⟩), .pointer (some ⟨w.heap.size + 1, 0, none⟩), .pointer (some ⟨w.heap.size + 1 + 1, 0, none⟩), undef, .pointer (some ⟨w.heap.size + 1 + 1 + 1, 0, none⟩), .pointer (some ⟨w.heap.size + 1 + 1 + 1 + 1, 0, none⟩),
      .slice (some ⟨b, off + c.1 * G.R, none⟩) (min G.R (len - c.1 * G.R)) (min G.R (len - c.1 * G.R)), undef, undef, .slice a len cap, .int .i64 (G.R : Int), .func (.func 119) #[] #[.pointer (some ⟨w.heap.size + 1 + 1 + 1 + 1 + 1, 0, none⟩), .pointer (some ⟨w.heap.size + 1 + 1 + 1 + 1 + 1 + 1, 0, none⟩)],
      .slice (some ⟨b, off + c.1 * G.R, none⟩) (min G.R (len - c.1 * G.R)) (min G.R (len - c.1 * G.R)), undef, undef, undef, undef, undef, undef, undef, undef, undef, undef, undef, undef, undef, undef, undef, undef, undef, undef], defers := [] }) ?assign ?body ?done ?stop
  case assign =>
    intro l c W K hK
    gi_wp2
    exact hK
  case body =>
    rintro l pre c W hI hlen
    obtain ⟨⟨F1, S1, ⟨hl, hfil, hap⟩, hnw, hsd1, hof⟩, c0, c1, c2, c3, f3, c4, f4, hWs⟩ := hI
    obtain ⟨W1, hmk, hb1, q1⟩ := makeZ11 G.R (by omega) W
    have hofr := hof.row.below q1 (Nat.le_refl _)
    rw [hab (by have := c.2; omega)] at hofr
    have hpr := piece_row hofr c.2 (by omega)
    obtain ⟨W2, hcp, hb2, q2⟩ := copy_front (P := Tryz.prog) (dT := 43) (ty := 3) Tryz.underlying43 (by kernel_rfl) hb1 (by omega) hpr (q1.mono (Nat.le_refl _)) (Nat.le_refl _)
    have hck : (D.drop (c.1 * G.R)).take G.R ++ List.replicate (G.R - min G.R (len - c.1 * G.R)) 0 = chunkZ G.R D c.1 := by
      unfold chunkZ
      rw [List.length_take, List.length_drop, hDl]
    rw [hck] at hb2
    have rP : Row .u8 W2 (some ⟨W.heap.size, 0, none⟩) G.R G.R (chunkZ G.R D c.1) := (show Blk W2 W.heap.size (chunkZ G.R D c.1) from hb2).row (chunkZ_len _ _ _) (by unfold maxLen; omega)
    have hl2 := hl.below q2
    have hof2 := hof.step (SDoes.of_below q2)
    have hsd2 := hsd1.trans (SDoes.of_below q2)
    have KF2 : KeepsFrom w0.heap.size W W2 := (keeps_of_below q2).from _
    have K22 : Keeps2 (w.heap.size + 1 + 1 + 1 + 1 + 1) (w.heap.size + 1 + 1 + 1 + 1 + 1 + 1) W W2 := ⟨keepsBox_of_below q2, keepsBox_of_below q2⟩
    have hW2s := q2.size
    have d0 : W2.cell? ⟨w.heap.size, 0, none⟩ = _ := (q2.cell (lt_of_cell c0)).trans c0
    have d1 : W2.cell? ⟨w.heap.size + 1, 0, none⟩ = _ := (q2.cell (lt_of_cell c1)).trans c1
    have d2 : W2.cell? ⟨w.heap.size + 1 + 1, 0, none⟩ = _ := (q2.cell (lt_of_cell c2)).trans c2
    have d3 : W2.cell? ⟨w.heap.size + 1 + 1 + 1, 0, none⟩ = _ := (q2.cell (lt_of_cell c3)).trans c3
    have e3 : W2.frozen? ⟨w.heap.size + 1 + 1 + 1, 0, none⟩ = _ := (q2.frozen (lt_of_cell c3)).trans f3
    have d4 : W2.cell? ⟨w.heap.size + 1 + 1 + 1 + 1, 0, none⟩ = _ := (q2.cell (lt_of_cell c4)).trans c4
    have e4 : W2.frozen? ⟨w.heap.size + 1 + 1 + 1 + 1, 0, none⟩ = _ := (q2.frozen (lt_of_cell c4)).trans f4
    have c2W1 : W1.cell? ⟨w.heap.size + 1 + 1, 0, none⟩ = _ := (q1.cell (lt_of_cell c2)).trans c2
    have HL2 : Hid _ := hl2
    have HFIL : Hid _ := hfil
    have HOF2 : Hid _ := hof2
    have HSD2 : Hid _ := hsd2
    have HKF2 : Hid _ := KF2
    have HK22 : Hid _ := K22
    have HRP : Hid _ := rP
    have HNW : Hid _ := hnw
    have HAP : Hid _ := hap
    have HDC : Hid (IsB (chunkZ G.R D c.1)) := chunkZ_isB hD _
    have hRm : G.R ≤ 1000 := by omega
    clear hl2 hfil hof2 hsd2 KF2 K22 rP hl hof hsd1 hnw hap c0 c1 c3 f3 c4 f4 hofr hpr hb1 hb2 hck q1 q2
    generalize min G.R (len - c.1 * G.R) = pl at *
    generalize off + c.1 * G.R = po at *
    generalize W.heap.size = gp at *
    dsimp only
    gi_wp2
    have hyb : inB0 (((1 + pre.length : Nat)) : Int) G.p = true := inB0_of (by omega)
    have hu1 : S1.use G x true = 0 := use_of HFIL.out.up (inB0_of hx) rfl HFIL.out.bd
    have hxi : I64 x := by unfold I64; omega
    have hyi : I64 (((1 + pre.length : Nat)) : Int) := by unfold I64; omega
    have hls : (hd :: pre.map (fun c => chunkZ G.R D c.1)).length = 1 + pre.length := by simp; omega
    have ds := HL2.out.at_.sb.c0
    have hwr := drvWrite_yes (B := B') (F := F1) x (((1 + pre.length : Nat)) : Int) hxi hyi (some ⟨gp, 0, none⟩) G.R (chunkZ G.R D c.1) W2.drew (HL2.out.below ((Below.refl _ _).drew)).at_.db HL2.out.at_.fd (HL2.out.below ((Below.refl _ _).drew)).at_.chip (HRP.out.below ((Below.refl _ _).drew) (Nat.le_refl _)) HDC.out (by omega) hyb hu1
    have HFIN : Hid (∀ (V : World) (z : List Int), IsPack G.s G.n G.f G.m G.W (chunkZ G.R D c.1) z → Does G B' F1 (N + 4 * pre.length + 4) W2.drew (CS.after G (S1.doProgram G x (((1 + pre.length : Nat)) : Int) z) x).2 V →
        (((V.cell? ⟨w.heap.size, 0, none⟩ = some (.pointer (some ⟨s, 0, none⟩)) ∧ V.cell? ⟨s, 0, none⟩ = some (.pointer (some ⟨d, 0, none⟩))) ∧ V.cell? ⟨w.heap.size + 1, 0, none⟩ = some (.int .i64 x) ∧ V.cell? ⟨w.heap.size + 1 + 1 + 1 + 1, 0, none⟩ = some (.int .i64 ((1 + pre.length : Nat) : Int))) ∧
        (V.cell? ⟨w.heap.size + 1 + 1 + 1, 0, none⟩ = some (.int .i64 0) ∧ V.frozen? ⟨w.heap.size + 1 + 1 + 1, 0, none⟩ = false ∧ V.frozen? ⟨w.heap.size + 1 + 1 + 1 + 1, 0, none⟩ = false)) ∧
        (((CS.after G (S1.doProgram G x (((1 + pre.length : Nat)) : Int) z) x).1 = 0 ∧ KeepsFrom w0.heap.size W (V.setCell ⟨w.heap.size + 1 + 1 + 1 + 1, 0, none⟩ (.int .i64 ((1 + pre.length : Nat) + 1))) ∧ Keeps2 (w.heap.size + 1 + 1 + 1 + 1 + 1) (w.heap.size + 1 + 1 + 1 + 1 + 1 + 1) W (V.setCell ⟨w.heap.size + 1 + 1 + 1 + 1, 0, none⟩ (.int .i64 ((1 + pre.length : Nat) + 1))) ∧
            LayI G B' F N S d s g st nu dn x hd D a len cap w w0.heap.size (pre ++ [c]) (V.setCell ⟨w.heap.size + 1 + 1 + 1 + 1, 0, none⟩ (.int .i64 ((1 + pre.length : Nat) + 1)))) ∨
         ((CS.after G (S1.doProgram G x (((1 + pre.length : Nat)) : Int) z) x).1 = 70 ∧ KeepsFrom w0.heap.size W (V.setCell ⟨w.heap.size + 1 + 1 + 1, 0, none⟩ (.int .i64 70)) ∧ LayX G B' F N S d s g st nu dn x hd D len w w0.heap.size .ret (pre ++ [c]) (V.setCell ⟨w.heap.size + 1 + 1 + 1, 0, none⟩ (.int .i64 70))))) := by
      intro V z hz dd
      obtain ⟨F2, hl3, sd3, t3, kf3⟩ := (HL2.out.below ((Below.refl _ _).drew)).does dd
      have hres := write_res hx HFIL.out (by rw [hls]; omega) HDC.out (chunkZ_len _ _ _) hz
      rw [hls] at hres
      obtain ⟨ap3, hres⟩ := hres
      have hnF : ∀ y, w.heap.size ≤ y → y < w0.heap.size → ¬ F1 y := fun y h1 h2 hf1 => by
        rcases HNW.out y hf1 with h3 | h3
        · have := HFR.out y h3; omega
        · omega
      have hnF2 : ∀ y, w.heap.size ≤ y → y < w0.heap.size → ¬ F2 y := fun y h1 h2 hf2 => by
        rcases sd3.nw y hf2 with h3 | h3
        · exact hnF y h1 h2 h3
        · have : W2.drew.heap.size = W2.heap.size := rfl
          omega
      have hW2 : W2.drew.heap.size = W2.heap.size := rfl
      have cV : ∀ (y : Nat) (v : Value), w.heap.size ≤ y → y < w0.heap.size → W2.cell? ⟨y, 0, none⟩ = some v → V.cell? ⟨y, 0, none⟩ = some v := fun y v h1 h2 hv => by
        rw [t3.cell (p := ⟨y, 0, none⟩) (lt_of_cell hv) (hnF y h1 h2)]; exact hv
      have fV : ∀ (y : Nat) (v : Value), w.heap.size ≤ y → y < w0.heap.size → W2.cell? ⟨y, 0, none⟩ = some v → V.frozen? ⟨y, 0, none⟩ = W2.frozen? ⟨y, 0, none⟩ := fun y v h1 h2 hv =>
        World.frozen?_of_block (t3.block y (lt_of_cell hv) (hnF y h1 h2))
      have nw2 : ∀ y, F2 y → F y ∨ w0.heap.size ≤ y := fun y hy => by
        rcases sd3.nw y hy with h3 | h3
        · exact HNW.out y h3
        · exact .inr (by omega)
      have hds : V.cell? ⟨s, 0, none⟩ = some (.pointer (some ⟨d, 0, none⟩)) := hl3.at_.sb.c0
      have v0 := cV _ _ (Nat.le_refl _) (by omega) d0
      have v1 := cV _ _ (by omega) (by omega) d1
      have v2 := cV _ _ (by omega) (by omega) d2
      have v3 := cV _ _ (by omega) (by omega) d3
      have v4 := cV _ _ (by omega) (by omega) d4
      have g3 := (fV _ _ (by omega) (by omega) d3).trans e3
      have g4 := (fV _ _ (by omega) (by omega) d4).trans e4
      have kfV : KeepsFrom w0.heap.size W V := (HKF2.out.trans ((keeps_of_below ((Below.refl _ W2).drew)).from _)).trans kf3
      have k2V : Keeps2 (w.heap.size + 1 + 1 + 1 + 1 + 1) (w.heap.size + 1 + 1 + 1 + 1 + 1 + 1) W V := ⟨fun v hv => cV _ _ (by omega) (by omega) (HK22.out.1 v hv), fun v hv => cV _ _ (by omega) (by omega) (HK22.out.2 v hv)⟩
      have sdV : SDoes F s g w F2 V := (HSD2.out.trans (SDoes.of_below ((Below.refl _ _).drew))).trans sd3
      have ofV : OffS F2 s g .u8 V a len cap D := (HOF2.out.step (SDoes.of_below ((Below.refl _ _).drew))).step sd3
      have hszV : w0.heap.size ≤ V.heap.size := by have := t3.size; omega
      refine ⟨⟨⟨⟨v0, hds⟩, v1, v4⟩, v3, g3, g4⟩, ?_⟩
      rcases hres with ⟨r0, hfl⟩ | ⟨r70, hah, ls', hls', htn⟩
      · refine .inl ⟨r0, kfV.trans ((KeepsOthers.setCell _ _ _).from _), keeps2_t k2V ⟨keepsBox_set _ _ _ (by dsimp only; omega), keepsBox_set _ _ _ (by dsimp only; omega)⟩, ⟨F2, _, ⟨?_, ?_, HAP.out.trans ap3⟩, nw2, sdV.setNew (by dsimp only; omega) _, ofV.set _ _ (fun h0 q hq => ?_)⟩, ?_, ?_, ?_, ?_, ?_, ?_, ?_, ?_⟩
        · rw [List.length_append, List.length_singleton, Nat.mul_add]
          exact hl3.setOff (hnF2 (w.heap.size + 1 + 1 + 1 + 1) (by omega) (by omega)) (by dsimp only; omega) (by dsimp only; omega) (by dsimp only; omega) _
        · rw [List.map_append, ← List.cons_append]
          exact hfl
        · have := HRL.out h0 q hq
          dsimp only
          omega
        · rw [cellFar (by dsimp only; omega)]; exact v0
        · rw [cellFar (by dsimp only; omega)]; exact v1
        · rw [cellFar (by dsimp only; omega)]; exact v2
        · rw [cellFar (by dsimp only; omega)]; exact v3
        · rw [World.frozen?_setCell]; exact g3
        · rw [World.cell?_setCell_same' _ _ _ (by rw [v4]; rfl), List.length_append, List.length_singleton]
          rfl
        · rw [World.frozen?_setCell]; exact g4
        · simpa using hszV
      · refine .inr ⟨r70, kfV.trans ((KeepsOthers.setCell _ _ _).from _), rfl, ⟨F2, _, ls'.length, ⟨?_, ?_, HAP.out.trans ap3⟩, ⟨?_, fun e => hah (HAP.out.ah e)⟩, sdV.setNew (by dsimp only; omega) _⟩, World.cell?_setCell_same' _ _ _ (by rw [v3]; rfl)⟩
        · rw [List.length_append, List.length_singleton, Nat.mul_add]
          exact hl3.setOff (hnF2 (w.heap.size + 1 + 1 + 1) (by omega) (by omega)) (by dsimp only; omega) (by dsimp only; omega) (by dsimp only; omega) _
        · have e : (hd :: (pre ++ [c]).map (fun c => chunkZ G.R D c.1)).take ls'.length = ls' := by
            rw [List.map_append, ← List.cons_append]
            rcases hls' with rfl | rfl
            · exact List.take_left
            · exact List.take_length
          rw [e]; exact htn
        · rw [List.length_append, List.length_singleton]
          rcases hls' with rfl | rfl
          · omega
          · rw [List.length_append, List.length_singleton]; omega
    have HHW : Hid _ := hwr
    clear hwr HL2 HFIL HOF2 HSD2 HKF2 HK22 HRP HDC d2 d3 e3 e4 c2 c2W1 hmk hcp
    refine region_round (S := fun w' => (w'.cell? ⟨w.heap.size, 0, none⟩ = some (.pointer (some ⟨s, 0, none⟩)) ∧ w'.cell? ⟨s, 0, none⟩ = some (.pointer (some ⟨d, 0, none⟩))) ∧ w'.cell? ⟨w.heap.size + 1, 0, none⟩ = some (.int .i64 x) ∧ w'.cell? ⟨w.heap.size + 1 + 1 + 1 + 1, 0, none⟩ = some (.int .i64 ((1 + pre.length : Nat) : Int)))
      (by kernel_rfl) (fun ⟨_, _, h⟩ => h) (by kernel_rfl) ?_
    refine held_reads (rs := [0, 1, 2, 3, 4, 5, 6]) (fuel := 2) (by kernel_rfl) (fun c d v a w h => by cases d <;> exact h) (by kernel_rfl) ⟨⟨d0, ds⟩, d1, d4⟩ (fun K hK => ?_)
    refine calm_do (.pointer (some ⟨s, 0, none⟩)) rfl (by rfl) (fun w' hw' => ?_) ?_
    · obtain ⟨⟨h0, h1⟩, h2, h3⟩ := hw'
      go_simp
    go_simp
    refine calm_do (.pointer (some ⟨s, 0, none⟩)) rfl (by rfl) (fun w' hw' => ?_) ?_
    · obtain ⟨⟨h0, h1⟩, h2, h3⟩ := hw'
      go_simp
    go_simp
    refine calm_do (.pointer (some ⟨s, 0, none⟩)) rfl (by rfl) (fun w' hw' => ?_) ?_
    · go_simp
    go_simp
    refine calm_do (.pointer (some ⟨d, 0, none⟩)) rfl (by rfl) (fun w' hw' => ?_) ?_
    · obtain ⟨⟨h0, h1⟩, h2, h3⟩ := hw'
      go_simp
    go_simp
    refine calm_do (.int .i64 x) rfl (by rfl) (fun w' hw' => ?_) ?_
    · obtain ⟨⟨h0, h1⟩, h2, h3⟩ := hw'
      go_simp
    go_simp
    refine calm_do (.int .i64 ((1 + pre.length : Nat) : Int)) rfl (by rfl) (fun w' hw' => ?_) ?_
    · obtain ⟨⟨h0, h1⟩, h2, h3⟩ := hw'
      go_simp
    go_simp
    refine calm_move _ rfl (by rfl) rfl ?_
    go_simp
    refine calm_nil (hK.out _ ?_)
    clear hK K
    refine heldA_op (i := 7) (fuel := 1) (by kernel_rfl) rfl (by rfl) (fun K hK => ?_)
    go_simp
    refine Calls.mono HHW.out ?_
    rintro e V ⟨z, hz, rfl, dd⟩
    obtain ⟨⟨hS, v3, g3, g4⟩, hres⟩ := HFIN.out V z hz dd
    refine hK _ _ hS ?_
    clear hK K dd hz HFIN HHW
    have v4 := hS.2.2
    have HRES : Hid _ := hres
    clear hres
    generalize (CS.after G (S1.doProgram G x ((1 + pre.length : Nat) : Int) z) x).1 = r at *
    refine held_reads (rs := [8]) (fuel := 0) (by kernel_rfl) (fun c d v a w h => by cases d <;> exact h) (by kernel_rfl) hS (fun K hK => ?_)
    go_simp
    refine calm_assign _ rfl (by rfl) rfl ?_
    go_simp
    refine calm_nil (hK.out _ ?_)
    clear hK K hS
    refine wpAnyH_done (by kernel_rfl) ?_ _
    rcases HRES.out with ⟨rfl, H0⟩ | ⟨rfl, H70⟩
    · have HH : Hid _ := H0
      clear HRES H0
      gi_wp2
      have H := HH.out
      rw [show ((1 + pre.length : Nat) : Int) + 1 = 1 + (pre.length : Int) + 1 by omega] at H
      exact H
    · have HH : Hid _ := H70
      clear HRES H70
      gi_wp2
      exact HH.out
  case done =>
    rintro D' xs W hD hS hI hK
    obtain ⟨⟨F1, S1, ⟨hl, hfil, hap⟩, hnw, hsd1, hof⟩, c0, c1, c2, c3, f3, c4, f4, hWs⟩ := hI
    have hxl : xs.length = pagesOf G.R len := by have := congrArg List.length hS; simpa using this
    have hnF : ¬ F1 (w.heap.size + 1 + 1 + 1) := fun hf1 => by
      rcases hnw _ hf1 with h3 | h3
      · have := HFR.out _ h3; omega
      · omega
    have hK' := (KeepsOthers.setCell W ⟨w.heap.size + 1 + 1 + 1, 0, none⟩ (.int .i64 0)).same D' _ hK rfl
    have hl2 := hl.setOff (p := ⟨w.heap.size + 1 + 1 + 1, 0, none⟩) hnF (by dsimp only; omega) (by dsimp only; omega) (by dsimp only; omega) (.int .i64 0)
    have hl3 := hl2.own (grownBy_putObj' _ D' (.deferred none)) (fun r e => by cases e; exact ⟨hD, _, hK', rfl⟩)
    have sd3 := (hsd1.setNew (p := ⟨w.heap.size + 1 + 1 + 1, 0, none⟩) (by dsimp only; omega) (.int .i64 0)).own (grownBy_putObj' _ D' (.deferred none)) (fun r e => by cases e; omega)
    have hc5 := cell_kept (World.cell?_setCell_same' W ⟨w.heap.size + 1 + 1 + 1, 0, none⟩ (.int .i64 0) (by rw [c3]; rfl)) (grownBy_putObj' _ D' (.deferred none)) (fun r e => by cases e; exact ⟨_, hK', rfl⟩)
    have HFIN : Hid (∃ r F1 S1, ((Ending.returned (.int .i64 0)) = .returned (.int .i64 r) ∧ StAt G B F1 (N + 4 * pagesOf G.R len) S1 d s g st nu dn ((W.setCell ⟨w.heap.size + 1 + 1 + 1, 0, none⟩ (.int .i64 0)).putObj D' (.deferred none)) ∧ SDoes F s g w F1 ((W.setCell ⟨w.heap.size + 1 + 1 + 1, 0, none⟩ (.int .i64 0)).putObj D' (.deferred none)) ∧ Apart S S1 x) ∧
      ((r = 0 ∧ Fil G S1 x (hd :: (List.range (pagesOf G.R len)).map (chunkZ G.R D))) ∨ (r = 70 ∧ S.ah ≠ 0 ∧ ∃ m, m ≤ 1 + pagesOf G.R len ∧ Torn G S1 x ((hd :: (List.range (pagesOf G.R len)).map (chunkZ G.R D)).take m)))) := by
      refine ⟨0, F1, S1, ⟨rfl, ?_, sd3, hap⟩, .inl ⟨rfl, ?_⟩⟩
      · rw [← hxl]; exact hback _ _ _ _ _ _ _ hl3.at_
      · rw [← hS, List.map_map]; exact hfil
    clear hl2 hl3 sd3 hl hfil hap hnw hsd1 hof hI0 hS
    gi_wp2
    refine ⟨by simp, .inl ⟨_, _, rfl, run_takeDeferred hK', ?_⟩⟩
    refine ⟨.int .i64 0, ?_, HFIN.out⟩
    simp [results, Tryz.results67, go_sem, hc5]
  case stop =>
    rintro D' cc pre W hD ⟨k', hk', hpre⟩ hX hK
    obtain ⟨rfl, ⟨F1, S1, m, ⟨hl, htn, hap⟩, ⟨hm, hah⟩, hsd1⟩, c3⟩ := hX
    have hxl : pre.length = k' := by have := congrArg List.length hpre; simpa using this
    have hl3 := (hl.own (grownBy_putObj' _ D' (.deferred none)) (fun r e => by cases e; exact ⟨hD, _, hK, rfl⟩)).mono (N' := N + 4 * pagesOf G.R len) (by omega)
    have sd3 := hsd1.own (grownBy_putObj' _ D' (.deferred none)) (fun r e => by cases e; omega)
    have hc5 := cell_kept c3 (grownBy_putObj' _ D' (.deferred none)) (fun r e => by cases e; exact ⟨_, hK, rfl⟩)
    have e : (hd :: pre.map (fun c => chunkZ G.R D c.1)).take m = (hd :: (List.range (pagesOf G.R len)).map (chunkZ G.R D)).take m := by
      have e1 : pre.map (fun c => chunkZ G.R D c.1) = (List.range k').map (chunkZ G.R D) := by rw [← hpre, List.map_map]; rfl
      have e2 : (List.range k').map (chunkZ G.R D) = ((List.range (pagesOf G.R len)).map (chunkZ G.R D)).take k' := by rw [← List.map_take, List.take_range, Nat.min_eq_left hk']
      have e3 : hd :: ((List.range (pagesOf G.R len)).map (chunkZ G.R D)).take k' = (hd :: (List.range (pagesOf G.R len)).map (chunkZ G.R D)).take (k' + 1) := rfl
      rw [e1, e2, e3, List.take_take, Nat.min_eq_left (by omega)]
    rw [e] at htn
    have HFIN : Hid (∃ r F1 S1, ((Ending.returned (.int .i64 70)) = .returned (.int .i64 r) ∧ StAt G B F1 (N + 4 * pagesOf G.R len) S1 d s g st nu dn (W.putObj D' (.deferred none)) ∧ SDoes F s g w F1 (W.putObj D' (.deferred none)) ∧ Apart S S1 x) ∧
      ((r = 0 ∧ Fil G S1 x (hd :: (List.range (pagesOf G.R len)).map (chunkZ G.R D))) ∨ (r = 70 ∧ S.ah ≠ 0 ∧ ∃ m, m ≤ 1 + pagesOf G.R len ∧ Torn G S1 x ((hd :: (List.range (pagesOf G.R len)).map (chunkZ G.R D)).take m)))) :=
      ⟨70, F1, S1, ⟨rfl, hback _ _ _ _ _ _ _ hl3.at_, sd3, hap⟩, .inr ⟨rfl, hah, m, by omega, htn⟩⟩
    clear hl3 sd3 hl htn hap hsd1 hI0 e
    gi_wp2
    refine ⟨by simp, .inl ⟨_, _, rfl, run_takeDeferred hK, ?_⟩⟩
    refine ⟨.int .i64 70, ?_, HFIN.out⟩
    simp [results, Tryz.results67, go_sem, hc5]
end
end Go.Proofs.YtbafkakhhelcmaaGreat
