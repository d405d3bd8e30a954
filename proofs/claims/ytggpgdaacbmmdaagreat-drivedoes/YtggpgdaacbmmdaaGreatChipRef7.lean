/-
  The document's chip as it is made (casemateref07.New): arrays of pages and of blocks that grow, in plain words.
-/
import Derived.Test.YtggpgdaacbmmdaaGreatChipRef6
import Derived.Deep.AppendLies
namespace Go.Proofs.YtggpgdaacbmmdaaGreat
open Go Go.RowKit Go.Maps
set_option linter.unusedVariables false
set_option maxRecDepth 8192

/-- A function, turned at one place. -/
def putN (f : Nat → Nat) (k x : Nat) : Nat → Nat := fun i => if i = k then x else f i
theorem putN_same (f : Nat → Nat) (k x : Nat) : putN f k x k = x := by unfold putN; rw [if_pos rfl]
theorem putN_lt {f : Nat → Nat} {k x i : Nat} (h : i < k) : putN f k x i = f i := by unfold putN; rw [if_neg (by omega)]

def pageCells (g : Nat → Nat) (L : Nat) : Nat → List Value
  | 0 => []
  | k + 1 => pageCells g L k ++ [.slice (some ⟨g k, 0, none⟩) L L, .slice none 0 0]
def blockCells (pb pcap : Nat → Nat) (Pn : Nat) : Nat → List Value
  | 0 => []
  | k + 1 => blockCells pb pcap Pn k ++ [.slice (some ⟨pb k, 0, none⟩) Pn (pcap k), .int .i64 0, .bool false, .bool false]
theorem pageCells_len (g : Nat → Nat) (L : Nat) : ∀ k, (pageCells g L k).length = k * 2
  | 0 => rfl
  | k + 1 => by have := pageCells_len g L k; simp only [pageCells, List.length_append, List.length_cons, List.length_nil]; omega
theorem blockCells_len (pb pcap : Nat → Nat) (Pn : Nat) : ∀ k, (blockCells pb pcap Pn k).length = k * 4
  | 0 => rfl
  | k + 1 => by have := blockCells_len pb pcap Pn k; simp only [blockCells, List.length_append, List.length_cons, List.length_nil]; omega
theorem app_at {l m : List Value} {n i : Nat} (hl : l.length = n) {v : Value} (h : m[i]? = some v) : (l ++ m)[n + i]? = some v := by
  rw [List.getElem?_append_right (by omega), hl, Nat.add_sub_cancel_left]; exact h
theorem app_lt {l m : List Value} {i : Nat} (hl : i < l.length) : (l ++ m)[i]? = l[i]? := List.getElem?_append_left hl
theorem pageCells_at {g : Nat → Nat} {L : Nat} : ∀ {n j : Nat}, j < n → (pageCells g L n)[j * 2]? = some (.slice (some ⟨g j, 0, none⟩) L L) ∧ (pageCells g L n)[j * 2 + 1]? = some (.slice none 0 0)
  | 0, j, h => by omega
  | n + 1, j, h => by
    have hl := pageCells_len g L n
    by_cases e : j = n
    · subst e
      exact ⟨app_at (i := 0) hl rfl, app_at (i := 1) hl rfl⟩
    · have ih := pageCells_at (g := g) (L := L) (n := n) (j := j) (by omega)
      exact ⟨(app_lt (by omega)).trans ih.1, (app_lt (by omega)).trans ih.2⟩
theorem blockCells_at {pb pcap : Nat → Nat} {Pn : Nat} : ∀ {n j : Nat}, j < n → (blockCells pb pcap Pn n)[j * 4]? = some (.slice (some ⟨pb j, 0, none⟩) Pn (pcap j)) ∧ (blockCells pb pcap Pn n)[j * 4 + 1]? = some (.int .i64 0) ∧ (blockCells pb pcap Pn n)[j * 4 + 2]? = some (.bool false) ∧ (blockCells pb pcap Pn n)[j * 4 + 3]? = some (.bool false)
  | 0, j, h => by omega
  | n + 1, j, h => by
    have hl := blockCells_len pb pcap Pn n
    by_cases e : j = n
    · subst e
      exact ⟨app_at (i := 0) hl rfl, app_at (i := 1) hl rfl, app_at (i := 2) hl rfl, app_at (i := 3) hl rfl⟩
    · have ih := blockCells_at (pb := pb) (pcap := pcap) (Pn := Pn) (n := n) (j := j) (by omega)
      exact ⟨(app_lt (by omega)).trans ih.1, (app_lt (by omega)).trans ih.2.1, (app_lt (by omega)).trans ih.2.2.1, (app_lt (by omega)).trans ih.2.2.2⟩
theorem pageCells_congr {g g' : Nat → Nat} {L : Nat} : ∀ {n : Nat}, (∀ j, j < n → g j = g' j) → pageCells g L n = pageCells g' L n
  | 0, _ => rfl
  | n + 1, h => by simp only [pageCells]; rw [pageCells_congr (n := n) (fun j hj => h j (by omega)), h n (by omega)]
theorem blockCells_congr {pb pb' pcap pcap' : Nat → Nat} {Pn : Nat} : ∀ {n : Nat}, (∀ j, j < n → pb j = pb' j ∧ pcap j = pcap' j) → blockCells pb pcap Pn n = blockCells pb' pcap' Pn n
  | 0, _ => rfl
  | n + 1, h => by simp only [blockCells]; rw [blockCells_congr (n := n) (fun j hj => h j (by omega)), (h n (by omega)).1, (h n (by omega)).2]
theorem pageCells_step (g : Nat → Nat) (L n q : Nat) : pageCells g L n ++ [.slice (some ⟨q, 0, none⟩) L L, .slice none 0 0] = pageCells (putN g n q) L (n + 1) := by
  simp only [pageCells]; rw [putN_same, pageCells_congr (g' := putN g n q) (fun j hj => (putN_lt hj).symm)]
theorem blockCells_step (pb pcap : Nat → Nat) (Pn n x c : Nat) : blockCells pb pcap Pn n ++ [.slice (some ⟨x, 0, none⟩) Pn c, .int .i64 0, .bool false, .bool false] = blockCells (putN pb n x) (putN pcap n c) Pn (n + 1) := by
  simp only [blockCells]; rw [putN_same, putN_same, blockCells_congr (pb' := putN pb n x) (pcap' := putN pcap n c) (fun j hj => ⟨(putN_lt hj).symm, (putN_lt hj).symm⟩)]

theorem grown_block {w w' : World} {row : Option Nat} (h : w.grownBy w' row) {k : Nat} (hk : k < w.heap.size) (hne : row ≠ some k) : w'.heap[k]? = w.heap[k]? := h.block k hk (Ne.symm hne)
theorem blk_lt {w : World} {q : Nat} {z : List Int} (h : Blk w q z) : q < w.heap.size := h.lt

/-- The pages of the block that is being made: its variable lies at bx. -/
def PagesIn (L bx n : Nat) (w0 : World) (pv : Value) (g : Nat → Nat) (w : World) : Prop :=
  w.heap[bx]? = some (.cells #[pv, .int .i64 0, .bool false, .bool false] 79 (0, 0)) ∧ w.ownsRow (bx + 1) 81 2 pv n (pageCells g L n) ∧
    (∀ j, j < n → bx < g j ∧ Blk w (g j) (List.replicate L 255) ∧ pv.ownBlock ≠ some (g j)) ∧ w0.heap.size = bx ∧ Below bx w0 w
theorem PagesIn.start (L : Nat) (w0 : World) : PagesIn L w0.heap.size 0 w0 (.slice none 0 0) (fun _ => 0) (w0.alloc (.cells #[.slice none 0 0, .int .i64 0, .bool false, .bool false] 79)) :=
  ⟨(MapKept.heap_alloc w0 _).1, World.ownsRow_nil _ _ _ _, fun j hj => by omega, rfl, below_one _ _⟩
theorem PagesIn.lt {L bx n : Nat} {w0 w : World} {pv : Value} {g : Nat → Nat} (h : PagesIn L bx n w0 pv g w) : bx < w.heap.size := (Array.getElem?_eq_some_iff.1 h.1).1
/-- A page more. -/
theorem PagesIn.step {L bx n : Nat} {w0 w v3 w5 : World} {pv : Value} {g : Nat → Nat} (h : PagesIn L bx n w0 pv g w) (q3 : Below w.heap.size w v3) {q gg cap : Nat} (hq : w.heap.size ≤ q) (hbq : Blk v3 q (List.replicate L 255)) {o : Obj}
    (own : w5.ownsRow (bx + 1) 81 2 (.slice (some ⟨gg, 0, none⟩) (n + 1) cap) (n + 1) (pageCells g L n ++ [.slice (some ⟨q, 0, none⟩) L L, .slice none 0 0])) (hg : (v3.alloc o).grownBy w5 pv.ownBlock) (hat : pv.ownBlock = some gg ∨ gg = v3.heap.size + 1) :
    PagesIn L bx (n + 1) w0 (.slice (some ⟨gg, 0, none⟩) (n + 1) cap) (putN g n q) (w5.setCell ⟨bx, 0, none⟩ (.slice (some ⟨gg, 0, none⟩) (n + 1) cap)) := by
  have hbx := h.lt
  obtain ⟨h1, h2, h3, h4, h5⟩ := h
  have hs3 := q3.size
  have hsa : (v3.alloc o).heap.size = v3.heap.size + 1 := by simp
  have hql := blk_lt hbq
  have hpv := h2.lt
  have hgg := own.lt gg rfl
  -- what lies in v3 and is none of pv's
  have key : ∀ k, k < v3.heap.size → pv.ownBlock ≠ some k → k ≠ bx → (w5.setCell ⟨bx, 0, none⟩ (.slice (some ⟨gg, 0, none⟩) (n + 1) cap)).heap[k]? = v3.heap[k]? := fun k hk hne hkb =>
    (Below.heap_setCell _ _ _ _ hkb).trans ((grown_block hg (by omega) hne).trans ((below_one v3 o).block k hk))
  refine ⟨?_, ?_, fun j hj => ?_, h4, ?_⟩
  · have e : w5.heap[bx]? = some (.cells #[pv, .int .i64 0, .bool false, .bool false] 79 (0, 0)) :=
      (grown_block hg (by omega) (fun e => by have := (hpv bx e).1; omega)).trans (((below_one v3 o).block bx (by omega)).trans ((q3.block bx hbx).trans h1))
    have := block_setC (i := 0) e (.slice (some ⟨gg, 0, none⟩) (n + 1) cap)
    simpa using this
  · rw [← pageCells_step]
    exact own.kept (setCell_grown w5 ⟨bx, 0, none⟩ _) (.inr (fun e => by have e' := Option.some.inj e; have := hgg.1; simp only at e'; omega))
  · by_cases e : j = n
    · subst e
      rw [putN_same]
      refine ⟨by omega, hbq.same (key q hql (fun e => by have := (hpv q e).2; omega) (by omega)), fun e => ?_⟩
      have e' : gg = q := by simpa [Value.ownBlock] using e
      rcases hat with hat | hat
      · have := (hpv gg hat).2; omega
      · omega
    · rw [putN_lt (by omega)]
      obtain ⟨a1, a2, a3⟩ := h3 j (by omega)
      have hl := blk_lt a2
      refine ⟨a1, (a2.same (q3.block _ hl)).same (key _ (by omega) a3 (by omega)), fun e => ?_⟩
      have e' : gg = g j := by simpa [Value.ownBlock] using e
      rcases hat with hat | hat
      · exact a3 (e' ▸ hat)
      · omega
  · have b1 : Below bx w v3 := q3.mono (by omega)
    have b2 : Below bx v3 (v3.alloc o) := (below_one v3 o).mono (by omega)
    have b3 : Below bx (v3.alloc o) w5 := (Below.refl _ _).grown hg (by omega) (fun k hk => by have := (hpv k hk).1; omega)
    exact ((((h5.trans b1).trans b2).trans b3)).setCell (p := ⟨bx, 0, none⟩) (by show bx ≤ bx; omega) _

/-- The chip that is being made. -/
structure NewIs (G : Geo) (c n : Nat) (v : Value) (pb pcap : Nat → Nat) (D : Nat → Prop) (w : World) : Prop where
  cell : w.heap[c]? = some (.cells #[.int .i64 G.b, .int .i64 G.p, .int .i64 G.s, .int .i64 G.n, .int .i64 G.f, v, .int .i64 0, .bool true, .int .i64 0, .int .i64 0] 76 (0, 0))
  own : w.ownsRow (c + 1) 79 4 v n (blockCells pb pcap G.p.toNat n)
  blk : ∀ k, k < n → (c < pb k ∧ pb k < w.heap.size) ∧ v.ownBlock ≠ some (pb k) ∧ ¬ D (pb k) ∧ G.p.toNat ≤ pcap k ∧ pcap k ≤ maxLen
  fr : ∀ k, k < n → ∀ x, w.frozen? ⟨pb k, x, none⟩ = false
  inj : ∀ k k', k < n → k' < n → k ≠ k' → pb k ≠ pb k'
  data : ∀ x, D x → (c < x ∧ x < w.heap.size) ∧ v.ownBlock ≠ some x
  pages : ∀ k, k < n → ∀ j, j < G.p.toNat → RPage D (fun x => ¬ D x) w G.L (pb k) j (List.replicate G.L 255) (fun _ => false)
theorem NewIs.lt {G : Geo} {c n : Nat} {v : Value} {pb pcap : Nat → Nat} {D : Nat → Prop} {w : World} (h : NewIs G c n v pb pcap D w) : c < w.heap.size := (Array.getElem?_eq_some_iff.1 h.cell).1
theorem NewIs.start (G : Geo) (w : World) : NewIs G w.heap.size 0 (.slice none 0 0) (fun _ => 0) (fun _ => 0) (fun _ => False) (w.alloc (.cells #[.int .i64 G.b, .int .i64 G.p, .int .i64 G.s, .int .i64 G.n, .int .i64 G.f, .slice none 0 0, .int .i64 0, .bool true, .int .i64 0, .int .i64 0] 76)) :=
  ⟨(MapKept.heap_alloc w _).1, World.ownsRow_nil _ _ _ _, fun k hk => by omega, fun k hk => by omega, fun k _ hk => by omega, fun _ hx => hx.elim, fun k hk => by omega⟩
/-- A block more. -/
theorem NewIs.step {G : Geo} {c n bx : Nat} {v : Value} {pb pcap g : Nat → Nat} {D : Nat → Prop} {w w4 w6 : World} {pbn pcn gg cap : Nat} (h : NewIs G c n v pb pcap D w) (hp : PagesIn G.L bx G.p.toNat w (.slice (some ⟨pbn, 0, none⟩) G.p.toNat pcn) g w4) {o : Obj}
    (own : w6.ownsRow (c + 1) 79 4 (.slice (some ⟨gg, 0, none⟩) (n + 1) cap) (n + 1) (blockCells pb pcap G.p.toNat n ++ [.slice (some ⟨pbn, 0, none⟩) G.p.toNat pcn, .int .i64 0, .bool false, .bool false])) (hg : (w4.alloc o).grownBy w6 v.ownBlock) (hat : v.ownBlock = some gg ∨ gg = w4.heap.size + 1) :
    NewIs G c (n + 1) (.slice (some ⟨gg, 0, none⟩) (n + 1) cap) (putN pb n pbn) (putN pcap n pcn) (fun x => D x ∨ ∃ j, j < G.p.toNat ∧ x = g j) (w6.setCell ⟨c, 5, none⟩ (.slice (some ⟨gg, 0, none⟩) (n + 1) cap)) := by
  have hc := h.lt
  have hbx := hp.lt
  obtain ⟨p1, p2, p3, p4, p5⟩ := hp
  have hsa : (w4.alloc o).heap.size = w4.heap.size + 1 := by simp
  have hgs := hg.size
  have hv := h.own.lt
  have hgg := own.lt gg rfl
  have hpb := p2.lt pbn rfl
  have hL : ∀ k, k < w.heap.size → k ≠ c → v.ownBlock ≠ some k → (w6.setCell ⟨c, 5, none⟩ (.slice (some ⟨gg, 0, none⟩) (n + 1) cap)).heap[k]? = w.heap[k]? := fun k hk hkc hne =>
    (Below.heap_setCell _ _ _ _ hkc).trans ((grown_block hg (by omega) hne).trans (((below_one w4 o).block k (by omega)).trans (p5.block k (by omega))))
  have hN : ∀ k, bx ≤ k → k < w4.heap.size → (w6.setCell ⟨c, 5, none⟩ (.slice (some ⟨gg, 0, none⟩) (n + 1) cap)).heap[k]? = w4.heap[k]? := fun k hk hk2 =>
    (Below.heap_setCell _ _ _ _ (by show k ≠ c; omega)).trans ((grown_block hg (by omega) (fun e => by have := (hv k e).2; omega)).trans ((below_one w4 o).block k hk2))
  have hsz : (w6.setCell ⟨c, 5, none⟩ (.slice (some ⟨gg, 0, none⟩) (n + 1) cap)).heap.size = w6.heap.size := by simp
  have hgo : ∀ k, k < w4.heap.size → v.ownBlock ≠ some k → gg ≠ k := fun k hk hne e => by
    rcases hat with hat | hat
    · exact hne (e ▸ hat)
    · omega
  have hnew : ∀ k, bx ≤ k → k < w4.heap.size → gg ≠ k := fun k hk hk2 => hgo k hk2 (fun e => by have := (hv k e).2; omega)
  refine ⟨?_, ?_, fun k hk => ?_, fun k hk x => ?_, fun k k' hk hk' hne => ?_, fun x hx => ?_, fun k hk j hj => ?_⟩
  · have e : w6.heap[c]? = some (.cells #[.int .i64 G.b, .int .i64 G.p, .int .i64 G.s, .int .i64 G.n, .int .i64 G.f, v, .int .i64 0, .bool true, .int .i64 0, .int .i64 0] 76 (0, 0)) :=
      (grown_block hg (by omega) (fun e => by have := (hv c e).1; omega)).trans (((below_one w4 o).block c (by omega)).trans ((p5.block c (by omega)).trans h.cell))
    have := block_setC (i := 5) e (.slice (some ⟨gg, 0, none⟩) (n + 1) cap)
    simpa using this
  · rw [← blockCells_step]
    exact own.kept (setCell_grown w6 ⟨c, 5, none⟩ _) (.inr (fun e => by have e' := Option.some.inj e; have := hgg.1; simp only at e'; omega))
  · by_cases e : k = n
    · subst e
      rw [putN_same, putN_same]
      refine ⟨⟨by omega, by omega⟩, fun e => hnew pbn (by omega) hpb.2 (by simpa [Value.ownBlock] using e), ?_, ?_⟩
      · rintro (hd | ⟨j, hj, e⟩)
        · have := (h.data _ hd).1.2; omega
        · exact (p3 j hj).2.2 (by rw [← e]; rfl)
      · rcases p2.2 with ⟨e, _⟩ | ⟨g', cap', cur, e, _, _, h1, h2, _⟩
        · cases e
        · simp only [Value.slice.injEq] at e
          omega
    · rw [putN_lt (by omega), putN_lt (by omega)]
      obtain ⟨a1, a2, a3, a4⟩ := h.blk k (by omega)
      refine ⟨⟨a1.1, by omega⟩, fun e => hgo _ (by omega) a2 (by simpa [Value.ownBlock] using e), ?_, a4⟩
      rintro (hd | ⟨j, hj, e⟩)
      · exact a3 hd
      · have := (p3 j hj).1; omega
  · by_cases e : k = n
    · subst e
      rw [putN_same]
      exact (frozen_same (hN pbn (by omega) hpb.2) x).trans (p2.frozenAt x)
    · rw [putN_lt (by omega)]
      obtain ⟨a1, a2, a3, a4⟩ := h.blk k (by omega)
      exact (frozen_same (hL _ a1.2 (by omega) a2) x).trans (h.fr k (by omega) x)
  · by_cases e : k = n
    · subst e
      rw [putN_same, putN_lt (by omega)]
      have := (h.blk k' (by omega)).1.2
      omega
    · rw [putN_lt (by omega)]
      by_cases e' : k' = n
      · subst e'
        rw [putN_same]
        have := (h.blk k (by omega)).1.2
        omega
      · rw [putN_lt (by omega)]
        exact h.inj k k' (by omega) (by omega) hne
  · rcases hx with hx | ⟨j, hj, rfl⟩
    · obtain ⟨a1, a2⟩ := h.data x hx
      exact ⟨⟨a1.1, by omega⟩, fun e => hgo _ (by omega) a2 (by simpa [Value.ownBlock] using e)⟩
    · obtain ⟨a1, a2, a3⟩ := p3 j hj
      have hl := blk_lt a2
      exact ⟨⟨by omega, by omega⟩, fun e => hnew _ (by omega) hl (by simpa [Value.ownBlock] using e)⟩
  · by_cases e : k = n
    · subst e
      rw [putN_same]
      obtain ⟨a1, a2, a3⟩ := p3 j hj
      have hl := blk_lt a2
      have ec := hN pbn (by omega) hpb.2
      have hcl := pageCells_len g G.L G.p.toNat
      have c0 := (p2.cellAt (j * 2) (by omega)).trans (pageCells_at hj).1
      have c1 := (p2.cellAt (j * 2 + 1) (by omega)).trans (pageCells_at hj).2
      have hL2 := G.ok.L2
      exact ⟨g j, G.L, none, 0, 0, [], (cell_same ec _).trans c0, (cell_same ec _).trans c1, ⟨.inr ⟨j, hj, rfl⟩, fun hn => hn (.inr ⟨j, hj, rfl⟩)⟩, (a2.same (hN _ (by omega) hl)).row (L := G.L) (by simp) (by unfold maxLen; omega), isB_ff _, row_none _ _, fun hh => by omega, List.nodup_nil, (fun _ hv => by cases hv), by simp⟩
    · rw [putN_lt (by omega)]
      obtain ⟨a1, a2, a3, a4⟩ := h.blk k (by omega)
      have ec := hL _ a1.2 (by omega) a2
      obtain ⟨q, cp, a, len, cc, l, e0, e1, ⟨f1, f2⟩, r, zb, rl, fl, nd, ia, me⟩ := h.pages k (by omega) j hj
      have hsl : w.heap.size ≤ (w6.setCell ⟨c, 5, none⟩ (.slice (some ⟨gg, 0, none⟩) (n + 1) cap)).heap.size := by omega
      have hd : ∀ x, D x → (w6.setCell ⟨c, 5, none⟩ (.slice (some ⟨gg, 0, none⟩) (n + 1) cap)).heap[x]? = w.heap[x]? := fun x hx => by
        obtain ⟨b1, b2⟩ := h.data x hx
        exact hL x b1.2 (by omega) b2
      exact ⟨q, cp, a, len, cc, l, (cell_same ec _).trans e0, (cell_same ec _).trans e1, ⟨.inl f1, fun hn => hn (.inl f1)⟩, r.same hsl (hd q f1), zb, rl.same' hsl (fun p x hx => hd _ (fl p x hx).1), fun p x hx => ⟨.inl (fl p x hx).1, fun hn => hn (.inl (fl p x hx).1)⟩, nd, ia, me⟩

theorem RPage.of_data {D core : Nat → Prop} {w : World} {L pb j : Nat} {z : List Int} {wr : Int → Bool} (h : RPage D (fun x => ¬ D x) w L pb j z wr) (hnc : ∀ x, D x → ¬ core x) : RPage (fun x => D x ∨ core x) core w L pb j z wr := by
  obtain ⟨g, cap, a, len, c, l, e0, e1, ⟨f1, f2⟩, r, zb, rl, fl, nd, ia, me⟩ := h
  exact ⟨g, cap, a, len, c, l, e0, e1, ⟨.inl f1, hnc g f1⟩, r, zb, rl, fun p x hx => ⟨.inl (fl p x hx).1, hnc _ (fl p x hx).1⟩, nd, ia, me⟩
/-- All blocks are there. -/
theorem NewIs.done {G : Geo} {c : Nat} {v : Value} {pb pcap : Nat → Nat} {D : Nat → Prop} {w : World} (h : NewIs G c G.b.toNat v pb pcap D w) (ps : List Int) :
    ∃ bb bcap, v = .slice (some ⟨bb, 0, none⟩) G.b.toNat bcap ∧ RefAt G ⟨c, bb, bcap, pb, pcap⟩ (fun x => D x ∨ RB.core ⟨c, bb, bcap, pb, pcap⟩ G.b.toNat x) (CS.fresh G.L ps 0) w ∧ ∀ x, (D x ∨ RB.core ⟨c, bb, bcap, pb, pcap⟩ G.b.toNat x) → c ≤ x := by
  have hb := G.bb
  have hc := h.lt
  have hcap : ∃ bb bcap, v = .slice (some ⟨bb, 0, none⟩) G.b.toNat bcap ∧ G.b.toNat ≤ bcap ∧ bcap ≤ maxLen := by
    rcases h.own.2 with ⟨_, e⟩ | ⟨g', cap', cur, e, _, _, h1, h2, _⟩
    · omega
    · exact ⟨g', cap', e, h1, h2⟩
  obtain ⟨bb, bcap, rfl, hb1, hb2⟩ := hcap
  have hbb := h.own.lt bb rfl
  have hnc : ∀ x, D x → ¬ RB.core ⟨c, bb, bcap, pb, pcap⟩ G.b.toNat x := fun x hx => by
    obtain ⟨a1, a2⟩ := h.data x hx
    rintro (e | e | ⟨i, hi, e⟩)
    · have e' : x = c := e
      omega
    · exact a2 (by rw [show x = bb from e]; rfl)
    · exact (h.blk i hi).2.2.1 (by rw [← show x = pb i from e]; exact hx)
  refine ⟨bb, bcap, rfl, ⟨h.cell, ⟨hb1, hb2⟩, by show c ≠ bb; omega, fun i hi => ?_, fun i j hi hj hne => h.inj i j hi hj hne, fun x hx => .inr hx, fun x hx => ?_, fun i hi => ?_, fun k => h.own.frozenAt k, fun i hi k => h.fr i hi k, fun i hi j hj => ?_, ?_, ?_, ?_⟩, fun x hx => ?_⟩
  · obtain ⟨a1, a2, _⟩ := h.blk i hi
    exact ⟨by show pb i ≠ c; omega, fun e => a2 (by rw [show pb i = bb from e]; rfl)⟩
  · rcases hx with hx | e | e | ⟨i, hi, e⟩
    · exact (h.data x hx).1.2
    · rw [show x = c from e]; exact hc
    · rw [show x = bb from e]; exact hbb.2
    · rw [show x = pb i from e]; exact (h.blk i hi).1.2
  · have hl := blockCells_len pb pcap G.p.toNat G.b.toNat
    obtain ⟨a0, a1, a2, a3⟩ := blockCells_at (pb := pb) (pcap := pcap) (Pn := G.p.toNat) hi
    exact ⟨(h.own.cellAt (i * 4) (by omega)).trans a0, (h.own.cellAt (i * 4 + 1) (by omega)).trans a1, by rw [show (CS.fresh G.L ps 0).bd (i : Int) = false by simp [CS.fresh]]; exact (h.own.cellAt (i * 4 + 2) (by omega)).trans a2, (h.own.cellAt (i * 4 + 3) (by omega)).trans a3, (h.blk i hi).2.2.2, ⟨Int.le_refl _, by show (0 : Int) ≤ 64; omega⟩⟩
  · exact (h.pages i hi j hj).of_data hnc
  · exact ⟨Int.le_refl _, by show (0 : Int) ≤ 64; omega⟩
  · exact ⟨Int.le_refl _, by show (0 : Int) ≤ 9223372036854775807; omega⟩
  · show I64 0; unfold I64; omega
  · rcases hx with hx | e | e | ⟨i, hi, e⟩
    · have := (h.data x hx).1.1; omega
    · rw [show x = c from e]; exact Nat.le_refl _
    · rw [show x = bb from e]; omega
    · rw [show x = pb i from e]; have := (h.blk i hi).1.1; omega

end Go.Proofs.YtggpgdaacbmmdaaGreat
