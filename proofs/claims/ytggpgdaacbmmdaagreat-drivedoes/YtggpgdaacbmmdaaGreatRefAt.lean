/-
  The document's chip in memory (casemateref07.Chip): its struct, the blocks' array, an array of pages a block, rows; over the same plain state (CS) as the landed chip's.
-/
import Derived.Test.YtggpgdaacbmmdaaGreatChipMore
namespace Go.Proofs.YtggpgdaacbmmdaaGreat
open Go.RowKit Go.Maps
set_option linter.unusedVariables false
set_option maxRecDepth 8192

theorem Geo.bn (G : Geo) : G.b = ((G.b.toNat : Nat) : Int) := by have := G.ok.hb; omega
theorem Geo.bb (G : Geo) : 1 ≤ G.b.toNat ∧ G.b.toNat ≤ 256 := by have := G.ok.hb; omega

/-- Where it lies: the struct, the blocks' array, the pages' arrays. -/
structure RB where
  c : Nat
  bb : Nat
  bcap : Nat
  pb : Nat → Nat
  pcap : Nat → Nat
def RB.core (R : RB) (Bn : Nat) (x : Nat) : Prop := x = R.c ∨ x = R.bb ∨ ∃ i, i < Bn ∧ x = R.pb i

/-- A page in its array. -/
def RPage (F core : Nat → Prop) (w : World) (L pb j : Nat) (z : List Int) (wr : Int → Bool) : Prop :=
  ∃ g cap a len c l, w.cell? ⟨pb, j * 2, none⟩ = some (.slice (some ⟨g, 0, none⟩) L cap) ∧ w.cell? ⟨pb, j * 2 + 1, none⟩ = some (.slice a len c) ∧
    (F g ∧ ¬ core g) ∧ Row .u8 w (some ⟨g, 0, none⟩) L cap z ∧ IsB z ∧ Row .i64 w a len c l ∧ (0 < len → ∀ x, a = some x → F x.block ∧ ¬ core x.block) ∧ l.Nodup ∧ inAll L l ∧ ∀ x, x ∈ l ↔ wr x = true
/-- A block in its array. -/
structure RBlock (w : World) (bb i pb Pn pcap : Nat) (nx : Int) (bd wk : Bool) : Prop where
  c0 : w.cell? ⟨bb, i * 4, none⟩ = some (.slice (some ⟨pb, 0, none⟩) Pn pcap)
  c1 : w.cell? ⟨bb, i * 4 + 1, none⟩ = some (.int .i64 nx)
  c2 : w.cell? ⟨bb, i * 4 + 2, none⟩ = some (.bool bd)
  c3 : w.cell? ⟨bb, i * 4 + 3, none⟩ = some (.bool wk)
  cap : Pn ≤ pcap ∧ pcap ≤ maxLen
  nx : 0 ≤ nx ∧ nx ≤ 64
def RCell (G : Geo) (R : RB) (S : CS) (w : World) : Prop :=
  w.heap[R.c]? = some (.cells #[.int .i64 G.b, .int .i64 G.p, .int .i64 G.s, .int .i64 G.n, .int .i64 G.f, .slice (some ⟨R.bb, 0, none⟩) G.b.toNat R.bcap, .int .i64 S.fu, .bool S.up, .int .i64 S.ah, .int .i64 S.ke] 76 (0, 0))
structure RefAt (G : Geo) (R : RB) (F : Nat → Prop) (S : CS) (w : World) : Prop where
  cell : RCell G R S w
  bcap : G.b.toNat ≤ R.bcap ∧ R.bcap ≤ maxLen
  ne1 : R.c ≠ R.bb
  ne2 : ∀ i, i < G.b.toNat → R.pb i ≠ R.c ∧ R.pb i ≠ R.bb
  inj : ∀ i j, i < G.b.toNat → j < G.b.toNat → i ≠ j → R.pb i ≠ R.pb j
  inF : ∀ x, R.core G.b.toNat x → F x
  fresh : ∀ x, F x → x < w.heap.size
  blocks : ∀ i, i < G.b.toNat → RBlock w R.bb i (R.pb i) G.p.toNat (R.pcap i) (S.nx (i : Int)) (S.bd (i : Int)) (S.wk (i : Int))
  bfr : ∀ k, w.frozen? ⟨R.bb, k, none⟩ = false
  pfr : ∀ i, i < G.b.toNat → ∀ k, w.frozen? ⟨R.pb i, k, none⟩ = false
  pages : ∀ i, i < G.b.toNat → ∀ j, j < G.p.toNat → RPage F (R.core G.b.toNat) w G.L (R.pb i) j (S.pg (i : Int) (j : Int)) (S.wr (i : Int) (j : Int))
  fu : 0 ≤ S.fu ∧ S.fu ≤ 64
  ah : 0 ≤ S.ah ∧ S.ah ≤ 9223372036854775807
  ke : I64 S.ke

theorem cell_same {w w' : World} {b : Nat} (hb : w'.heap[b]? = w.heap[b]?) (i : Nat) : w'.cell? ⟨b, i, none⟩ = w.cell? ⟨b, i, none⟩ := World.cell?_of_block (w := w) hb
theorem frozen_same {w w' : World} {b : Nat} (hb : w'.heap[b]? = w.heap[b]?) (i : Nat) : w'.frozen? ⟨b, i, none⟩ = w.frozen? ⟨b, i, none⟩ := World.frozen?_of_block (w := w) hb
theorem RBlock.same {w w' : World} {bb i pb Pn pcap : Nat} {nx : Int} {bd wk : Bool} (h : RBlock w bb i pb Pn pcap nx bd wk) (hb : w'.heap[bb]? = w.heap[bb]?) : RBlock w' bb i pb Pn pcap nx bd wk :=
  ⟨(cell_same hb _).trans h.c0, (cell_same hb _).trans h.c1, (cell_same hb _).trans h.c2, (cell_same hb _).trans h.c3, h.cap, h.nx⟩
theorem Row.same' {k : IntKind} {w w' : World} {a : Option Addr} {len cap : Nat} {z : List Int} (h : Row k w a len cap z) (hs : w.heap.size ≤ w'.heap.size) (hb : 0 < len → ∀ x, a = some x → w'.heap[x.block]? = w.heap[x.block]?) : Row k w' a len cap z := by
  refine ⟨h.hlen, h.hcap, h.hmax, h.hnil, fun h0 => ?_⟩
  obtain ⟨b, off, rfl, hbs, hcell⟩ := h.hcell h0
  exact ⟨b, off, rfl, by omega, fun i hi => (cell_same (hb h0 _ rfl) _).trans (hcell i hi)⟩
/-- A page whose array's two cells, and rows, are as they were. -/
theorem RPage.kept {F F' core : Nat → Prop} {w w' : World} {L pb j : Nat} {z : List Int} {wr : Int → Bool} (h : RPage F core w L pb j z wr) (hs : w.heap.size ≤ w'.heap.size) (h0 : w'.cell? ⟨pb, j * 2, none⟩ = w.cell? ⟨pb, j * 2, none⟩) (h1 : w'.cell? ⟨pb, j * 2 + 1, none⟩ = w.cell? ⟨pb, j * 2 + 1, none⟩)
    (hb : ∀ x, F x → ¬ core x → w'.heap[x]? = w.heap[x]?) (hF : ∀ x, F x → F' x) : RPage F' core w' L pb j z wr := by
  obtain ⟨g, cap, a, len, c, l, e0, e1, ⟨f1, f2⟩, r, zb, rl, fl, nd, ia, me⟩ := h
  exact ⟨g, cap, a, len, c, l, h0.trans e0, h1.trans e1, ⟨hF _ f1, f2⟩, r.same hs (hb g f1 f2), zb, rl.same' hs (fun p x hx => hb _ (fl p x hx).1 (fl p x hx).2), fun p x hx => ⟨hF _ (fl p x hx).1, (fl p x hx).2⟩, nd, ia, me⟩

section
variable {G : Geo} {R : RB} {F : Nat → Prop} {S : CS} {w w' : World}
theorem RefAt.kept (h : RefAt G R F S w) (hs : w.heap.size ≤ w'.heap.size) (hb : ∀ x, F x → w'.heap[x]? = w.heap[x]?) : RefAt G R F S w' := by
  have hc : ∀ x, R.core G.b.toNat x → w'.heap[x]? = w.heap[x]? := fun x hx => hb x (h.inF x hx)
  have hp : ∀ i, i < G.b.toNat → w'.heap[R.pb i]? = w.heap[R.pb i]? := fun i hi => hc _ (.inr (.inr ⟨i, hi, rfl⟩))
  have hbb := hc R.bb (.inr (.inl rfl))
  exact ⟨(hc R.c (.inl rfl)).trans h.cell, h.bcap, h.ne1, h.ne2, h.inj, h.inF, fun x hx => Nat.lt_of_lt_of_le (h.fresh x hx) hs, fun i hi => (h.blocks i hi).same hbb, fun k => (frozen_same hbb k).trans (h.bfr k),
    fun i hi k => (frozen_same (hp i hi) k).trans (h.pfr i hi k), fun i hi j hj => (h.pages i hi j hj).kept hs (cell_same (hp i hi) _) (cell_same (hp i hi) _) (fun x hx _ => hb x hx) (fun _ hx => hx), h.fu, h.ah, h.ke⟩
theorem RefAt.below (h : RefAt G R F S w) (q : Below w.heap.size w w') : RefAt G R F S w' := h.kept q.size fun x hx => q.block x (h.fresh x hx)
theorem RefAt.drew (h : RefAt G R F S w) : RefAt G R F S w.drew := h.kept (Nat.le_refl _) fun _ _ => rfl
theorem RefAt.turned {F2 : Nat → Prop} (h : RefAt G R F S w) (t : Turned F2 w w') (hd : ∀ x, F x → ¬ F2 x) : RefAt G R F S w' := h.kept t.size fun x hx => t.block x (h.fresh x hx) (hd x hx)
theorem RefAt.lt (h : RefAt G R F S w) : R.c < w.heap.size := h.fresh _ (h.inF _ (.inl rfl))

/-- The struct's cells. -/
structure RCells (G : Geo) (R : RB) (S : CS) (w : World) : Prop where
  c0 : w.cell? ⟨R.c, 0, none⟩ = some (.int .i64 G.b)
  c1 : w.cell? ⟨R.c, 1, none⟩ = some (.int .i64 G.p)
  c2 : w.cell? ⟨R.c, 2, none⟩ = some (.int .i64 G.s)
  c3 : w.cell? ⟨R.c, 3, none⟩ = some (.int .i64 G.n)
  c4 : w.cell? ⟨R.c, 4, none⟩ = some (.int .i64 G.f)
  c5 : w.cell? ⟨R.c, 5, none⟩ = some (.slice (some ⟨R.bb, 0, none⟩) G.b.toNat R.bcap)
  c6 : w.cell? ⟨R.c, 6, none⟩ = some (.int .i64 S.fu)
  c7 : w.cell? ⟨R.c, 7, none⟩ = some (.bool S.up)
  c8 : w.cell? ⟨R.c, 8, none⟩ = some (.int .i64 S.ah)
  c9 : w.cell? ⟨R.c, 9, none⟩ = some (.int .i64 S.ke)
  fr : ∀ i, w.frozen? ⟨R.c, i, none⟩ = false
theorem RCell.cells (h : RCell G R S w) : RCells G R S w := by
  unfold RCell at h
  refine ⟨?_, ?_, ?_, ?_, ?_, ?_, ?_, ?_, ?_, ?_, fun i => ?_⟩
  all_goals first | (simp [World.cell?, h]; done) | (simp [World.frozen?, h]; done)

/-- A store into the struct. -/
theorem RefAt.setc (h : RefAt G R F S w) (i : Nat) (v : Value) {S' : CS} (hc : RCell G R S' (w.setCell ⟨R.c, i, none⟩ v)) (e1 : S'.pg = S.pg) (e2 : S'.nx = S.nx) (e3 : S'.bd = S.bd) (e4 : S'.wk = S.wk) (e5 : S'.wr = S.wr)
    (hf : 0 ≤ S'.fu ∧ S'.fu ≤ 64) (ha : 0 ≤ S'.ah ∧ S'.ah ≤ 9223372036854775807) (hk : I64 S'.ke) : RefAt G R F S' (w.setCell ⟨R.c, i, none⟩ v) := by
  have hne : ∀ x, x ≠ R.c → (w.setCell ⟨R.c, i, none⟩ v).heap[x]? = w.heap[x]? := fun x hx => Below.heap_setCell w _ v x hx
  have hs : w.heap.size ≤ (w.setCell ⟨R.c, i, none⟩ v).heap.size := by simp
  have hbb := hne R.bb (Ne.symm h.ne1)
  have hp : ∀ j, j < G.b.toNat → (w.setCell ⟨R.c, i, none⟩ v).heap[R.pb j]? = w.heap[R.pb j]? := fun j hj => hne _ (h.ne2 j hj).1
  refine ⟨hc, h.bcap, h.ne1, h.ne2, h.inj, h.inF, fun x hx => by have := h.fresh x hx; simpa using this, fun j hj => ?_, fun k => (frozen_same hbb k).trans (h.bfr k), fun j hj k => (frozen_same (hp j hj) k).trans (h.pfr j hj k), fun j hj q hq => ?_, hf, ha, hk⟩
  · rw [e2, e3, e4]; exact (h.blocks j hj).same hbb
  · rw [e1, e5]; exact (h.pages j hj q hq).kept hs (cell_same (hp j hj) _) (cell_same (hp j hj) _) (fun x _ hn => hne x (fun e => hn (.inl e))) (fun _ hx => hx)
theorem RefAt.set_fu (h : RefAt G R F S w) (x : Int) (hx : 0 ≤ x ∧ x ≤ 64) : RefAt G R F { S with fu := x } (w.setCell ⟨R.c, 6, none⟩ (.int .i64 x)) :=
  h.setc 6 _ (by have := block_setC (i := 6) h.cell (.int .i64 x); simpa [RCell] using this) rfl rfl rfl rfl rfl hx h.ah h.ke
theorem RefAt.set_up (h : RefAt G R F S w) (x : Bool) : RefAt G R F { S with up := x } (w.setCell ⟨R.c, 7, none⟩ (.bool x)) :=
  h.setc 7 _ (by have := block_setC (i := 7) h.cell (.bool x); simpa [RCell] using this) rfl rfl rfl rfl rfl h.fu h.ah h.ke
theorem RefAt.set_ah (h : RefAt G R F S w) (x : Int) (hx : 0 ≤ x ∧ x ≤ 9223372036854775807) : RefAt G R F { S with ah := x } (w.setCell ⟨R.c, 8, none⟩ (.int .i64 x)) :=
  h.setc 8 _ (by have := block_setC (i := 8) h.cell (.int .i64 x); simpa [RCell] using this) rfl rfl rfl rfl rfl h.fu hx h.ke
theorem RefAt.set_ke (h : RefAt G R F S w) (x : Int) (hx : I64 x) : RefAt G R F { S with ke := x } (w.setCell ⟨R.c, 9, none⟩ (.int .i64 x)) :=
  h.setc 9 _ (by have := block_setC (i := 9) h.cell (.int .i64 x); simpa [RCell] using this) rfl rfl rfl rfl rfl h.fu h.ah hx

theorem cell_set_other {w : World} {b i j : Nat} {v : Value} (h : i ≠ j) : (w.setCell ⟨b, i, none⟩ v).cell? ⟨b, j, none⟩ = w.cell? ⟨b, j, none⟩ := World.cell?_setCell_other _ _ _ _ (fun e => h (by cases e; rfl))
theorem cell_set_same {w : World} {b i : Nat} {u v : Value} (h : w.cell? ⟨b, i, none⟩ = some u) : (w.setCell ⟨b, i, none⟩ v).cell? ⟨b, i, none⟩ = some v := World.cell?_setCell_same' _ _ _ (by rw [h]; rfl)
/-- A store into the blocks' array. -/
theorem RefAt.setB (h : RefAt G R F S w) (k : Nat) (v : Value) {S' : CS} (hbl : ∀ i, i < G.b.toNat → RBlock (w.setCell ⟨R.bb, k, none⟩ v) R.bb i (R.pb i) G.p.toNat (R.pcap i) (S'.nx (i : Int)) (S'.bd (i : Int)) (S'.wk (i : Int)))
    (e1 : S'.pg = S.pg) (e5 : S'.wr = S.wr) (e6 : S'.fu = S.fu) (e7 : S'.up = S.up) (e8 : S'.ah = S.ah) (e9 : S'.ke = S.ke) : RefAt G R F S' (w.setCell ⟨R.bb, k, none⟩ v) := by
  have hne : ∀ x, x ≠ R.bb → (w.setCell ⟨R.bb, k, none⟩ v).heap[x]? = w.heap[x]? := fun x hx => Below.heap_setCell w _ v x hx
  have hs : w.heap.size ≤ (w.setCell ⟨R.bb, k, none⟩ v).heap.size := by simp
  have hp : ∀ j, j < G.b.toNat → (w.setCell ⟨R.bb, k, none⟩ v).heap[R.pb j]? = w.heap[R.pb j]? := fun j hj => hne _ (h.ne2 j hj).2
  refine ⟨?_, h.bcap, h.ne1, h.ne2, h.inj, h.inF, fun x hx => by have := h.fresh x hx; simpa using this, hbl, fun j => by rw [World.frozen?_setCell]; exact h.bfr j, fun j hj q => (frozen_same (hp j hj) q).trans (h.pfr j hj q), fun j hj q hq => ?_, by rw [e6]; exact h.fu, by rw [e8]; exact h.ah, by rw [e9]; exact h.ke⟩
  · unfold RCell; rw [e6, e7, e8, e9]; exact (hne R.c h.ne1).trans h.cell
  · rw [e1, e5]; exact (h.pages j hj q hq).kept hs (cell_same (hp j hj) _) (cell_same (hp j hj) _) (fun x _ hn => hne x (fun e => hn (.inr (.inl e)))) (fun _ hx => hx)
theorem RefAt.set_nx (h : RefAt G R F S w) {x : Int} {k : Nat} (hx : x = (k : Int)) (hk : k < G.b.toNat) (y : Int) (hy : 0 ≤ y ∧ y ≤ 64) : RefAt G R F { S with nx := fun b => if b = x then y else S.nx b } (w.setCell ⟨R.bb, k * 4 + 1, none⟩ (.int .i64 y)) := by
  subst hx
  refine h.setB _ _ (fun i hi => ?_) rfl rfl rfl rfl rfl rfl
  have b := h.blocks i hi
  by_cases e : i = k
  · subst e
    refine ⟨(cell_set_other (by omega)).trans b.c0, ?_, (cell_set_other (by omega)).trans b.c2, (cell_set_other (by omega)).trans b.c3, b.cap, by simpa using hy⟩
    simpa using cell_set_same b.c1
  · have hne : ¬ ((i : Int) = (k : Int)) := by omega
    refine ⟨(cell_set_other (by omega)).trans b.c0, ?_, (cell_set_other (by omega)).trans b.c2, (cell_set_other (by omega)).trans b.c3, b.cap, by simpa [hne] using b.nx⟩
    simp only [hne, if_false]; exact (cell_set_other (by omega)).trans b.c1
theorem RefAt.set_bd (h : RefAt G R F S w) {x : Int} {k : Nat} (hx : x = (k : Int)) (hk : k < G.b.toNat) : RefAt G R F (S.mark x) (w.setCell ⟨R.bb, k * 4 + 2, none⟩ (.bool true)) := by
  subst hx
  refine h.setB _ _ (fun i hi => ?_) rfl rfl rfl rfl rfl rfl
  have b := h.blocks i hi
  by_cases e : i = k
  · subst e
    refine ⟨(cell_set_other (by omega)).trans b.c0, (cell_set_other (by omega)).trans b.c1, ?_, (cell_set_other (by omega)).trans b.c3, b.cap, b.nx⟩
    simpa [CS.mark] using cell_set_same b.c2
  · have hne : ¬ ((i : Int) = (k : Int)) := by omega
    refine ⟨(cell_set_other (by omega)).trans b.c0, (cell_set_other (by omega)).trans b.c1, ?_, (cell_set_other (by omega)).trans b.c3, b.cap, b.nx⟩
    simp only [CS.mark, hne, if_false]; exact (cell_set_other (by omega)).trans b.c2
theorem RefAt.set_wk (h : RefAt G R F S w) {x : Int} {k : Nat} (hx : x = (k : Int)) (hk : k < G.b.toNat) : RefAt G R F (S.weaken x) (w.setCell ⟨R.bb, k * 4 + 3, none⟩ (.bool true)) := by
  subst hx
  refine h.setB _ _ (fun i hi => ?_) rfl rfl rfl rfl rfl rfl
  have b := h.blocks i hi
  by_cases e : i = k
  · subst e
    refine ⟨(cell_set_other (by omega)).trans b.c0, (cell_set_other (by omega)).trans b.c1, (cell_set_other (by omega)).trans b.c2, ?_, b.cap, b.nx⟩
    simpa [CS.weaken] using cell_set_same b.c3
  · have hne : ¬ ((i : Int) = (k : Int)) := by omega
    refine ⟨(cell_set_other (by omega)).trans b.c0, (cell_set_other (by omega)).trans b.c1, (cell_set_other (by omega)).trans b.c2, ?_, b.cap, b.nx⟩
    simp only [CS.weaken, hne, if_false]; exact (cell_set_other (by omega)).trans b.c3

/-- A page, laid and read as is said. -/
def CS.setPage (S : CS) (x y : Int) (z : List Int) (wr : Int → Bool) : CS :=
  { S with pg := fun b p => if b = x ∧ p = y then z else S.pg b p, wr := fun b p => if b = x ∧ p = y then wr else S.wr b p }
/-- The two cells of a page are stored. -/
theorem RefAt.setP (h : RefAt G R F S w) {x y : Int} {i j : Nat} (hx : x = (i : Int)) (hy : y = (j : Int)) (hi : i < G.b.toNat) (hj : j < G.p.toNat) (hg : w.grownBy w' (some (R.pb i))) (hfr : ∀ k, w'.frozen? ⟨R.pb i, k, none⟩ = false)
    (hoth : ∀ q, q < G.p.toNat → q ≠ j → w'.cell? ⟨R.pb i, q * 2, none⟩ = w.cell? ⟨R.pb i, q * 2, none⟩ ∧ w'.cell? ⟨R.pb i, q * 2 + 1, none⟩ = w.cell? ⟨R.pb i, q * 2 + 1, none⟩)
    {F' : Nat → Prop} (hF : ∀ k, F k → F' k) (hF' : ∀ k, F' k → k < w'.heap.size) (z : List Int) (wr : Int → Bool) (hpage : RPage F' (R.core G.b.toNat) w' G.L (R.pb i) j z wr) : RefAt G R F' (S.setPage x y z wr) w' := by
  subst hx hy
  have hne : ∀ k, F k → k ≠ R.pb i → w'.heap[k]? = w.heap[k]? := fun k hk hn => hg.block k (h.fresh k hk) (fun e => hn (by cases e; rfl))
  have hcF : F R.c := h.inF _ (.inl rfl)
  have hbF : F R.bb := h.inF _ (.inr (.inl rfl))
  have hpF : ∀ q, q < G.b.toNat → F (R.pb q) := fun q hq => h.inF _ (.inr (.inr ⟨q, hq, rfl⟩))
  have hbb := hne _ hbF (Ne.symm (h.ne2 i hi).2)
  refine ⟨(hne _ hcF (Ne.symm (h.ne2 i hi).1)).trans h.cell, h.bcap, h.ne1, h.ne2, h.inj, fun k hk => hF k (h.inF k hk), hF', fun q hq => (h.blocks q hq).same hbb, fun k => (frozen_same hbb k).trans (h.bfr k), fun q hq k => ?_, fun q hq p hp => ?_, h.fu, h.ah, h.ke⟩
  · by_cases e : q = i
    · subst e; exact hfr k
    · exact (frozen_same (hne _ (hpF q hq) (h.inj q i hq hi e)) k).trans (h.pfr q hq k)
  · have hrow : ∀ k, F k → ¬ R.core G.b.toNat k → w'.heap[k]? = w.heap[k]? := fun k hk hn => hne k hk (fun e => hn (.inr (.inr ⟨i, hi, e⟩)))
    by_cases e : q = i
    · subst e
      by_cases e2 : p = j
      · subst e2
        simpa [CS.setPage] using hpage
      · have hn : ¬ ((q : Int) = (q : Int) ∧ (p : Int) = (j : Int)) := by omega
        show RPage F' (R.core G.b.toNat) w' G.L (R.pb q) p (if _ then z else _) (if _ then wr else _)
        rw [if_neg hn, if_neg hn]
        exact (h.pages q hq p hp).kept hg.size (hoth p hp e2).1 (hoth p hp e2).2 hrow hF
    · have hn : ¬ ((q : Int) = (i : Int) ∧ (p : Int) = (j : Int)) := by omega
      have hq' := hne _ (hpF q hq) (h.inj q i hq hi e)
      simp only [CS.setPage, hn, if_false]
      exact (h.pages q hq p hp).kept hg.size (cell_same hq' _) (cell_same hq' _) hrow hF
end
/-- What a call does to the document's chip. -/
def RDoes (G : Geo) (R : RB) (F : Nat → Prop) (w : World) (S' : CS) (w' : World) : Prop :=
  ∃ F', RefAt G R F' S' w' ∧ Turned F w w' ∧ ∀ x, F' x → F x ∨ w.heap.size ≤ x

end Go.Proofs.YtggpgdaacbmmdaaGreat
