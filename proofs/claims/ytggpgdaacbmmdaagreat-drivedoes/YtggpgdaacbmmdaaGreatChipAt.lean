/-
  A chip in memory, as layer 7's code lays it: its struct, five maps, pages and sets of wrong bits (ChipAt), over a plain state (CS); how it is carried, and what stores into its cells and maps make of it.
-/
import Derived.Test.YtggpgdaacbmmdaaGreatChipLib
namespace Go.Proofs.YtggpgdaacbmmdaaGreat
open Go.RowKit Go.Maps
set_option linter.unusedVariables false
set_option maxRecDepth 8192

/-- A geometry of small pages that may be. -/
structure Geo where
  b : Int
  p : Int
  s : Nat
  n : Nat
  f : Nat
  R : Nat
  m : Nat
  W : Nat
  L : Nat
  ok : GOk b p s n f R m W L

/-- What a chip knows. -/
structure CS where
  pg : Int → Int → List Int
  nx : Int → Int
  bd : Int → Bool
  wk : Int → Bool
  wr : Int → Int → Int → Bool
  fu : Int
  up : Bool
  ah : Int
  ke : Int

/-- Where it lies: the struct, pages, next, marked, weak, wrong. -/
structure CB where
  c : Nat
  mp : Nat
  mn : Nat
  mm : Nat
  mw : Nat
  mr : Nat
def CB.all (B : CB) : List Nat := [B.c, B.mp, B.mn, B.mm, B.mw, B.mr]

abbrev spotV (b p : Int) : Value := .agg #[.int .i64 b, .int .i64 p]
theorem spotV_inj {b p b' p' : Int} (h : spotV b p = spotV b' p') : b = b' ∧ p = p' := by simpa [spotV] using h
theorem intV_ne {x y : Int} (h : x ≠ y) : Value.int .i64 x ≠ Value.int .i64 y := fun e => h (by simpa using e)
theorem spotV_ne {b p b' p' : Int} (h : ¬ (b = b' ∧ p = p')) : spotV b p ≠ spotV b' p' := fun e => h (spotV_inj e)

theorem intKeyed : Keyed Tryz.prog 3 := int_keyed Tryz.underlying3
theorem spotKeyed : Keyed Tryz.prog 100 := Keyed.of_law (deep_law_laid (m := 5) (by kernel_rfl) (by omega) (of_decide_eq_true (by kernel_rfl)) (by kernel_rfl) (by kernel_rfl))
def I64 (x : Int) : Prop := -9223372036854775808 ≤ x ∧ x ≤ 9223372036854775807
theorem I64.wf {x : Int} (h : I64 x) : (Lit.int .i64 x).wf = true := WalkArith.wf_i64 h
theorem int_key {x : Int} (h : I64 x) : keyOf Tryz.prog 3 (.int .i64 x) = some (.int .i64 x) := keyOf_int_mk Tryz.underlying3 h.wf
theorem spot_key {b p : Int} (hb : I64 b) (hp : I64 p) : ∃ kl, keyOf Tryz.prog 100 (spotV b p) = some kl := by
  obtain ⟨d, hd⟩ : ∃ d, Tryz.prog.types.size = d + 1 := ⟨Tryz.prog.types.size - 1, by have : 0 < Tryz.prog.types.size := of_decide_eq_true (by kernel_rfl); omega⟩
  have hk : Tryz.prog.keyType 100 = true := by kernel_rfl
  have hc : Tryz.prog.cellsOf 100 = 2 := by kernel_rfl
  have hc3 : Tryz.prog.cellsOf 3 = 1 := by kernel_rfl
  have e : Tryz.prog.keyLits (Tryz.prog.types.size + 1) 100 [.int .i64 b, .int .i64 p] = some [.int .i64 b, .int .i64 p] := by
    rw [hd]; simp [Program.keyLits, Tryz.underlying100, Tryz.underlying3, hc, hc3, hb.wf, hp.wf]
  have hfm : (Tryz.prog.keyType 100 && (spotV b p).formed Tryz.prog 100) = true := by rw [hk]; simp [Value.formed, Tryz.underlying100, hc]
  refine ⟨.string (keyBytes [.int .i64 b, .int .i64 p]), ?_⟩
  unfold keyOf
  rw [Tryz.underlying100]
  simp only [hfm, if_true]
  rw [show (spotV b p).cells.toList = [.int .i64 b, .int .i64 p] from rfl, e]
  rfl

/-- A page in the map. -/
def PageOk (F : Nat → Prop) (B : CB) (L : Nat) (w : World) (v : Option Value) (z : List Int) : Prop :=
  IsB z ∧ z.length = L ∧ ((v = none ∧ z = List.replicate L 255) ∨ ∃ g, v = some (.slice (some ⟨g, 0, none⟩) L L) ∧ F g ∧ g ∉ B.all ∧ Row .u8 w (some ⟨g, 0, none⟩) L L z)
def PagesOk (F : Nat → Prop) (B : CB) (L N : Nat) (pg : Int → Int → List Int) (w : World) : Prop :=
  ∃ m, MapIs Tryz.prog 100 w B.mp N m ∧ ∀ b p, PageOk F B L w (m (spotV b p)) (pg b p)
def NextOk (B : CB) (N : Nat) (nx : Int → Int) (w : World) : Prop :=
  ∃ m, MapIs Tryz.prog 3 w B.mn N m ∧ ∀ b, (m (.int .i64 b)).getD (.int .i64 0) = .int .i64 (nx b) ∧ 0 ≤ nx b ∧ nx b ≤ 64
def SetOk (x N : Nat) (mk : Int → Bool) (w : World) : Prop :=
  ∃ m, MapIs Tryz.prog 3 w x N m ∧ ∀ b, (m (.int .i64 b)).isSome = mk b ∧ (m (.int .i64 b)).getD (.agg #[]) = .agg #[]
/-- A set of wrong bits in the map. -/
def BitsOk (F : Nat → Prop) (B : CB) (L : Nat) (w : World) (v : Option Value) (wr : Int → Bool) : Prop :=
  (∀ x, wr x = true → 0 ≤ x ∧ x < 8 * (L : Int)) ∧ ((v = none ∧ ∀ x, wr x = false) ∨ ∃ s, v = some (.map (some s)) ∧ F s ∧ s ∉ B.all ∧ SetOk s 1000000 wr w)
def WrongOk (F : Nat → Prop) (B : CB) (L N : Nat) (wr : Int → Int → Int → Bool) (w : World) : Prop :=
  ∃ m, MapIs Tryz.prog 100 w B.mr N m ∧ ∀ b p, BitsOk F B L w (m (spotV b p)) (wr b p)
def CellOk (G : Geo) (B : CB) (S : CS) (w : World) : Prop :=
  w.heap[B.c]? = some (.cells #[.int .i64 G.b, .int .i64 G.p, .int .i64 G.s, .int .i64 G.n, .int .i64 G.f, .map (some B.mp), .map (some B.mn), .map (some B.mm), .map (some B.mw), .map (some B.mr), .int .i64 S.fu, .bool S.up, .int .i64 S.ah, .int .i64 S.ke] 70 (0, 0))

/-- The chip G with the state S lies in w at B, in the blocks F, its maps of at most N entries. -/
structure ChipAt (G : Geo) (B : CB) (F : Nat → Prop) (N : Nat) (S : CS) (w : World) : Prop where
  cell : CellOk G B S w
  apart : B.all.Nodup
  inF : ∀ x, x ∈ B.all → F x
  fresh : ∀ x, F x → x < w.heap.size
  pages : PagesOk F B G.L N S.pg w
  next : NextOk B N S.nx w
  marked : SetOk B.mm N S.bd w
  weak : SetOk B.mw N S.wk w
  wrong : WrongOk F B G.L N S.wr w
  fu : 0 ≤ S.fu ∧ S.fu ≤ 64
  ah : 0 ≤ S.ah ∧ S.ah ≤ 9223372036854775807
  ke : I64 S.ke

theorem SetOk.same {x N : Nat} {mk : Int → Bool} {w w' : World} (h : SetOk x N mk w) (hb : w'.heap[x]? = w.heap[x]?) : SetOk x N mk w' := by
  obtain ⟨m, hm, r⟩ := h; exact ⟨m, hm.same hb, r⟩
theorem SetOk.add {x N : Nat} {bd : Int → Bool} {w : World} {m : Value → Option Value} (hm : ∀ b, (m (.int .i64 b)).isSome = bd b ∧ (m (.int .i64 b)).getD (.agg #[]) = .agg #[]) (y : Int) (h : MapIs Tryz.prog 3 w x N (mput m (.int .i64 y) (.agg #[]))) :
    SetOk x N (fun b => if b = y then true else bd b) w := by
  refine ⟨_, h, fun b => ?_⟩
  by_cases hb : b = y
  · subst hb; rw [mput_same]; simp
  · rw [mput_other m _ (intV_ne hb)]; simpa [hb] using hm b
theorem SetOk.mono {x N N' : Nat} {mk : Int → Bool} {w : World} (h : SetOk x N mk w) (hN : N ≤ N') : SetOk x N' mk w := by
  obtain ⟨m, hm, r⟩ := h; exact ⟨m, hm.mono hN, r⟩
theorem NextOk.same {B : CB} {N : Nat} {nx : Int → Int} {w w' : World} (h : NextOk B N nx w) (hb : w'.heap[B.mn]? = w.heap[B.mn]?) : NextOk B N nx w' := by
  obtain ⟨m, hm, r⟩ := h; exact ⟨m, hm.same hb, r⟩
theorem PageOk.same {F : Nat → Prop} {B : CB} {L : Nat} {w w' : World} {v : Option Value} {z : List Int} (h : PageOk F B L w v z) (hs : w.heap.size ≤ w'.heap.size) (hb : ∀ x, F x → x ∉ B.all → w'.heap[x]? = w.heap[x]?) : PageOk F B L w' v z := by
  obtain ⟨h1, h2, h3⟩ := h
  refine ⟨h1, h2, ?_⟩
  rcases h3 with h3 | ⟨g, e, hF, hB, hr⟩
  · exact .inl h3
  · exact .inr ⟨g, e, hF, hB, hr.same hs (hb g hF hB)⟩
theorem PageOk.wide {F F' : Nat → Prop} {B : CB} {L : Nat} {w : World} {v : Option Value} {z : List Int} (h : PageOk F B L w v z) (hF : ∀ x, F x → F' x) : PageOk F' B L w v z := by
  obtain ⟨h1, h2, h3⟩ := h
  refine ⟨h1, h2, ?_⟩
  rcases h3 with h3 | ⟨g, e, hG, hB, hr⟩
  · exact .inl h3
  · exact .inr ⟨g, e, hF g hG, hB, hr⟩
theorem PagesOk.same {F : Nat → Prop} {B : CB} {L N : Nat} {pg : Int → Int → List Int} {w w' : World} (h : PagesOk F B L N pg w) (hs : w.heap.size ≤ w'.heap.size) (hm : w'.heap[B.mp]? = w.heap[B.mp]?) (hb : ∀ x, F x → x ∉ B.all → w'.heap[x]? = w.heap[x]?) : PagesOk F B L N pg w' := by
  obtain ⟨m, h1, r⟩ := h; exact ⟨m, h1.same hm, fun b p => (r b p).same hs hb⟩
theorem BitsOk.same {F : Nat → Prop} {B : CB} {L : Nat} {w w' : World} {v : Option Value} {wr : Int → Bool} (h : BitsOk F B L w v wr) (hb : ∀ x, F x → x ∉ B.all → w'.heap[x]? = w.heap[x]?) : BitsOk F B L w' v wr := by
  obtain ⟨h1, h3⟩ := h
  refine ⟨h1, ?_⟩
  rcases h3 with h3 | ⟨g, e, hF, hB, hr⟩
  · exact .inl h3
  · exact .inr ⟨g, e, hF, hB, hr.same (hb g hF hB)⟩
theorem BitsOk.wide {F F' : Nat → Prop} {B : CB} {L : Nat} {w : World} {v : Option Value} {wr : Int → Bool} (h : BitsOk F B L w v wr) (hF : ∀ x, F x → F' x) : BitsOk F' B L w v wr := by
  obtain ⟨h1, h3⟩ := h
  refine ⟨h1, ?_⟩
  rcases h3 with h3 | ⟨g, e, hG, hB, hr⟩
  · exact .inl h3
  · exact .inr ⟨g, e, hF g hG, hB, hr⟩
theorem WrongOk.same {F : Nat → Prop} {B : CB} {L N : Nat} {wr : Int → Int → Int → Bool} {w w' : World} (h : WrongOk F B L N wr w) (hm : w'.heap[B.mr]? = w.heap[B.mr]?) (hb : ∀ x, F x → x ∉ B.all → w'.heap[x]? = w.heap[x]?) : WrongOk F B L N wr w' := by
  obtain ⟨m, h1, r⟩ := h; exact ⟨m, h1.same hm, fun b p => (r b p).same hb⟩

section
variable {G : Geo} {B : CB} {F : Nat → Prop} {N : Nat} {S : CS} {w w' : World}

/-- What lies in no block of the chip may turn. -/
theorem ChipAt.kept (h : ChipAt G B F N S w) (hs : w.heap.size ≤ w'.heap.size) (hb : ∀ x, F x → w'.heap[x]? = w.heap[x]?) : ChipAt G B F N S w' := by
  have hm : ∀ x, x ∈ B.all → w'.heap[x]? = w.heap[x]? := fun x hx => hb x (h.inF x hx)
  exact ⟨(hm B.c (by simp [CB.all])).trans h.cell, h.apart, h.inF, fun x hx => by have := h.fresh x hx; omega, h.pages.same hs (hm _ (by simp [CB.all])) (fun x hx _ => hb x hx), h.next.same (hm _ (by simp [CB.all])),
    h.marked.same (hm _ (by simp [CB.all])), h.weak.same (hm _ (by simp [CB.all])), h.wrong.same (hm _ (by simp [CB.all])) (fun x hx _ => hb x hx), h.fu, h.ah, h.ke⟩
theorem ChipAt.below (h : ChipAt G B F N S w) (hb : Below w.heap.size w w') : ChipAt G B F N S w' := h.kept hb.size fun x hx => hb.block x (h.fresh x hx)
theorem ChipAt.drew (h : ChipAt G B F N S w) : ChipAt G B F N S w.drew := h.kept (Nat.le_refl _) fun _ _ => rfl
theorem ChipAt.turned {F2 : Nat → Prop} (h : ChipAt G B F N S w) (hb : Turned F2 w w') (hd : ∀ x, F x → ¬ F2 x) : ChipAt G B F N S w' := h.kept hb.size fun x hx => hb.block x (h.fresh x hx) (hd x hx)
theorem ChipAt.mono (h : ChipAt G B F N S w) {N' : Nat} (hN : N ≤ N') : ChipAt G B F N' S w := by
  obtain ⟨m1, a1, r1⟩ := h.pages
  obtain ⟨m2, a2, r2⟩ := h.next
  obtain ⟨m3, a3, r3⟩ := h.wrong
  exact ⟨h.cell, h.apart, h.inF, h.fresh, ⟨m1, a1.mono hN, r1⟩, ⟨m2, a2.mono hN, r2⟩, h.marked.mono hN, h.weak.mono hN, ⟨m3, a3.mono hN, r3⟩, h.fu, h.ah, h.ke⟩
theorem ChipAt.lt (h : ChipAt G B F N S w) : B.c < w.heap.size := h.fresh _ (h.inF _ (by simp [CB.all]))

/-- The struct's cells, for the walk. -/
structure Cells (G : Geo) (B : CB) (S : CS) (w : World) : Prop where
  c0 : w.cell? ⟨B.c, 0, none⟩ = some (.int .i64 G.b)
  c1 : w.cell? ⟨B.c, 1, none⟩ = some (.int .i64 G.p)
  c2 : w.cell? ⟨B.c, 2, none⟩ = some (.int .i64 G.s)
  c3 : w.cell? ⟨B.c, 3, none⟩ = some (.int .i64 G.n)
  c4 : w.cell? ⟨B.c, 4, none⟩ = some (.int .i64 G.f)
  c5 : w.cell? ⟨B.c, 5, none⟩ = some (.map (some B.mp))
  c6 : w.cell? ⟨B.c, 6, none⟩ = some (.map (some B.mn))
  c7 : w.cell? ⟨B.c, 7, none⟩ = some (.map (some B.mm))
  c8 : w.cell? ⟨B.c, 8, none⟩ = some (.map (some B.mw))
  c9 : w.cell? ⟨B.c, 9, none⟩ = some (.map (some B.mr))
  c10 : w.cell? ⟨B.c, 10, none⟩ = some (.int .i64 S.fu)
  c11 : w.cell? ⟨B.c, 11, none⟩ = some (.bool S.up)
  c12 : w.cell? ⟨B.c, 12, none⟩ = some (.int .i64 S.ah)
  c13 : w.cell? ⟨B.c, 13, none⟩ = some (.int .i64 S.ke)
  fr : ∀ i, w.frozen? ⟨B.c, i, none⟩ = false
theorem CellOk.cells (h : CellOk G B S w) : Cells G B S w := by
  unfold CellOk at h
  refine ⟨?_, ?_, ?_, ?_, ?_, ?_, ?_, ?_, ?_, ?_, ?_, ?_, ?_, ?_, fun i => ?_⟩
  all_goals first | (simp [World.cell?, h]; done) | (simp [World.frozen?, h]; done)

theorem block_setC {w : World} {g i : Nat} {cs : Array Value} {t : TypeId} {fr : Nat × Nat} (h : w.heap[g]? = some (.cells cs t fr)) (v : Value) : (w.setCell ⟨g, i, none⟩ v).heap[g]? = some (.cells (cs.setIfInBounds i v) t fr) := by
  rw [setCell_eq_setRow w g i cs t fr v h]
  exact setRow_heap w g _ _ t _ h

/-- A store into the struct. -/
theorem ChipAt.setc (h : ChipAt G B F N S w) (i : Nat) (v : Value) {S' : CS} (hc : CellOk G B S' (w.setCell ⟨B.c, i, none⟩ v)) (e1 : S'.pg = S.pg) (e2 : S'.nx = S.nx) (e3 : S'.bd = S.bd) (e4 : S'.wk = S.wk) (e5 : S'.wr = S.wr)
    (hf : 0 ≤ S'.fu ∧ S'.fu ≤ 64) (ha : 0 ≤ S'.ah ∧ S'.ah ≤ 9223372036854775807) (hk : I64 S'.ke) : ChipAt G B F N S' (w.setCell ⟨B.c, i, none⟩ v) := by
  have hne : ∀ x, x ≠ B.c → (w.setCell ⟨B.c, i, none⟩ v).heap[x]? = w.heap[x]? := fun x hx => Below.heap_setCell w _ v x hx
  have hd := h.apart
  simp only [CB.all, List.nodup_cons, List.mem_cons, List.not_mem_nil, or_false, not_or] at hd
  have hx : ∀ x, F x → x ∉ B.all → (w.setCell ⟨B.c, i, none⟩ v).heap[x]? = w.heap[x]? := fun x _ hn => hne x (fun e => hn (by simp [CB.all, e]))
  have hs : w.heap.size ≤ (w.setCell ⟨B.c, i, none⟩ v).heap.size := by simp
  refine ⟨hc, h.apart, h.inF, fun x hx => by have := h.fresh x hx; simpa using this, ?_, ?_, ?_, ?_, ?_, hf, ha, hk⟩
  · rw [e1]; exact h.pages.same hs (hne _ (Ne.symm hd.1.1)) hx
  · rw [e2]; exact h.next.same (hne _ (Ne.symm hd.1.2.1))
  · rw [e3]; exact h.marked.same (hne _ (Ne.symm hd.1.2.2.1))
  · rw [e4]; exact h.weak.same (hne _ (Ne.symm hd.1.2.2.2.1))
  · rw [e5]; exact h.wrong.same (hne _ (Ne.symm hd.1.2.2.2.2)) hx
theorem ChipAt.set_up (h : ChipAt G B F N S w) (x : Bool) : ChipAt G B F N { S with up := x } (w.setCell ⟨B.c, 11, none⟩ (.bool x)) :=
  h.setc 11 _ (by have := block_setC (i := 11) h.cell (.bool x); simpa [CellOk] using this) rfl rfl rfl rfl rfl h.fu h.ah h.ke
theorem ChipAt.set_fu (h : ChipAt G B F N S w) (x : Int) (hx : 0 ≤ x ∧ x ≤ 64) : ChipAt G B F N { S with fu := x } (w.setCell ⟨B.c, 10, none⟩ (.int .i64 x)) :=
  h.setc 10 _ (by have := block_setC (i := 10) h.cell (.int .i64 x); simpa [CellOk] using this) rfl rfl rfl rfl rfl hx h.ah h.ke
theorem ChipAt.set_ah (h : ChipAt G B F N S w) (x : Int) (hx : 0 ≤ x ∧ x ≤ 9223372036854775807) : ChipAt G B F N { S with ah := x } (w.setCell ⟨B.c, 12, none⟩ (.int .i64 x)) :=
  h.setc 12 _ (by have := block_setC (i := 12) h.cell (.int .i64 x); simpa [CellOk] using this) rfl rfl rfl rfl rfl h.fu hx h.ke
theorem ChipAt.set_ke (h : ChipAt G B F N S w) (x : Int) (hx : I64 x) : ChipAt G B F N { S with ke := x } (w.setCell ⟨B.c, 13, none⟩ (.int .i64 x)) :=
  h.setc 13 _ (by have := block_setC (i := 13) h.cell (.int .i64 x); simpa [CellOk] using this) rfl rfl rfl rfl rfl h.fu h.ah hx

/-- One of its maps has turned, or a new block came: what the others are. -/
theorem ChipAt.map_turned (h : ChipAt G B F N S w) {x : Nat} (hx : x ∈ B.all) (hxc : x ≠ B.c) (hg : w.grownBy w' (some x)) : CellOk G B S w' ∧ (∀ y, F y → y ∉ B.all → w'.heap[y]? = w.heap[y]?) ∧ (∀ y, y ∈ B.all → y ≠ x → w'.heap[y]? = w.heap[y]?) := by
  have key : ∀ y, F y → y ≠ x → w'.heap[y]? = w.heap[y]? := fun y hy hne => hg.block y (h.fresh y hy) (fun e => hne (by cases e; rfl))
  exact ⟨(key _ (h.inF _ (by simp [CB.all])) (Ne.symm hxc)).trans h.cell, fun y hy hn => key y hy (fun e => hn (e ▸ hx)), fun y hy hne => key y (h.inF y hy) hne⟩
theorem ChipAt.nes (h : ChipAt G B F N S w) : (B.c ≠ B.mp ∧ B.c ≠ B.mn ∧ B.c ≠ B.mm ∧ B.c ≠ B.mw ∧ B.c ≠ B.mr) ∧ (B.mp ≠ B.mn ∧ B.mp ≠ B.mm ∧ B.mp ≠ B.mw ∧ B.mp ≠ B.mr) ∧ (B.mn ≠ B.mm ∧ B.mn ≠ B.mw ∧ B.mn ≠ B.mr) ∧ (B.mm ≠ B.mw ∧ B.mm ≠ B.mr) ∧ B.mw ≠ B.mr := by
  have hd := h.apart
  simp only [CB.all, List.nodup_cons, List.mem_cons, List.not_mem_nil, or_false, not_or, not_false_eq_true, List.nodup_nil, and_true] at hd
  exact hd

/-- A block is marked. -/
theorem ChipAt.mark (h : ChipAt G B F N S w) {m : Value → Option Value} (hm : ∀ b, (m (.int .i64 b)).isSome = S.bd b ∧ (m (.int .i64 b)).getD (.agg #[]) = .agg #[]) (x : Int) (hM : MapIs Tryz.prog 3 w' B.mm (N + 1) (mput m (.int .i64 x) (.agg #[]))) (hg : w.grownBy w' (some B.mm)) :
    ChipAt G B F (N + 1) { S with bd := fun b => if b = x then true else S.bd b } w' := by
  obtain ⟨⟨_, _, n3, _, _⟩, ⟨_, n5, _, _⟩, ⟨n6, _, _⟩, ⟨n7, n8⟩, _⟩ := h.nes
  obtain ⟨k1, k2, k3⟩ := h.map_turned (by simp [CB.all]) (Ne.symm n3) hg
  refine ⟨k1, h.apart, h.inF, fun y hy => Nat.lt_of_lt_of_le (h.fresh y hy) hg.size, ?_, ?_, ⟨_, hM, fun b => ?_⟩, ?_, ?_, h.fu, h.ah, h.ke⟩
  · obtain ⟨m1, a1, r1⟩ := h.pages.same hg.size (k3 _ (by simp [CB.all]) n5) k2; exact ⟨m1, a1.mono (by omega), r1⟩
  · obtain ⟨m1, a1, r1⟩ := h.next.same (k3 _ (by simp [CB.all]) n6); exact ⟨m1, a1.mono (by omega), r1⟩
  · by_cases hb : b = x
    · subst hb; rw [mput_same]; simp
    · rw [mput_other m _ (intV_ne hb)]; simpa [hb] using hm b
  · exact (h.weak.same (k3 _ (by simp [CB.all]) (Ne.symm n7))).mono (by omega)
  · obtain ⟨m1, a1, r1⟩ := h.wrong.same (k3 _ (by simp [CB.all]) (Ne.symm n8)) k2; exact ⟨m1, a1.mono (by omega), r1⟩
/-- A block is weak. -/
theorem ChipAt.weaken (h : ChipAt G B F N S w) {m : Value → Option Value} (hm : ∀ b, (m (.int .i64 b)).isSome = S.wk b ∧ (m (.int .i64 b)).getD (.agg #[]) = .agg #[]) (x : Int) (hM : MapIs Tryz.prog 3 w' B.mw (N + 1) (mput m (.int .i64 x) (.agg #[]))) (hg : w.grownBy w' (some B.mw)) :
    ChipAt G B F (N + 1) { S with wk := fun b => if b = x then true else S.wk b } w' := by
  obtain ⟨⟨_, _, _, n3, _⟩, ⟨_, _, n5, _⟩, ⟨_, n6, _⟩, ⟨n7, _⟩, n8⟩ := h.nes
  obtain ⟨k1, k2, k3⟩ := h.map_turned (by simp [CB.all]) (Ne.symm n3) hg
  refine ⟨k1, h.apart, h.inF, fun y hy => Nat.lt_of_lt_of_le (h.fresh y hy) hg.size, ?_, ?_, ?_, ⟨_, hM, fun b => ?_⟩, ?_, h.fu, h.ah, h.ke⟩
  · obtain ⟨m1, a1, r1⟩ := h.pages.same hg.size (k3 _ (by simp [CB.all]) n5) k2; exact ⟨m1, a1.mono (by omega), r1⟩
  · obtain ⟨m1, a1, r1⟩ := h.next.same (k3 _ (by simp [CB.all]) n6); exact ⟨m1, a1.mono (by omega), r1⟩
  · exact (h.marked.same (k3 _ (by simp [CB.all]) n7)).mono (by omega)
  · by_cases hb : b = x
    · subst hb; rw [mput_same]; simp
    · rw [mput_other m _ (intV_ne hb)]; simpa [hb] using hm b
  · obtain ⟨m1, a1, r1⟩ := h.wrong.same (k3 _ (by simp [CB.all]) (Ne.symm n8)) k2; exact ⟨m1, a1.mono (by omega), r1⟩
/-- Next is laid. -/
theorem ChipAt.put_next (h : ChipAt G B F N S w) {m : Value → Option Value} (hm : ∀ b, (m (.int .i64 b)).getD (.int .i64 0) = .int .i64 (S.nx b) ∧ 0 ≤ S.nx b ∧ S.nx b ≤ 64) (x y : Int) (hy : 0 ≤ y ∧ y ≤ 64) (hM : MapIs Tryz.prog 3 w' B.mn (N + 1) (mput m (.int .i64 x) (.int .i64 y))) (hg : w.grownBy w' (some B.mn)) :
    ChipAt G B F (N + 1) { S with nx := fun b => if b = x then y else S.nx b } w' := by
  obtain ⟨⟨_, n3, _, _, _⟩, ⟨n5, _, _, _⟩, ⟨n6, n7, n8⟩, _, _⟩ := h.nes
  obtain ⟨k1, k2, k3⟩ := h.map_turned (by simp [CB.all]) (Ne.symm n3) hg
  refine ⟨k1, h.apart, h.inF, fun y hy => Nat.lt_of_lt_of_le (h.fresh y hy) hg.size, ?_, ⟨_, hM, fun b => ?_⟩, ?_, ?_, ?_, h.fu, h.ah, h.ke⟩
  · obtain ⟨m1, a1, r1⟩ := h.pages.same hg.size (k3 _ (by simp [CB.all]) n5) k2; exact ⟨m1, a1.mono (by omega), r1⟩
  · by_cases hb : b = x
    · subst hb; rw [mput_same]; simpa using hy
    · rw [mput_other m _ (intV_ne hb)]; simpa [hb] using hm b
  · exact (h.marked.same (k3 _ (by simp [CB.all]) (Ne.symm n6))).mono (by omega)
  · exact (h.weak.same (k3 _ (by simp [CB.all]) (Ne.symm n7))).mono (by omega)
  · obtain ⟨m1, a1, r1⟩ := h.wrong.same (k3 _ (by simp [CB.all]) (Ne.symm n8)) k2; exact ⟨m1, a1.mono (by omega), r1⟩
/-- Next is 0 again. -/
theorem ChipAt.del_next (h : ChipAt G B F N S w) {m : Value → Option Value} (hm : ∀ b, (m (.int .i64 b)).getD (.int .i64 0) = .int .i64 (S.nx b) ∧ 0 ≤ S.nx b ∧ S.nx b ≤ 64) (x : Int) (hM : MapIs Tryz.prog 3 w' B.mn N (mdel m (.int .i64 x))) (hg : w.grownBy w' (some B.mn)) :
    ChipAt G B F N { S with nx := fun b => if b = x then 0 else S.nx b } w' := by
  obtain ⟨⟨_, n3, _, _, _⟩, ⟨n5, _, _, _⟩, ⟨n6, n7, n8⟩, _, _⟩ := h.nes
  obtain ⟨k1, k2, k3⟩ := h.map_turned (by simp [CB.all]) (Ne.symm n3) hg
  refine ⟨k1, h.apart, h.inF, fun y hy => Nat.lt_of_lt_of_le (h.fresh y hy) hg.size, h.pages.same hg.size (k3 _ (by simp [CB.all]) n5) k2, ⟨_, hM, fun b => ?_⟩, h.marked.same (k3 _ (by simp [CB.all]) (Ne.symm n6)), h.weak.same (k3 _ (by simp [CB.all]) (Ne.symm n7)),
    h.wrong.same (k3 _ (by simp [CB.all]) (Ne.symm n8)) k2, h.fu, h.ah, h.ke⟩
  by_cases hb : b = x
  · subst hb; rw [mdel_same]; simp
  · rw [mdel_other m (intV_ne hb)]; simpa [hb] using hm b
/-- A page is laid: its row lies in a block that is new. -/
theorem ChipAt.put_page (h : ChipAt G B F N S w) {m : Value → Option Value} (hm : ∀ b p, PageOk F B G.L w (m (spotV b p)) (S.pg b p)) (x y : Int) (g : Nat) (z : List Int) (hg0 : ¬ F g) (hz : IsB z) (hr : Row .u8 w (some ⟨g, 0, none⟩) G.L G.L z) (hgl : g < w.heap.size)
    (hM : MapIs Tryz.prog 100 w' B.mp (N + 1) (mput m (spotV x y) (.slice (some ⟨g, 0, none⟩) G.L G.L))) (hg : w.grownBy w' (some B.mp)) :
    ChipAt G B (fun k => F k ∨ k = g) (N + 1) { S with pg := fun b p => if b = x ∧ p = y then z else S.pg b p } w' := by
  obtain ⟨⟨n3, _, _, _, _⟩, ⟨n5, n6, n7, n8⟩, _, _, _⟩ := h.nes
  obtain ⟨k1, k2, k3⟩ := h.map_turned (by simp [CB.all]) (Ne.symm n3) hg
  have hgB : g ∉ B.all := fun hh => hg0 (h.inF g hh)
  have hgm : g ≠ B.mp := fun e => hgB (by simp [CB.all, e])
  refine ⟨k1, h.apart, fun y hy => .inl (h.inF y hy), fun y hy => hy.elim (fun hy => Nat.lt_of_lt_of_le (h.fresh y hy) hg.size) (fun e => e ▸ Nat.lt_of_lt_of_le hgl hg.size), ⟨_, hM, fun b p => ?_⟩, ?_, ?_, ?_, ?_, h.fu, h.ah, h.ke⟩
  · by_cases hb : b = x ∧ p = y
    · obtain ⟨rfl, rfl⟩ := hb
      rw [mput_same]
      simp only [and_self, if_true]
      exact ⟨hz, hr.hlen, .inr ⟨g, rfl, .inr rfl, hgB, hr.same hg.size (hg.block g hgl (fun e => hgm (by cases e; rfl)))⟩⟩
    · rw [mput_other m _ (spotV_ne hb)]
      simp only [hb, if_false]
      exact ((hm b p).same hg.size k2).wide (fun _ h => .inl h)
  · obtain ⟨m1, a1, r1⟩ := h.next.same (k3 _ (by simp [CB.all]) (Ne.symm n5)); exact ⟨m1, a1.mono (by omega), r1⟩
  · exact (h.marked.same (k3 _ (by simp [CB.all]) (Ne.symm n6))).mono (by omega)
  · exact (h.weak.same (k3 _ (by simp [CB.all]) (Ne.symm n7))).mono (by omega)
  · obtain ⟨m1, a1, r1⟩ := h.wrong.same (k3 _ (by simp [CB.all]) (Ne.symm n8)) k2; exact ⟨m1, a1.mono (by omega), fun b p => (r1 b p).wide (fun _ h => .inl h)⟩
/-- A page is ff. -/
theorem ChipAt.del_page (h : ChipAt G B F N S w) {m : Value → Option Value} (hm : ∀ b p, PageOk F B G.L w (m (spotV b p)) (S.pg b p)) (x y : Int) (hM : MapIs Tryz.prog 100 w' B.mp N (mdel m (spotV x y))) (hg : w.grownBy w' (some B.mp)) :
    ChipAt G B F N { S with pg := fun b p => if b = x ∧ p = y then List.replicate G.L 255 else S.pg b p } w' := by
  obtain ⟨⟨n3, _, _, _, _⟩, ⟨n5, n6, n7, n8⟩, _, _, _⟩ := h.nes
  obtain ⟨k1, k2, k3⟩ := h.map_turned (by simp [CB.all]) (Ne.symm n3) hg
  refine ⟨k1, h.apart, h.inF, fun y hy => Nat.lt_of_lt_of_le (h.fresh y hy) hg.size, ⟨_, hM, fun b p => ?_⟩, h.next.same (k3 _ (by simp [CB.all]) (Ne.symm n5)), h.marked.same (k3 _ (by simp [CB.all]) (Ne.symm n6)), h.weak.same (k3 _ (by simp [CB.all]) (Ne.symm n7)),
    h.wrong.same (k3 _ (by simp [CB.all]) (Ne.symm n8)) k2, h.fu, h.ah, h.ke⟩
  by_cases hb : b = x ∧ p = y
  · obtain ⟨rfl, rfl⟩ := hb
    rw [mdel_same]
    simp only [and_self, if_true]
    exact ⟨fun v hv => by rw [List.mem_replicate] at hv; rw [hv.2]; decide, by simp, .inl ⟨rfl, rfl⟩⟩
  · rw [mdel_other m (spotV_ne hb)]
    simp only [hb, if_false]
    exact (hm b p).same hg.size k2
/-- No bit of a page is read wrongly. -/
theorem ChipAt.del_wrong (h : ChipAt G B F N S w) {m : Value → Option Value} (hm : ∀ b p, BitsOk F B G.L w (m (spotV b p)) (S.wr b p)) (x y : Int) (hM : MapIs Tryz.prog 100 w' B.mr N (mdel m (spotV x y))) (hg : w.grownBy w' (some B.mr)) :
    ChipAt G B F N { S with wr := fun b p => if b = x ∧ p = y then fun _ => false else S.wr b p } w' := by
  obtain ⟨⟨_, _, _, _, n3⟩, ⟨_, _, _, n5⟩, ⟨_, _, n6⟩, ⟨_, n7⟩, n8⟩ := h.nes
  obtain ⟨k1, k2, k3⟩ := h.map_turned (by simp [CB.all]) (Ne.symm n3) hg
  refine ⟨k1, h.apart, h.inF, fun y hy => Nat.lt_of_lt_of_le (h.fresh y hy) hg.size, h.pages.same hg.size (k3 _ (by simp [CB.all]) n5) k2, h.next.same (k3 _ (by simp [CB.all]) n6), h.marked.same (k3 _ (by simp [CB.all]) n7), h.weak.same (k3 _ (by simp [CB.all]) n8),
    ⟨_, hM, fun b p => ?_⟩, h.fu, h.ah, h.ke⟩
  by_cases hb : b = x ∧ p = y
  · obtain ⟨rfl, rfl⟩ := hb
    rw [mdel_same]
    simp only [and_self, if_true]
    exact ⟨fun x hx => by simp at hx, .inl ⟨rfl, fun _ => rfl⟩⟩
  · rw [mdel_other m (spotV_ne hb)]
    simp only [hb, if_false]
    exact (hm b p).same k2
/-- Bits of a page are read wrongly: the set lies in a block that is new. -/
theorem ChipAt.put_wrong (h : ChipAt G B F N S w) {m : Value → Option Value} (hm : ∀ b p, BitsOk F B G.L w (m (spotV b p)) (S.wr b p)) (x y : Int) (s : Nat) (wr : Int → Bool) (hs0 : ¬ F s) (hwr : ∀ x, wr x = true → 0 ≤ x ∧ x < 8 * (G.L : Int)) (hs : SetOk s 1000000 wr w) (hsl : s < w.heap.size)
    (hM : MapIs Tryz.prog 100 w' B.mr (N + 1) (mput m (spotV x y) (.map (some s)))) (hg : w.grownBy w' (some B.mr)) :
    ChipAt G B (fun k => F k ∨ k = s) (N + 1) { S with wr := fun b p => if b = x ∧ p = y then wr else S.wr b p } w' := by
  obtain ⟨⟨_, _, _, _, n3⟩, ⟨_, _, _, n5⟩, ⟨_, _, n6⟩, ⟨_, n7⟩, n8⟩ := h.nes
  obtain ⟨k1, k2, k3⟩ := h.map_turned (by simp [CB.all]) (Ne.symm n3) hg
  have hgB : s ∉ B.all := fun hh => hs0 (h.inF s hh)
  have hgm : s ≠ B.mr := fun e => hgB (by simp [CB.all, e])
  refine ⟨k1, h.apart, fun y hy => .inl (h.inF y hy), fun y hy => hy.elim (fun hy => Nat.lt_of_lt_of_le (h.fresh y hy) hg.size) (fun e => e ▸ Nat.lt_of_lt_of_le hsl hg.size), ?_, ?_, ?_, ?_, ⟨_, hM, fun b p => ?_⟩, h.fu, h.ah, h.ke⟩
  · obtain ⟨m1, a1, r1⟩ := h.pages.same hg.size (k3 _ (by simp [CB.all]) n5) k2; exact ⟨m1, a1.mono (by omega), fun b p => (r1 b p).wide (fun _ h => .inl h)⟩
  · obtain ⟨m1, a1, r1⟩ := h.next.same (k3 _ (by simp [CB.all]) n6); exact ⟨m1, a1.mono (by omega), r1⟩
  · exact (h.marked.same (k3 _ (by simp [CB.all]) n7)).mono (by omega)
  · exact (h.weak.same (k3 _ (by simp [CB.all]) n8)).mono (by omega)
  · by_cases hb : b = x ∧ p = y
    · obtain ⟨rfl, rfl⟩ := hb
      rw [mput_same]
      simp only [and_self, if_true]
      exact ⟨hwr, .inr ⟨s, rfl, .inr rfl, hgB, hs.same (hg.block s hsl (fun e => hgm (by cases e; rfl)))⟩⟩
    · rw [mput_other m _ (spotV_ne hb)]
      simp only [hb, if_false]
      exact ((hm b p).same k2).wide (fun _ h => .inl h)
end

/-- What a call does to a chip: it answers r, and leaves the state S'; nothing else has turned. -/
def Does (G : Geo) (B : CB) (F : Nat → Prop) (N : Nat) (w : World) (S' : CS) (w' : World) : Prop :=
  ∃ F', ChipAt G B F' N S' w' ∧ Turned F w w' ∧ ∀ x, F' x → F x ∨ w.heap.size ≤ x

end Go.Proofs.YtggpgdaacbmmdaaGreat
