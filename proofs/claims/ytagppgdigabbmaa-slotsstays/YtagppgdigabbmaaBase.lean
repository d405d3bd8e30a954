/-
  What every walk of ours uses, over whatever program: 'Row' (a slice reads as a list of numbers in a world), how it is carried over calls, how owned memory becomes a row, and laws for append, copy, make, string(b).
-/
import Derived.WalkKit
import Derived.WalkSpells
import Derived.WalkLawsBesides
import Derived.Laws.CopyOwn
import Derived.Laws.AppendOwnNone
import Derived.Laws.BytesArg
import Derived.RegionTactic
import Derived.OpenShut
import Derived.Deep.QuietTactic
import Derived.BigQuiet
import Derived.Deep.RegionWith
namespace Go.Proofs.Ytagppgdigabbmaa
open Go.RowKit
set_option linter.unusedVariables false
set_option maxRecDepth 8192

theorem ret_int {k : IntKind} {a b : Int} (h : a = b) : Ending.returned (.int k a) = .returned (.int k b) := by rw [h]
theorem ret_bool {a b : Bool} (h : a = b) : Ending.returned (.bool a) = .returned (.bool b) := by rw [h]

/-- The slice (a, len, cap) reads in w as the numbers zs of the kind k. -/
structure Row (k : IntKind) (w : World) (a : Option Addr) (len cap : Nat) (zs : List Int) : Prop where
  hlen : zs.length = len
  hcap : len ≤ cap
  hmax : cap ≤ maxLen
  hnil : a = none → cap = 0
  hcell : 0 < len → ∃ b off, a = some ⟨b, off, none⟩ ∧ b < w.heap.size ∧ ∀ i, i < len → w.cell? ⟨b, off + i, none⟩ = some (.int k (zs[i]?.getD 0))

/-- A row reads as it did where nothing old has turned. -/
theorem Row.below {k : IntKind} {w w' : World} {a : Option Addr} {len cap : Nat} {zs : List Int} {B : Nat} (h : Row k w a len cap zs) (hb : Below B w w') (hB : w.heap.size ≤ B) : Row k w' a len cap zs := by
  refine ⟨h.hlen, h.hcap, h.hmax, h.hnil, fun h0 => ?_⟩
  obtain ⟨b, off, rfl, hbs, hcell⟩ := h.hcell h0
  refine ⟨b, off, rfl, by have := hb.size; omega, fun i hi => ?_⟩
  rw [hb.cell (by show b < B; omega)]
  exact hcell i hi

/-- What a call leaves, and then another. -/
theorem btrans {a b c : World} (h : Below a.heap.size a b) (k : Below b.heap.size b c) : Below a.heap.size a c := h.trans (k.mono h.size)

theorem plain_add (b off j : Nat) : (⟨b, off, none⟩ : Addr).add j = ⟨b, off + j, none⟩ := by unfold Addr.add; split <;> simp_all
theorem mem_getD (D : List Int) (k : Nat) (h : k < D.length) : D[k]?.getD 0 ∈ D := by
  rw [List.getElem?_eq_getElem h]; exact List.getElem_mem h
theorem take_snocB (ps : List Int) (k : Nat) (h : k < ps.length) : ps.take (k + 1) = ps.take k ++ [ps[k]?.getD 0] := by
  rw [List.take_add_one, List.getElem?_eq_getElem h]; rfl

/-- What a call owns reads as a row. -/
theorem row_of_owns {k : IntKind} {e : TypeId} {w : World} {base : Nat} {v : Value} {n : Nat} {zs : List Int} (h : w.ownsRow base e 1 v n (zs.map (Value.int k))) :
    ∃ a cap, v = .slice a n cap ∧ Row k w a n cap zs := by
  have hl : zs.length = n := by have := h.1; simpa using this
  rcases h.2 with ⟨rfl, hn⟩ | ⟨g, cap, cur, rfl, hg, hh, hnc, hcm, hcs, htake⟩
  · subst hn
    exact ⟨none, 0, rfl, hl, Nat.le_refl _, Nat.zero_le _, fun _ => rfl, fun h0 => absurd h0 (by omega)⟩
  · refine ⟨_, cap, rfl, hl, hnc, hcm, by simp, fun h0 => ⟨g, 0, rfl, ?_, fun i hi => ?_⟩⟩
    · rcases Nat.lt_or_ge g w.heap.size with hh' | hh'
      · exact hh'
      · rw [Array.getElem?_eq_none hh'] at hh; simp at hh
    · rw [Nat.zero_add, h.cellAt i (by omega)]
      simp [List.getElem?_map, List.getElem?_eq_getElem (show i < zs.length from by omega)]

/-- Behind 'append(out, x)': out, the call's own, has one number more. -/
theorem rel_push {B : Nat} {e : TypeId} {k : IntKind} {w wr w1 : World} {v v' : Value} {o : Obj} {n : Nat} {xs : List Int} {x : Int} (hB : B ≤ wr.heap.size)
    (hown : wr.ownsRow B e 1 v n (xs.map (Value.int k))) (hnx : Below B w wr)
    (hown' : w1.ownsRow B e 1 v' (n + 1) (xs.map (Value.int k) ++ [.int k x])) (hgrow : (wr.alloc o).grownBy w1 v.ownBlock) :
    w1.ownsRow B e 1 v' (n + 1) ((xs ++ [x]).map (Value.int k)) ∧ Below B w w1 :=
  ⟨by simpa using hown', (hnx.alloc hB o).grown hgrow (by simp; omega) (fun j hj => (hown.lt j hj).1)⟩

theorem owns_drewN {w : World} {base : Nat} {e : TypeId} {size : Nat} {v : Value} {n : Nat} {xs : List Value} (h : w.ownsRow base e size v n xs) (m : Nat) : (w.drewN m).ownsRow base e size v n xs := h
theorem owns_base {w : World} {base base' : Nat} {e : TypeId} {size : Nat} {v : Value} {n : Nat} {xs : List Value} (h : w.ownsRow base e size v n xs) (hb : base' ≤ base) : w.ownsRow base' e size v n xs := by
  refine ⟨h.1, ?_⟩
  rcases h.2 with h2 | ⟨g, cap, cur, hv, hg, r⟩
  · exact .inl h2
  · exact .inr ⟨g, cap, cur, hv, by omega, r⟩
theorem owns_of_heap {w : World} {base g n : Nat} {e : TypeId} {cs : List Value} (h : w.heap[g]? = some (.cells cs.toArray e (0, 0))) (hl : cs.length = n) (hb : base ≤ g) (hm : n ≤ maxLen) :
    w.ownsRow base e 1 (.slice (some ⟨g, 0, none⟩) n n) n cs :=
  ⟨by omega, .inr ⟨g, n, cs.toArray, rfl, hb, h, Nat.le_refl _, hm, by simp; omega, by simp [← hl]⟩⟩
theorem heap_of_owns {w : World} {base g n : Nat} {e : TypeId} {cs : List Value} (h : w.ownsRow base e 1 (.slice (some ⟨g, 0, none⟩) n n) n cs) : w.heap[g]? = some (.cells cs.toArray e (0, 0)) := by
  rcases h.2 with ⟨h', _⟩ | ⟨g', cap', cur, h', _, hg, _, _, hcs, htake⟩
  · simp at h'
  · simp only [Value.slice.injEq, Option.some.injEq, Addr.mk.injEq, and_true, true_and] at h'
    obtain ⟨rfl, rfl⟩ := h'
    rw [hg, ← htake, List.take_of_length_le (by simp; omega)]
theorem owned_cell {k : IntKind} {e : TypeId} {w : World} {base g n cap : Nat} {zs : List Int} (h : w.ownsRow base e 1 (.slice (some ⟨g, 0, none⟩) n cap) n (zs.map (Value.int k))) (i : Nat) (hi : i < n) :
    w.cell? ⟨g, i, none⟩ = some (.int k (zs[i]?.getD 0)) := by
  have hl : zs.length = n := by have := h.1; simpa using this
  rw [h.cellAt i (by omega)]
  simp [List.getElem?_map, List.getElem?_eq_getElem (show i < zs.length from by omega)]
/-- A slice that owns something begins at the head of a block. -/
theorem owns_head {w : World} {base n cap : Nat} {e : TypeId} {ao : Option Addr} {cs : List Value} (h : w.ownsRow base e 1 (.slice ao n cap) n cs) (hn : 0 < n) : ∃ g, base ≤ g ∧ ao = some ⟨g, 0, none⟩ := by
  rcases h.2 with ⟨h', h''⟩ | ⟨g, cap1, cur, h', hge, _⟩
  · omega
  · simp only [Value.slice.injEq] at h'
    exact ⟨g, hge, h'.1⟩
/-- A store into an owned row. -/
theorem owned_set {k : IntKind} {e : TypeId} {w wr : World} {B g n cap q : Nat} {zs : List Int} {x : Int} (hB : B ≤ g) (hown : wr.ownsRow B e 1 (.slice (some ⟨g, 0, none⟩) n cap) n (zs.map (Value.int k))) (hnx : Below B w wr) :
    (wr.setCell ⟨g, q, none⟩ (.int k x)).ownsRow B e 1 (.slice (some ⟨g, 0, none⟩) n cap) n ((zs.set q x).map (Value.int k)) ∧ Below B w (wr.setCell ⟨g, q, none⟩ (.int k x)) := by
  refine ⟨?_, hnx.setCell hB _⟩
  rw [List.map_set]
  exact (hown.stored q (.int k x)).1

theorem made_ints (k : IntKind) (n : Nat) : (madeCells (Value.int k 0).cells (n * 1)).toList = (List.replicate n 0).map (Value.int k) := by
  rw [Nat.mul_one]
  simpa [Value.cells] using toList_madeCells_one (Value.int k 0) n

theorem row_new (k : IntKind) (w : World) (e : TypeId) (g : Nat) (hg : g = w.heap.size) (zs : List Int) (n : Nat) (hn : zs.length = n) (hm : n ≤ maxLen) (cs : Array Value) (hc : cs = (zs.map (Value.int k)).toArray) :
    Row k (w.alloc (.cells cs e)) (some ⟨g, 0, none⟩) n n zs := by
  subst hg hc
  have h := World.ownsRow_lit (base := 0) (e := e) (size := 1) w (zs.map (Value.int k)).toArray n (Nat.zero_le _) hm (by simp; omega)
  obtain ⟨a, cap, hv, hr⟩ := row_of_owns (zs := zs) (k := k) (by simpa using h)
  simp only [Value.slice.injEq, true_and] at hv
  obtain ⟨rfl, rfl⟩ := hv
  exact hr
theorem below_one (w : World) (o : Obj) : Below w.heap.size w (w.alloc o) := (Below.refl _ _).alloc (Nat.le_refl _) _
theorem below_two (w : World) (o p : Obj) : Below w.heap.size w ((w.alloc o).alloc p) := (below_one w o).alloc (by simp) _
theorem below_three (w : World) (o p q : Obj) : Below w.heap.size w (((w.alloc o).alloc p).alloc q) := (below_two w o p).alloc (by simp; omega) _
theorem below_four (w : World) (o p q r : Obj) : Below w.heap.size w ((((w.alloc o).alloc p).alloc q).alloc r) := (below_three w o p q).alloc (by simp; omega) _

theorem cells_row {k : IntKind} {w : World} {b off len : Nat} {z : List Int} (hl : z.length = len) (hcell : ∀ i, i < len → w.cell? ⟨b, off + i, none⟩ = some (.int k (z[i]?.getD 0))) :
    ∀ j v, (z.map (Value.int k))[j]? = some v → w.cell? ((⟨b, off, none⟩ : Addr).add j) = some v := by
  intro j v hj
  simp only [List.getElem?_map, Option.map_eq_some_iff] at hj
  obtain ⟨n, hn, rfl⟩ := hj
  have hjl : j < z.length := by
    rcases Nat.lt_or_ge j z.length with h | h
    · exact h
    · rw [List.getElem?_eq_none h] at hn; simp at hn
  have := hcell j (by omega)
  rw [hn] at this
  rw [plain_add]
  exact this

/-- 'copy(out, b)', out a new row of b's length. -/
theorem copy_all {P : Program} {k : IntKind} {w0 w : World} {B g len cap : Nat} {dT elem ty : TypeId} {a : Option Addr} {z : List Int} {L : List Value} (hu : P.underlying dT = some (.slice elem)) (hsz : (P.info? elem).map (·.size) = some 1)
    (hg : w.heap[g]? = some (.cells L.toArray elem (0, 0))) (hL : L.length = len) (hr : Row k w a len cap z) (hb : Below B w0 w) (hB : B ≤ g) :
    ∃ w2, Sem.run P (Builtin.copy_ #[dT, dT] ty #[.slice (some ⟨g, 0, none⟩) len len, .slice a len cap]) w = .ok (.int .i64 len) w2 ∧ w2.heap[g]? = some (.cells (z.map (Value.int k)).toArray elem (0, 0)) ∧ Below B w0 w2 := by
  have hl := hr.hlen
  by_cases h0 : len = 0
  · subst h0
    have hz : z = [] := List.eq_nil_of_length_eq_zero hl
    have hL0 : L = [] := List.eq_nil_of_length_eq_zero hL
    refine ⟨w, run_copy_none (P := P) w dT dT ty elem _ a 0 0 0 cap hu hsz (by simp), ?_, hb⟩
    rw [hg, hz, hL0]
    rfl
  · obtain ⟨b, off, rfl, hbs, hcell⟩ := hr.hcell (by omega)
    have hrun := run_copy_row (P := P) w dT dT ty elem g 0 len len ⟨b, off, none⟩ len cap L.toArray elem (z.map (Value.int k)) hu hsz hg (by simp [hl]) (cells_row hl hcell) (by simp; omega) (ints_oneCell _ _)
    have e1 : (L.toArray.toList.take 0 ++ z.map (Value.int k) ++ L.toArray.toList.drop (0 + (z.map (Value.int k)).length)) = z.map (Value.int k) := by
      simp; omega
    rw [e1] at hrun
    refine ⟨_, ?_, setRow_heap w g _ _ elem _ hg, below_setRow hb hB _⟩
    rw [hrun]
    simp [goInt, hl]

/-- 'string(b)' of a row of bytes. -/
theorem conv_row {P : Program} {src dst e : TypeId} (hs : P.underlying src = some (.slice e)) (he : P.underlying e = some (.int .u8)) (hd : P.underlying dst = some .string)
    {w : World} {a : Option Addr} {len cap : Nat} {z : List Int} (hr : Row .u8 w a len cap z) : Sem.run P (Go.convert src dst (.slice a len cap)) w = .ok (.string (strOfNums z)) w := by
  have hl := hr.hlen
  by_cases h0 : len = 0
  · subst h0
    have hz : z = [] := List.eq_nil_of_length_eq_zero hl
    subst hz
    rw [run_convert_bytes_string w src dst e _ 0 cap hs he hd]
    cases a <;> simp [Conv.bytesToString, loadCells]
    all_goals rfl
  · obtain ⟨b, off, rfl, hbs, hcell⟩ := hr.hcell (by omega)
    exact run_convert_bytes_arg w src e hs he b off len cap z hl (fun i hi => by rw [hcell i hi, List.getD_eq_getElem?_getD]) dst hd

/-- 'append(v, x...)', v the call's own, x a row that lies there (nil too). -/
theorem wpList_append_row {P : Program} (w : World) {ops : Array Oper} {rest : List Oper} {o : Oper} {a : Act} {Q : Exit → Act → World → Prop} (hgd : o.guard = none) (s x : Operand) (t : TypeId)
    (ho : o.op = .call { callee := .builtin .append, args := #[s, x], argTypes := #[t, t] })
    (base : Nat) (e : TypeId) (i : TypeInfo) (z : Value) (bytes : Nat) (ht : P.underlying t = some (.slice e)) (hi : P.info? e = some i) (hz : i.zero = some z)
    (hsize : i.size = 1) (hby : i.bytes = bytes) (hzs : z.cells.size = 1)
    (v : Value) (n : Nat) (xs : List Value) (hs : a.eval s = v) (hown : w.ownsRow base e 1 v n xs)
    (k : IntKind) (sa : Option Addr) (m c : Nat) (zs : List Int) (hx : a.eval x = .slice sa m c) (hr : Row k w sa m c zs)
    (h63 : n + m ≤ maxLen) (hbytes : (n + m) * bytes ≤ 140737488355328) (hbase : base ≤ w.heap.size)
    (h : ∀ v' w', w'.ownsRow base e 1 v' (n + m) (xs ++ zs.map (Value.int k)) → w.grownBy w' v.ownBlock → wpList P ops Q rest (a.put o.dst v') w') : wpList P ops Q (o :: rest) a w := by
  cases sa with
  | none =>
    obtain rfl : c = 0 := hr.hnil rfl
    obtain rfl : m = 0 := by have := hr.hcap; omega
    have hz0 : zs = [] := List.eq_nil_of_length_eq_zero hr.hlen
    refine wpList_append_own_none hgd s x t ho base e i 1 ht hi v n xs hs hown hx ?_
    exact h v w (by rw [hz0]; simpa using hown) (World.grownBy.refl w _)
  | some ad =>
    refine wpList_append_own w hgd s x t ho base e i z 1 bytes ht hi hz hsize hby hzs (by decide) v n xs hs hown ad m c (zs.map (Value.int k)) hx (by simp [hr.hlen]) ?_ (ints_oneCell _ _) h63 hbytes hbase fun v' w' h1 h2 _ => h v' w' h1 h2
    intro j u hj
    by_cases h0 : 0 < m
    · obtain ⟨b, off, hab, _, hcell⟩ := hr.hcell h0
      simp only [Option.some.injEq] at hab
      subst hab
      exact cells_row hr.hlen hcell j u hj
    · have hz0 : zs = [] := List.eq_nil_of_length_eq_zero (by rw [hr.hlen]; omega)
      rw [hz0] at hj
      simp at hj

theorem lt_of_cell {w : World} {a : Addr} {v : Value} (h : w.cell? a = some v) : a.block < w.heap.size := by
  rcases Nat.lt_or_ge a.block w.heap.size with h' | h'
  · exact h'
  · simp [World.cell?, Array.getElem?_eq_none h'] at h

/-- What the frame tells of a slice of integers that came in, as a row of its elements. -/
theorem row_of_is {k : IntKind} {w : World} {a : Option Addr} {len cap : Nat} {zs : List Int}
    (h : (a = none ∧ len = 0 ∧ cap = 0 ∧ zs = []) ∨ ∃ x, a = some x ∧ len ≤ cap ∧ cap ≤ maxLen ∧ zs.length = cap ∧ (∀ i, i < zs.length → w.cell? (x.add i) = some (.int k (zs.getD i 0))) ∧ ∀ n ∈ zs, (Lit.int k n).wf = true) :
    Row k w a len cap (zs.take len) ∧ ∀ n ∈ zs.take len, (Lit.int k n).wf = true := by
  rcases h with ⟨rfl, rfl, rfl, rfl⟩ | ⟨x, rfl, hl, hm, hz, hcell, hwz⟩
  · exact ⟨⟨rfl, Nat.le_refl _, Nat.zero_le _, fun _ => rfl, fun h => absurd h (by omega)⟩, by simp⟩
  · refine ⟨⟨by simp; omega, hl, hm, by simp, fun h0 => ?_⟩, fun n hn => hwz n (List.mem_of_mem_take hn)⟩
    obtain ⟨b, off, spot⟩ := x
    have hc := hcell 0 (by omega)
    have hspot : spot = none := by simpa [Addr.add] using World.cell?_spot hc
    subst hspot
    have hb := lt_of_cell hc
    rw [plain_add] at hb
    refine ⟨b, off, rfl, hb, fun i hi => ?_⟩
    have := hcell i (by omega)
    rw [plain_add, List.getD_eq_getElem?_getD] at this
    rw [this, List.getElem?_take, if_pos hi]

/-- Equal strings of bytes are equal rows. -/
theorem strOfNums_inj {a b : List Int} (ha : ∀ n ∈ a, 0 ≤ n ∧ n ≤ 255) (hb : ∀ n ∈ b, 0 ≤ n ∧ n ≤ 255) (h : strOfNums a = strOfNums b) : a = b := by
  have h1 : (a.map fun n => UInt8.ofNat n.toNat) = b.map fun n => UInt8.ofNat n.toNat := by
    rw [← strOfNums_data, ← strOfNums_data, h]
  have hl : a.length = b.length := by simpa using congrArg List.length h1
  apply List.ext_getElem hl
  intro i hi hi'
  have h2 := congrArg (fun l => l[i]?) h1
  simp only [List.getElem?_map, List.getElem?_eq_getElem hi, List.getElem?_eq_getElem hi', Option.map_some, Option.some.injEq] at h2
  have h3 := ha _ (List.getElem_mem hi)
  have h4 := hb _ (List.getElem_mem hi')
  have h5 := congrArg UInt8.toNat h2
  simp only [UInt8.toNat_ofNat'] at h5
  omega

end Go.Proofs.Ytagppgdigabbmaa
