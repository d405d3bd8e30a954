/-
  What every walk of ours uses, over whatever program: 'Row' (a slice reads as a list of numbers in a world), how it is carried over calls, how owned memory becomes a row, and laws for append, copy, make, string(b).
-/
import Derived.WalkKit
import Derived.WalkSpells
import Derived.WalkLawsBesides
import Derived.Laws.CopyOwn
import Derived.Laws.AppendOwnNone
import Derived.Laws.BytesArg
import Derived.RegionTactic
import Derived.OpenShut
import Derived.Deep.QuietTactic
import Derived.BigQuiet
import Derived.Deep.RegionWith
import Derived.Test.YthangiocheodoaaGreatDoorRows
import Derived.Deep.RegionHeld2
import Derived.Below
import Derived.BigRegion
namespace Go.Proofs.YthangiocheodoaaGreatDoor
open Go.RowKit
set_option linter.unusedVariables false
set_option maxRecDepth 8192

theorem ret_int {k : IntKind} {a b : Int} (h : a = b) : Ending.returned (.int k a) = .returned (.int k b) := by rw [h]
theorem ret_bool {a b : Bool} (h : a = b) : Ending.returned (.bool a) = .returned (.bool b) := by rw [h]

/-- The slice (a, len, cap) reads in w as the numbers zs of the kind k. -/
structure Row (k : IntKind) (w : World) (a : Option Addr) (len cap : Nat) (zs : List Int) : Prop where
  hlen : zs.length = len
  hcap : len ≤ cap
  hmax : cap ≤ maxLen
  hnil : a = none → cap = 0
  hcell : 0 < len → ∃ b off, a = some ⟨b, off, none⟩ ∧ b < w.heap.size ∧ ∀ i, i < len → w.cell? ⟨b, off + i, none⟩ = some (.int k (zs[i]?.getD 0))

/-- A row reads as it did where nothing old has turned. -/
theorem Row.below {k : IntKind} {w w' : World} {a : Option Addr} {len cap : Nat} {zs : List Int} {B : Nat} (h : Row k w a len cap zs) (hb : Below B w w') (hB : w.heap.size ≤ B) : Row k w' a len cap zs := by
  refine ⟨h.hlen, h.hcap, h.hmax, h.hnil, fun h0 => ?_⟩
  obtain ⟨b, off, rfl, hbs, hcell⟩ := h.hcell h0
  refine ⟨b, off, rfl, by have := hb.size; omega, fun i hi => ?_⟩
  rw [hb.cell (by show b < B; omega)]
  exact hcell i hi

/-- What a call leaves, and then another. -/
theorem btrans {a b c : World} (h : Below a.heap.size a b) (k : Below b.heap.size b c) : Below a.heap.size a c := h.trans (k.mono h.size)

theorem plain_add (b off j : Nat) : (⟨b, off, none⟩ : Addr).add j = ⟨b, off + j, none⟩ := by unfold Addr.add; split <;> simp_all
theorem mem_getD (D : List Int) (k : Nat) (h : k < D.length) : D[k]?.getD 0 ∈ D := by
  rw [List.getElem?_eq_getElem h]; exact List.getElem_mem h
theorem take_snocB (ps : List Int) (k : Nat) (h : k < ps.length) : ps.take (k + 1) = ps.take k ++ [ps[k]?.getD 0] := by
  rw [List.take_add_one, List.getElem?_eq_getElem h]; rfl

/-- What a call owns reads as a row. -/
theorem row_of_owns {k : IntKind} {e : TypeId} {w : World} {base : Nat} {v : Value} {n : Nat} {zs : List Int} (h : w.ownsRow base e 1 v n (zs.map (Value.int k))) :
    ∃ a cap, v = .slice a n cap ∧ Row k w a n cap zs := by
  have hl : zs.length = n := by have := h.1; simpa using this
  rcases h.2 with ⟨rfl, hn⟩ | ⟨g, cap, cur, rfl, hg, hh, hnc, hcm, hcs, htake⟩
  · subst hn
    exact ⟨none, 0, rfl, hl, Nat.le_refl _, Nat.zero_le _, fun _ => rfl, fun h0 => absurd h0 (by omega)⟩
  · refine ⟨_, cap, rfl, hl, hnc, hcm, by simp, fun h0 => ⟨g, 0, rfl, ?_, fun i hi => ?_⟩⟩
    · rcases Nat.lt_or_ge g w.heap.size with hh' | hh'
      · exact hh'
      · rw [Array.getElem?_eq_none hh'] at hh; simp at hh
    · rw [Nat.zero_add, h.cellAt i (by omega)]
      simp [List.getElem?_map, List.getElem?_eq_getElem (show i < zs.length from by omega)]

/-- Behind 'append(out, x)': out, the call's own, has one number more. -/
theorem rel_push {B : Nat} {e : TypeId} {k : IntKind} {w wr w1 : World} {v v' : Value} {o : Obj} {n : Nat} {xs : List Int} {x : Int} (hB : B ≤ wr.heap.size)
    (hown : wr.ownsRow B e 1 v n (xs.map (Value.int k))) (hnx : Below B w wr)
    (hown' : w1.ownsRow B e 1 v' (n + 1) (xs.map (Value.int k) ++ [.int k x])) (hgrow : (wr.alloc o).grownBy w1 v.ownBlock) :
    w1.ownsRow B e 1 v' (n + 1) ((xs ++ [x]).map (Value.int k)) ∧ Below B w w1 :=
  ⟨by simpa using hown', (hnx.alloc hB o).grown hgrow (by simp; omega) (fun j hj => (hown.lt j hj).1)⟩

theorem owns_drewN {w : World} {base : Nat} {e : TypeId} {size : Nat} {v : Value} {n : Nat} {xs : List Value} (h : w.ownsRow base e size v n xs) (m : Nat) : (w.drewN m).ownsRow base e size v n xs := h
theorem owns_base {w : World} {base base' : Nat} {e : TypeId} {size : Nat} {v : Value} {n : Nat} {xs : List Value} (h : w.ownsRow base e size v n xs) (hb : base' ≤ base) : w.ownsRow base' e size v n xs := by
  refine ⟨h.1, ?_⟩
  rcases h.2 with h2 | ⟨g, cap, cur, hv, hg, r⟩
  · exact .inl h2
  · exact .inr ⟨g, cap, cur, hv, by omega, r⟩
theorem owns_of_heap {w : World} {base g n : Nat} {e : TypeId} {cs : List Value} (h : w.heap[g]? = some (.cells cs.toArray e (0, 0))) (hl : cs.length = n) (hb : base ≤ g) (hm : n ≤ maxLen) :
    w.ownsRow base e 1 (.slice (some ⟨g, 0, none⟩) n n) n cs :=
  ⟨by omega, .inr ⟨g, n, cs.toArray, rfl, hb, h, Nat.le_refl _, hm, by simp; omega, by simp [← hl]⟩⟩
theorem heap_of_owns {w : World} {base g n : Nat} {e : TypeId} {cs : List Value} (h : w.ownsRow base e 1 (.slice (some ⟨g, 0, none⟩) n n) n cs) : w.heap[g]? = some (.cells cs.toArray e (0, 0)) := by
  rcases h.2 with ⟨h', _⟩ | ⟨g', cap', cur, h', _, hg, _, _, hcs, htake⟩
  · simp at h'
  · simp only [Value.slice.injEq, Option.some.injEq, Addr.mk.injEq, and_true, true_and] at h'
    obtain ⟨rfl, rfl⟩ := h'
    rw [hg, ← htake, List.take_of_length_le (by simp; omega)]
theorem owned_cell {k : IntKind} {e : TypeId} {w : World} {base g n cap : Nat} {zs : List Int} (h : w.ownsRow base e 1 (.slice (some ⟨g, 0, none⟩) n cap) n (zs.map (Value.int k))) (i : Nat) (hi : i < n) :
    w.cell? ⟨g, i, none⟩ = some (.int k (zs[i]?.getD 0)) := by
  have hl : zs.length = n := by have := h.1; simpa using this
  rw [h.cellAt i (by omega)]
  simp [List.getElem?_map, List.getElem?_eq_getElem (show i < zs.length from by omega)]
/-- A slice that owns something begins at the head of a block. -/
theorem owns_head {w : World} {base n cap : Nat} {e : TypeId} {ao : Option Addr} {cs : List Value} (h : w.ownsRow base e 1 (.slice ao n cap) n cs) (hn : 0 < n) : ∃ g, base ≤ g ∧ ao = some ⟨g, 0, none⟩ := by
  rcases h.2 with ⟨h', h''⟩ | ⟨g, cap1, cur, h', hge, _⟩
  · omega
  · simp only [Value.slice.injEq] at h'
    exact ⟨g, hge, h'.1⟩
/-- A store into an owned row. -/
theorem owned_set {k : IntKind} {e : TypeId} {w wr : World} {B g n cap q : Nat} {zs : List Int} {x : Int} (hB : B ≤ g) (hown : wr.ownsRow B e 1 (.slice (some ⟨g, 0, none⟩) n cap) n (zs.map (Value.int k))) (hnx : Below B w wr) :
    (wr.setCell ⟨g, q, none⟩ (.int k x)).ownsRow B e 1 (.slice (some ⟨g, 0, none⟩) n cap) n ((zs.set q x).map (Value.int k)) ∧ Below B w (wr.setCell ⟨g, q, none⟩ (.int k x)) := by
  refine ⟨?_, hnx.setCell hB _⟩
  rw [List.map_set]
  exact (hown.stored q (.int k x)).1

theorem made_ints (k : IntKind) (n : Nat) : (madeCells (Value.int k 0).cells (n * 1)).toList = (List.replicate n 0).map (Value.int k) := by
  rw [Nat.mul_one]
  simpa [Value.cells] using toList_madeCells_one (Value.int k 0) n

theorem row_new (k : IntKind) (w : World) (e : TypeId) (g : Nat) (hg : g = w.heap.size) (zs : List Int) (n : Nat) (hn : zs.length = n) (hm : n ≤ maxLen) (cs : Array Value) (hc : cs = (zs.map (Value.int k)).toArray) :
    Row k (w.alloc (.cells cs e)) (some ⟨g, 0, none⟩) n n zs := by
  subst hg hc
  have h := World.ownsRow_lit (base := 0) (e := e) (size := 1) w (zs.map (Value.int k)).toArray n (Nat.zero_le _) hm (by simp; omega)
  obtain ⟨a, cap, hv, hr⟩ := row_of_owns (zs := zs) (k := k) (by simpa using h)
  simp only [Value.slice.injEq, true_and] at hv
  obtain ⟨rfl, rfl⟩ := hv
  exact hr
theorem below_one (w : World) (o : Obj) : Below w.heap.size w (w.alloc o) := (Below.refl _ _).alloc (Nat.le_refl _) _
theorem below_two (w : World) (o p : Obj) : Below w.heap.size w ((w.alloc o).alloc p) := (below_one w o).alloc (by simp) _
theorem below_three (w : World) (o p q : Obj) : Below w.heap.size w (((w.alloc o).alloc p).alloc q) := (below_two w o p).alloc (by simp; omega) _
theorem below_four (w : World) (o p q r : Obj) : Below w.heap.size w ((((w.alloc o).alloc p).alloc q).alloc r) := (below_three w o p q).alloc (by simp; omega) _

theorem cells_row {k : IntKind} {w : World} {b off len : Nat} {z : List Int} (hl : z.length = len) (hcell : ∀ i, i < len → w.cell? ⟨b, off + i, none⟩ = some (.int k (z[i]?.getD 0))) :
    ∀ j v, (z.map (Value.int k))[j]? = some v → w.cell? ((⟨b, off, none⟩ : Addr).add j) = some v := by
  intro j v hj
  simp only [List.getElem?_map, Option.map_eq_some_iff] at hj
  obtain ⟨n, hn, rfl⟩ := hj
  have hjl : j < z.length := by
    rcases Nat.lt_or_ge j z.length with h | h
    · exact h
    · rw [List.getElem?_eq_none h] at hn; simp at hn
  have := hcell j (by omega)
  rw [hn] at this
  rw [plain_add]
  exact this

/-- 'copy(out, b)', out a new row of b's length. -/
theorem copy_all {P : Program} {k : IntKind} {w0 w : World} {B g len cap : Nat} {dT elem ty : TypeId} {a : Option Addr} {z : List Int} {L : List Value} (hu : P.underlying dT = some (.slice elem)) (hsz : (P.info? elem).map (·.size) = some 1)
    (hg : w.heap[g]? = some (.cells L.toArray elem (0, 0))) (hL : L.length = len) (hr : Row k w a len cap z) (hb : Below B w0 w) (hB : B ≤ g) :
    ∃ w2, Sem.run P (Builtin.copy_ #[dT, dT] ty #[.slice (some ⟨g, 0, none⟩) len len, .slice a len cap]) w = .ok (.int .i64 len) w2 ∧ w2.heap[g]? = some (.cells (z.map (Value.int k)).toArray elem (0, 0)) ∧ Below B w0 w2 := by
  have hl := hr.hlen
  by_cases h0 : len = 0
  · subst h0
    have hz : z = [] := List.eq_nil_of_length_eq_zero hl
    have hL0 : L = [] := List.eq_nil_of_length_eq_zero hL
    refine ⟨w, run_copy_none (P := P) w dT dT ty elem _ a 0 0 0 cap hu hsz (by simp), ?_, hb⟩
    rw [hg, hz, hL0]
    rfl
  · obtain ⟨b, off, rfl, hbs, hcell⟩ := hr.hcell (by omega)
    have hrun := run_copy_row (P := P) w dT dT ty elem g 0 len len ⟨b, off, none⟩ len cap L.toArray elem (z.map (Value.int k)) hu hsz hg (by simp [hl]) (cells_row hl hcell) (by simp; omega) (ints_oneCell _ _)
    have e1 : (L.toArray.toList.take 0 ++ z.map (Value.int k) ++ L.toArray.toList.drop (0 + (z.map (Value.int k)).length)) = z.map (Value.int k) := by
      simp; omega
    rw [e1] at hrun
    refine ⟨_, ?_, setRow_heap w g _ _ elem _ hg, below_setRow hb hB _⟩
    rw [hrun]
    simp [goInt, hl]

/-- 'string(b)' of a row of bytes. -/
theorem conv_row {P : Program} {src dst e : TypeId} (hs : P.underlying src = some (.slice e)) (he : P.underlying e = some (.int .u8)) (hd : P.underlying dst = some .string)
    {w : World} {a : Option Addr} {len cap : Nat} {z : List Int} (hr : Row .u8 w a len cap z) : Sem.run P (Go.convert src dst (.slice a len cap)) w = .ok (.string (strOfNums z)) w := by
  have hl := hr.hlen
  by_cases h0 : len = 0
  · subst h0
    have hz : z = [] := List.eq_nil_of_length_eq_zero hl
    subst hz
    rw [run_convert_bytes_string w src dst e _ 0 cap hs he hd]
    cases a <;> simp [Conv.bytesToString, loadCells]
    all_goals rfl
  · obtain ⟨b, off, rfl, hbs, hcell⟩ := hr.hcell (by omega)
    exact run_convert_bytes_arg w src e hs he b off len cap z hl (fun i hi => by rw [hcell i hi, List.getD_eq_getElem?_getD]) dst hd

/-- 'append(v, x...)', v the call's own, x a row that lies there (nil too). -/
theorem wpList_append_row {P : Program} (w : World) {ops : Array Oper} {rest : List Oper} {o : Oper} {a : Act} {Q : Exit → Act → World → Prop} (hgd : o.guard = none) (s x : Operand) (t : TypeId)
    (ho : o.op = .call { callee := .builtin .append, args := #[s, x], argTypes := #[t, t] })
    (base : Nat) (e : TypeId) (i : TypeInfo) (z : Value) (bytes : Nat) (ht : P.underlying t = some (.slice e)) (hi : P.info? e = some i) (hz : i.zero = some z)
    (hsize : i.size = 1) (hby : i.bytes = bytes) (hzs : z.cells.size = 1)
    (v : Value) (n : Nat) (xs : List Value) (hs : a.eval s = v) (hown : w.ownsRow base e 1 v n xs)
    (k : IntKind) (sa : Option Addr) (m c : Nat) (zs : List Int) (hx : a.eval x = .slice sa m c) (hr : Row k w sa m c zs)
    (h63 : n + m ≤ maxLen) (hbytes : (n + m) * bytes ≤ 140737488355328) (hbase : base ≤ w.heap.size)
    (h : ∀ v' w', w'.ownsRow base e 1 v' (n + m) (xs ++ zs.map (Value.int k)) → w.grownBy w' v.ownBlock → wpList P ops Q rest (a.put o.dst v') w') : wpList P ops Q (o :: rest) a w := by
  cases sa with
  | none =>
    obtain rfl : c = 0 := hr.hnil rfl
    obtain rfl : m = 0 := by have := hr.hcap; omega
    have hz0 : zs = [] := List.eq_nil_of_length_eq_zero hr.hlen
    refine wpList_append_own_none hgd s x t ho base e i 1 ht hi v n xs hs hown hx ?_
    exact h v w (by rw [hz0]; simpa using hown) (World.grownBy.refl w _)
  | some ad =>
    refine wpList_append_own w hgd s x t ho base e i z 1 bytes ht hi hz hsize hby hzs (by decide) v n xs hs hown ad m c (zs.map (Value.int k)) hx (by simp [hr.hlen]) ?_ (ints_oneCell _ _) h63 hbytes hbase fun v' w' h1 h2 _ => h v' w' h1 h2
    intro j u hj
    by_cases h0 : 0 < m
    · obtain ⟨b, off, hab, _, hcell⟩ := hr.hcell h0
      simp only [Option.some.injEq] at hab
      subst hab
      exact cells_row hr.hlen hcell j u hj
    · have hz0 : zs = [] := List.eq_nil_of_length_eq_zero (by rw [hr.hlen]; omega)
      rw [hz0] at hj
      simp at hj

theorem lt_of_cell {w : World} {a : Addr} {v : Value} (h : w.cell? a = some v) : a.block < w.heap.size := by
  rcases Nat.lt_or_ge a.block w.heap.size with h' | h'
  · exact h'
  · simp [World.cell?, Array.getElem?_eq_none h'] at h

/-- What the frame tells of a slice of integers that came in, as a row of its elements. -/
theorem row_of_is {k : IntKind} {w : World} {a : Option Addr} {len cap : Nat} {zs : List Int}
    (h : (a = none ∧ len = 0 ∧ cap = 0 ∧ zs = []) ∨ ∃ x, a = some x ∧ len ≤ cap ∧ cap ≤ maxLen ∧ zs.length = cap ∧ (∀ i, i < zs.length → w.cell? (x.add i) = some (.int k (zs.getD i 0))) ∧ ∀ n ∈ zs, (Lit.int k n).wf = true) :
    Row k w a len cap (zs.take len) ∧ ∀ n ∈ zs.take len, (Lit.int k n).wf = true := by
  rcases h with ⟨rfl, rfl, rfl, rfl⟩ | ⟨x, rfl, hl, hm, hz, hcell, hwz⟩
  · exact ⟨⟨rfl, Nat.le_refl _, Nat.zero_le _, fun _ => rfl, fun h => absurd h (by omega)⟩, by simp⟩
  · refine ⟨⟨by simp; omega, hl, hm, by simp, fun h0 => ?_⟩, fun n hn => hwz n (List.mem_of_mem_take hn)⟩
    obtain ⟨b, off, spot⟩ := x
    have hc := hcell 0 (by omega)
    have hspot : spot = none := by simpa [Addr.add] using World.cell?_spot hc
    subst hspot
    have hb := lt_of_cell hc
    rw [plain_add] at hb
    refine ⟨b, off, rfl, hb, fun i hi => ?_⟩
    have := hcell i (by omega)
    rw [plain_add, List.getD_eq_getElem?_getD] at this
    rw [this, List.getElem?_take, if_pos hi]

/-- Equal strings of bytes are equal rows. -/
theorem strOfNums_inj {a b : List Int} (ha : ∀ n ∈ a, 0 ≤ n ∧ n ≤ 255) (hb : ∀ n ∈ b, 0 ≤ n ∧ n ≤ 255) (h : strOfNums a = strOfNums b) : a = b := by
  have h1 : (a.map fun n => UInt8.ofNat n.toNat) = b.map fun n => UInt8.ofNat n.toNat := by
    rw [← strOfNums_data, ← strOfNums_data, h]
  have hl : a.length = b.length := by simpa using congrArg List.length h1
  apply List.ext_getElem hl
  intro i hi hi'
  have h2 := congrArg (fun l => l[i]?) h1
  simp only [List.getElem?_map, List.getElem?_eq_getElem hi, List.getElem?_eq_getElem hi', Option.map_some, Option.some.injEq] at h2
  have h3 := ha _ (List.getElem_mem hi)
  have h4 := hb _ (List.getElem_mem hi')
  have h5 := congrArg UInt8.toNat h2
  simp only [UInt8.toNat_ofNat'] at h5
  omega

end Go.Proofs.YthangiocheodoaaGreatDoor

/-
  The plain mathematics of bits of bytes (lists of integers from 0 to 255): no program text is imported here.
-/
namespace Go.Proofs.YthangiocheodoaaGreatDoor

/-- The bit of weight 2^k of c. -/
def bitAt (c : Int) (k : Nat) : Int := c / 2 ^ k % 2
/-- The bit i of a row of bytes. -/
def bitI (z : List Int) (i : Nat) : Int := bitAt (z[i / 8]?.getD 0) (i % 8)
/-- All numbers are bytes. -/
def IsB (z : List Int) : Prop := ∀ n ∈ z, 0 ≤ n ∧ n ≤ 255
/-- The bit k of c turned. -/
def flipB (c : Int) (k : Nat) : Int := if bitAt c k = 1 then c - 2 ^ k else c + 2 ^ k
def turn1 (z : List Int) (p : Nat) : List Int := z.set (p / 8) (flipB (z[p / 8]?.getD 0) (p % 8))
def turnI (z : List Int) (ps : List Int) : List Int := ps.foldl (fun z p => turn1 z p.toNat) z
/-- Is i met an odd number of times? -/
def oddN (ps : List Int) (i : Nat) : Bool := ps.foldl (fun b p => if p.toNat = i then !b else b) false
/-- The bits, up to n, in which two rows are unlike. -/
def apartTo (a b : List Int) (n : Nat) : List Int := ((List.range n).filter fun j => bitI a j != bitI b j).map Int.ofNat
/-- The bits up to n. -/
def bitsTo (z : List Int) (n : Nat) : List Int := (List.range n).map (bitI z)
/-- How many of the first n bits are 1. -/
def onesTo (z : List Int) (n : Nat) : Int := ((List.range n).map (bitI z)).sum
/-- All places are there. -/
def inAll (n : Nat) (ps : List Int) : Prop := ∀ p ∈ ps, 0 ≤ p ∧ p < 8 * (n : Int)

theorem bitAt_01 (c : Int) (k : Nat) : bitAt c k = 0 ∨ bitAt c k = 1 := by unfold bitAt; omega
theorem bitI_01 (z : List Int) (i : Nat) : bitI z i = 0 ∨ bitI z i = 1 := bitAt_01 _ _

theorem fin_flip_same : ∀ c : Fin 256, ∀ k : Fin 8, bitAt (flipB (c.val : Int) k.val) k.val = 1 - bitAt (c.val : Int) k.val := by decide +kernel
theorem fin_flip_other : ∀ c : Fin 256, ∀ k : Fin 8, ∀ j : Fin 8, j ≠ k → bitAt (flipB (c.val : Int) k.val) j.val = bitAt (c.val : Int) j.val := by decide +kernel
theorem fin_flip_range : ∀ c : Fin 256, ∀ k : Fin 8, 0 ≤ flipB (c.val : Int) k.val ∧ flipB (c.val : Int) k.val ≤ 255 := by decide +kernel
theorem fin_sum : ∀ c : Fin 256, (c.val : Int) = bitAt c.val 0 + 2 * bitAt c.val 1 + 4 * bitAt c.val 2 + 8 * bitAt c.val 3 + 16 * bitAt c.val 4 + 32 * bitAt c.val 5 + 64 * bitAt c.val 6 + 128 * bitAt c.val 7 := by decide +kernel
theorem fin_part : ∀ c : Fin 256, ∀ k : Fin 8, (c.val : Int) % 2 ^ (k.val + 1) = (c.val : Int) % 2 ^ k.val + 2 ^ k.val * bitAt c.val k.val := by decide +kernel

theorem of_fin {P : Int → Prop} (h : ∀ c : Fin 256, P (c.val : Int)) (c : Int) (h0 : 0 ≤ c) (h1 : c ≤ 255) : P c := by
  have := h ⟨c.toNat, by omega⟩
  rwa [show ((c.toNat : Nat) : Int) = c from by omega] at this

theorem flip_same (c : Int) (k : Nat) (h0 : 0 ≤ c) (h1 : c ≤ 255) (hk : k < 8) : bitAt (flipB c k) k = 1 - bitAt c k :=
  of_fin (P := fun c => bitAt (flipB c k) k = 1 - bitAt c k) (fun c => fin_flip_same c ⟨k, hk⟩) c h0 h1
theorem flip_other (c : Int) (k j : Nat) (h0 : 0 ≤ c) (h1 : c ≤ 255) (hk : k < 8) (hj : j < 8) (hne : j ≠ k) : bitAt (flipB c k) j = bitAt c j :=
  of_fin (P := fun c => bitAt (flipB c k) j = bitAt c j) (fun c => fin_flip_other c ⟨k, hk⟩ ⟨j, hj⟩ (by simpa using hne)) c h0 h1
theorem flip_range (c : Int) (k : Nat) (h0 : 0 ≤ c) (h1 : c ≤ 255) (hk : k < 8) : 0 ≤ flipB c k ∧ flipB c k ≤ 255 :=
  of_fin (P := fun c => 0 ≤ flipB c k ∧ flipB c k ≤ 255) (fun c => fin_flip_range c ⟨k, hk⟩) c h0 h1
theorem byte_ext (c d : Int) (h0 : 0 ≤ c) (h1 : c ≤ 255) (g0 : 0 ≤ d) (g1 : d ≤ 255) (h : ∀ k, k < 8 → bitAt c k = bitAt d k) : c = d := by
  have e1 := of_fin (P := fun c => c = bitAt c 0 + 2 * bitAt c 1 + 4 * bitAt c 2 + 8 * bitAt c 3 + 16 * bitAt c 4 + 32 * bitAt c 5 + 64 * bitAt c 6 + 128 * bitAt c 7) fin_sum c h0 h1
  have e2 := of_fin (P := fun c => c = bitAt c 0 + 2 * bitAt c 1 + 4 * bitAt c 2 + 8 * bitAt c 3 + 16 * bitAt c 4 + 32 * bitAt c 5 + 64 * bitAt c 6 + 128 * bitAt c 7) fin_sum d g0 g1
  have := h 0 (by omega); have := h 1 (by omega); have := h 2 (by omega); have := h 3 (by omega); have := h 4 (by omega); have := h 5 (by omega); have := h 6 (by omega); have := h 7 (by omega)
  omega
theorem byte_part (c : Int) (k : Nat) (h0 : 0 ≤ c) (h1 : c ≤ 255) (hk : k < 8) : c % 2 ^ (k + 1) = c % 2 ^ k + 2 ^ k * bitAt c k :=
  of_fin (P := fun c => c % 2 ^ (k + 1) = c % 2 ^ k + 2 ^ k * bitAt c k) (fun c => fin_part c ⟨k, hk⟩) c h0 h1

theorem IsB.idx {z : List Int} (h : IsB z) (i : Nat) : 0 ≤ z[i]?.getD 0 ∧ z[i]?.getD 0 ≤ 255 := by
  by_cases hi : i < z.length
  · rw [List.getElem?_eq_getElem hi]; exact h _ (List.getElem_mem hi)
  · rw [List.getElem?_eq_none (by omega)]; simp

theorem length_turn1 (z : List Int) (p : Nat) : (turn1 z p).length = z.length := by simp [turn1]
theorem length_turnI (z ps : List Int) : (turnI z ps).length = z.length := by
  unfold turnI
  induction ps generalizing z with
  | nil => rfl
  | cons p ps ih => simp only [List.foldl_cons]; rw [ih, length_turn1]

theorem isB_turn1 {z : List Int} (h : IsB z) (p : Nat) : IsB (turn1 z p) := by
  intro n hn
  unfold turn1 at hn
  rcases List.mem_or_eq_of_mem_set hn with hn | rfl
  · exact h n hn
  · exact flip_range _ _ (h.idx _).1 (h.idx _).2 (by omega)
theorem isB_turnI {z : List Int} (h : IsB z) (ps : List Int) : IsB (turnI z ps) := by
  unfold turnI
  induction ps generalizing z with
  | nil => exact h
  | cons p ps ih => exact ih (isB_turn1 h _)

theorem bitI_turn1 {z : List Int} (h : IsB z) (p i : Nat) (hp : p < 8 * z.length) (hi : i < 8 * z.length) : bitI (turn1 z p) i = if p = i then 1 - bitI z i else bitI z i := by
  unfold bitI turn1
  rw [List.getElem?_set]
  by_cases e : p / 8 = i / 8
  · rw [if_pos e, if_pos (by omega)]
    simp only [Option.getD_some]
    by_cases e' : p = i
    · subst e'
      rw [if_pos rfl, flip_same _ _ (h.idx _).1 (h.idx _).2 (by omega)]
    · rw [if_neg e', flip_other _ _ _ (h.idx _).1 (h.idx _).2 (by omega) (by omega) (by omega), e]
  · rw [if_neg e, if_neg (fun e' => e (by rw [e']))]

theorem turnI_snoc (z ps : List Int) (p : Int) : turnI z (ps ++ [p]) = turn1 (turnI z ps) p.toNat := by simp [turnI]
theorem oddN_snoc (ps : List Int) (p : Int) (i : Nat) : oddN (ps ++ [p]) i = if p.toNat = i then !oddN ps i else oddN ps i := by simp [oddN]

theorem take_snoc (ps : List Int) (k : Nat) (h : k < ps.length) : ps.take (k + 1) = ps.take k ++ [ps[k]?.getD 0] := by
  rw [List.take_add_one, List.getElem?_eq_getElem h]; rfl

theorem inAll.idx {n : Nat} {ps : List Int} (h : inAll n ps) (k : Nat) (hk : k < ps.length) : 0 ≤ ps[k]?.getD 0 ∧ ps[k]?.getD 0 < 8 * (n : Int) := by
  rw [List.getElem?_eq_getElem hk]; exact h _ (List.getElem_mem hk)

theorem bitI_turnI {z : List Int} (h : IsB z) (ps : List Int) (hp : inAll z.length ps) (i : Nat) (hi : i < 8 * z.length) :
    bitI (turnI z ps) i = if oddN ps i = true then 1 - bitI z i else bitI z i := by
  have key : ∀ k, k ≤ ps.length → bitI (turnI z (ps.take k)) i = if oddN (ps.take k) i = true then 1 - bitI z i else bitI z i := by
    intro k
    induction k with
    | zero => intro _; simp [turnI, oddN]
    | succ k ih =>
      intro hk
      have ih := ih (by omega)
      have hb := hp.idx k (by omega)
      rw [take_snoc ps k (by omega), turnI_snoc, oddN_snoc, bitI_turn1 (isB_turnI h _) _ _ (by rw [length_turnI]; omega) (by rw [length_turnI]; exact hi), ih]
      by_cases e : (ps[k]?.getD 0).toNat = i
      · rw [if_pos e, if_pos e]
        cases oddN (ps.take k) i
        · simp
        · simp; omega
      · rw [if_neg e, if_neg e]
  have := key ps.length (Nat.le_refl _)
  rwa [List.take_length] at this

theorem bytes_ext {a b : List Int} (ha : IsB a) (hb : IsB b) (hl : a.length = b.length) (h : ∀ i, i < 8 * a.length → bitI a i = bitI b i) : a = b := by
  apply List.ext_getElem hl
  intro j h1 h2
  have e1 : a[j]?.getD 0 = a[j] := by rw [List.getElem?_eq_getElem h1]; rfl
  have e2 : b[j]?.getD 0 = b[j] := by rw [List.getElem?_eq_getElem h2]; rfl
  rw [← e1, ← e2]
  refine byte_ext _ _ (ha.idx j).1 (ha.idx j).2 (hb.idx j).1 (hb.idx j).2 fun k hk => ?_
  have := h (8 * j + k) (by omega)
  unfold bitI at this
  rwa [show (8 * j + k) / 8 = j from by omega, show (8 * j + k) % 8 = k from by omega] at this

theorem onesTo_succ (z : List Int) (n : Nat) : onesTo z (n + 1) = onesTo z n + bitI z n := by simp [onesTo, List.range_succ]
theorem onesTo_zero (z : List Int) : onesTo z 0 = 0 := rfl
theorem onesTo_bd (z : List Int) (n : Nat) : 0 ≤ onesTo z n ∧ onesTo z n ≤ n := by
  induction n with
  | zero => rw [onesTo_zero]; omega
  | succ n ih => rw [onesTo_succ]; have := bitI_01 z n; omega
theorem bitsTo_succ (z : List Int) (n : Nat) : bitsTo z (n + 1) = bitsTo z n ++ [bitI z n] := by simp [bitsTo, List.range_succ]
theorem length_bitsTo (z : List Int) (n : Nat) : (bitsTo z n).length = n := by simp [bitsTo]
theorem bitsTo_at (z : List Int) (n i : Nat) (h : i < n) : (bitsTo z n)[i]?.getD 0 = bitI z i := by simp [bitsTo, h]
theorem apartTo_hit (a b : List Int) (n : Nat) (h : bitI a n ≠ bitI b n) : apartTo a b (n + 1) = apartTo a b n ++ [(n : Int)] := by
  simp [apartTo, List.range_succ, List.filter_append, h]
theorem apartTo_miss (a b : List Int) (n : Nat) (h : bitI a n = bitI b n) : apartTo a b (n + 1) = apartTo a b n := by
  simp [apartTo, List.range_succ, List.filter_append, h]
theorem apartTo_le (a b : List Int) (n : Nat) : (apartTo a b n).length ≤ n := by
  have := List.length_filter_le (fun j => bitI a j != bitI b j) (List.range n)
  simpa [apartTo] using this
theorem mem_apartTo (a b : List Int) (n : Nat) (p : Int) : p ∈ apartTo a b n ↔ 0 ≤ p ∧ p < n ∧ bitI a p.toNat ≠ bitI b p.toNat := by
  simp only [apartTo, List.mem_map, List.mem_filter, List.mem_range, bne_iff_ne]
  constructor
  · rintro ⟨j, ⟨h1, h2⟩, rfl⟩
    exact ⟨by simp, by simpa using h1, by simpa using h2⟩
  · rintro ⟨h0, h1, h2⟩
    exact ⟨p.toNat, ⟨by omega, h2⟩, by simp; omega⟩
theorem inAll_apartTo (a b : List Int) (n : Nat) : inAll n (apartTo a b (8 * n)) := by
  intro p hp
  have := (mem_apartTo a b (8 * n) p).1 hp
  omega

/-- Of a rising list of numbers below n each is met once. -/
theorem oddN_apartTo (a b : List Int) (n i : Nat) : oddN (apartTo a b n) i = (decide (i < n) && (bitI a i != bitI b i)) := by
  induction n with
  | zero => simp [apartTo, oddN]
  | succ n ih =>
    by_cases h : bitI a n = bitI b n
    · rw [apartTo_miss a b n h, ih]
      by_cases e : i = n
      · subst e; simp [h]
      · by_cases l : i < n
        · simp [l, show i < n + 1 from by omega]
        · simp [l, show ¬ i < n + 1 from by omega]
    · rw [apartTo_hit a b n h, oddN_snoc, ih]
      by_cases e : i = n
      · subst e; simp [h]
      · rw [if_neg (by simp; omega)]
        by_cases l : i < n
        · simp [l, show i < n + 1 from by omega]
        · simp [l, show ¬ i < n + 1 from by omega]

/-- What is turned by the list of what is unlike becomes the other. -/
theorem turn_apart {a b : List Int} (ha : IsB a) (hb : IsB b) (hl : a.length = b.length) : turnI a (apartTo a b (8 * a.length)) = b := by
  refine bytes_ext (isB_turnI ha _) hb (by rw [length_turnI]; exact hl) fun i hi => ?_
  rw [length_turnI] at hi
  rw [bitI_turnI ha _ (inAll_apartTo a b a.length) i hi, oddN_apartTo]
  have h1 := bitI_01 a i
  have h2 := bitI_01 b i
  by_cases e : bitI a i = bitI b i
  · simp [e]
  · simp [hi, e]; omega

/-- What is turned twice is as it was. -/
theorem turn_twice {z : List Int} (h : IsB z) (ps : List Int) (hp : inAll z.length ps) : turnI (turnI z ps) ps = z := by
  refine bytes_ext (isB_turnI (isB_turnI h _) _) h (by rw [length_turnI, length_turnI]) fun i hi => ?_
  rw [length_turnI, length_turnI] at hi
  rw [bitI_turnI (isB_turnI h _) ps (by rw [length_turnI]; exact hp) i (by rw [length_turnI]; exact hi), bitI_turnI h ps hp i hi]
  have := bitI_01 z i
  split <;> omega

theorem set_bitsTo {z : List Int} (h : IsB z) (p : Nat) (hp : p < 8 * z.length) : (bitsTo z (8 * z.length)).set p (1 - bitI z p) = bitsTo (turn1 z p) (8 * z.length) := by
  apply List.ext_getElem
  · simp [length_bitsTo]
  · intro i h1 h2
    simp only [List.length_set, length_bitsTo] at h1
    rw [List.getElem_set]
    simp only [bitsTo, List.getElem_map, List.getElem_range]
    rw [bitI_turn1 h p i hp h1]
    by_cases e : p = i
    · subst e; simp
    · simp [e]

/-- What 'Put' holds behind the first i bits. -/
def putTo (z : List Int) (i : Nat) : List Int := (List.range z.length).map fun j => (z[j]?.getD 0) % 2 ^ (min 8 (i - 8 * j))

theorem length_putTo (z : List Int) (i : Nat) : (putTo z i).length = z.length := by simp [putTo]
theorem putTo_zero (z : List Int) : putTo z 0 = List.replicate z.length 0 := by
  apply List.ext_getElem
  · simp [putTo]
  · intro j h1 h2
    simp [putTo, Int.emod_one]
theorem putTo_at (z : List Int) (i j : Nat) (hj : j < z.length) : (putTo z i)[j]?.getD 0 = (z[j]?.getD 0) % 2 ^ (min 8 (i - 8 * j)) := by simp [putTo, hj]
theorem putTo_end {z : List Int} (h : IsB z) : putTo z (8 * z.length) = z := by
  apply List.ext_getElem
  · simp [putTo]
  · intro j h1 h2
    simp only [putTo, List.getElem_map, List.getElem_range]
    rw [show min 8 (8 * z.length - 8 * j) = 8 from by omega]
    have := h.idx j
    rw [List.getElem?_eq_getElem h2] at *
    simp only [Option.getD_some] at *
    omega
theorem putTo_succ {z : List Int} (h : IsB z) (i : Nat) (hi : i < 8 * z.length) : putTo z (i + 1) = (putTo z i).set (i / 8) ((putTo z i)[i / 8]?.getD 0 + 2 ^ (i % 8) * bitI z i) := by
  apply List.ext_getElem
  · simp [putTo]
  · intro j h1 h2
    simp only [length_putTo] at h1
    have e0 := putTo_at z i (i / 8) (by omega)
    rw [List.getElem_set]
    by_cases e : i / 8 = j
    · subst e
      rw [if_pos rfl, e0]
      simp only [putTo, List.getElem_map, List.getElem_range]
      rw [show min 8 (i + 1 - 8 * (i / 8)) = i % 8 + 1 from by omega, show min 8 (i - 8 * (i / 8)) = i % 8 from by omega]
      exact byte_part _ _ (h.idx _).1 (h.idx _).2 (by omega)
    · rw [if_neg e]
      simp only [putTo, List.getElem_map, List.getElem_range]
      rw [show min 8 (i + 1 - 8 * j) = min 8 (i - 8 * j) from by omega]

end Go.Proofs.YthangiocheodoaaGreatDoor

/-
  Layer 1: the contracts of bits and of its reference, over the seat's program: each returns what the plain functions give; nothing old turns.
-/
namespace Go.Proofs.YthangiocheodoaaGreatDoor
open Go.RowKit
set_option linter.unusedVariables false
set_option maxRecDepth 8192

theorem Tryz.info3 : (Tryz.prog.info? 3).map (fun i => (i.zero, i.size, i.bytes)) = some (some (.int .i64 0), 1, 8) := by kernel_rfl
theorem Tryz.info5 : (Tryz.prog.info? 5).map (fun i => (i.zero, i.size, i.bytes)) = some (some (.int .u8 0), 1, 1) := by kernel_rfl

/-- Is there a bit i? -/
def hasB (len : Nat) (i : Int) : Bool := decide (0 ≤ i ∧ i < 8 * (len : Int))

theorem fin_and1 : ∀ c : Fin 256, bits BinOp.and IntKind.i64 (c.val : Int) 1 = (c.val : Int) % 2 := by decide +kernel

theorem shr_le (c : Int) (k : Nat) (h0 : 0 ≤ c) (h1 : c ≤ 255) : 0 ≤ c / 2 ^ k ∧ c / 2 ^ k ≤ 255 := by
  have hp : (0 : Int) < 2 ^ k := Int.pow_pos (by decide)
  refine ⟨Int.ediv_nonneg h0 (by omega), ?_⟩
  have := Int.ediv_le_self (a := c) (2 ^ k) h0
  omega

theorem and_bit (c : Int) (k : Nat) (h0 : 0 ≤ c) (h1 : c ≤ 255) : bits BinOp.and IntKind.i64 (c / 2 ^ k) 1 = bitAt c k :=
  of_fin (P := fun c => bits BinOp.and IntKind.i64 c 1 = c % 2) fin_and1 _ (shr_le c k h0 h1).1 (shr_le c k h0 h1).2

/-- The reference's At: the loop halves i % 8 times. -/
theorem half_step (c : Int) (k : Nat) : c / 2 ^ k / 2 = c / 2 ^ (k + 1) := by
  rw [Int.ediv_ediv_of_nonneg (Int.le_of_lt (Int.pow_pos (by decide))), Int.pow_succ]

theorem ones_step (z : List Int) (i k : Nat) (hk : k < 8) : onesTo z (8 * i + k) + bitAt (z[i]?.getD 0) k = onesTo z (8 * i + (k + 1)) := by
  rw [show 8 * i + (k + 1) = 8 * i + k + 1 from by omega, onesTo_succ]
  unfold bitI
  rw [show (8 * i + k) / 8 = i from by omega, show (8 * i + k) % 8 = k from by omega]

/-- Are all places there? -/
def inB (len : Nat) (ps : List Int) : Bool := ps.all (hasB len)

theorem inB_iff (len : Nat) (ps : List Int) : inB len ps = true ↔ inAll len ps := by
  unfold inB inAll hasB; simp

theorem inB_false (len : Nat) (ps : List Int) (k : Nat) (hk : k < ps.length) (h : hasB len (ps[k]?.getD 0) = false) : inB len ps = false := by
  rw [← Bool.not_eq_true, inB_iff]
  intro hin
  have := hin.idx k hk
  unfold hasB at h
  simp at h
  omega

theorem hasB_true {len : Nat} {i : Int} (h : hasB len i = true) : 0 ≤ i ∧ i < 8 * (len : Int) := by unfold hasB at h; simpa using h

theorem hasB_false {len : Nat} {i : Int} (h : hasB len i = false) : i < 0 ∨ 8 * (len : Int) ≤ i := by unfold hasB at h; simp at h; omega

theorem bitAt_nat (n k : Nat) : bitAt (n : Int) k = ((n / 2 ^ k % 2 : Nat) : Int) := by
  unfold bitAt; simp

theorem xor_range (x y : Int) (h0 : 0 ≤ x) (h1 : x ≤ 255) (g0 : 0 ≤ y) (g1 : y ≤ 255) : 0 ≤ bits .xor .u8 x y ∧ bits .xor .u8 x y ≤ 255 := by
  rw [u8_xor x y h0 (by omega) g0 (by omega)]
  have := @Nat.xor_lt_two_pow x.toNat y.toNat 8 (by omega) (by omega)
  omega

theorem xor_bit (x y : Int) (h0 : 0 ≤ x) (h1 : x ≤ 255) (g0 : 0 ≤ y) (g1 : y ≤ 255) (k : Nat) : (bitAt (bits .xor .u8 x y) k == 1) = (bitAt x k != bitAt y k) := by
  rw [u8_xor x y h0 (by omega) g0 (by omega)]
  have ex : x = (x.toNat : Int) := by omega
  have ey : y = (y.toNat : Int) := by omega
  rw [ex, ey]
  generalize x.toNat = m
  generalize y.toNat = n
  simp only [Int.toNat_natCast, bitAt_nat]
  have hx := Nat.testBit_xor m n k
  simp only [Nat.testBit_eq_decide_div_mod_eq] at hx
  have e1 : (m ^^^ n) / 2 ^ k % 2 = 0 ∨ (m ^^^ n) / 2 ^ k % 2 = 1 := by omega
  have e2 : m / 2 ^ k % 2 = 0 ∨ m / 2 ^ k % 2 = 1 := by omega
  have e3 : n / 2 ^ k % 2 = 0 ∨ n / 2 ^ k % 2 = 1 := by omega
  rcases e1 with e1 | e1 <;> rcases e2 with e2 | e2 <;> rcases e3 with e3 | e3 <;> rw [e1, e2, e3] at hx ⊢ <;> simp at hx ⊢

theorem bitI_at (z : List Int) (i k : Nat) (hk : k < 8) : bitI z (8 * i + k) = bitAt (z[i]?.getD 0) k := by
  unfold bitI
  rw [show (8 * i + k) / 8 = i from by omega, show (8 * i + k) % 8 = k from by omega]

theorem fin_xor : ∀ c : Fin 256, ∀ k : Fin 8, bits BinOp.xor IntKind.u8 (c.val : Int) (2 ^ k.val % 256) = flipB (c.val : Int) k.val := by decide +kernel

theorem xor_flip (c : Int) (k : Nat) (h0 : 0 ≤ c) (h1 : c ≤ 255) (hk : k < 8) : bits BinOp.xor IntKind.u8 c (2 ^ k % 256) = flipB c k :=
  of_fin (P := fun c => bits BinOp.xor IntKind.u8 c (2 ^ k % 256) = flipB c k) (fun c => fin_xor c ⟨k, hk⟩) c h0 h1

theorem pow_step (k : Nat) : (2 : Int) * 2 ^ k = 2 ^ (k + 1) := by rw [Int.pow_succ]; omega

theorem pow_bd (k : Nat) (hk : k ≤ 7) : (1 : Int) ≤ 2 ^ k ∧ (2 : Int) ^ k ≤ 128 := by
  have : ∀ k : Fin 8, (1 : Int) ≤ 2 ^ k.val ∧ (2 : Int) ^ k.val ≤ 128 := by decide
  exact this ⟨k, by omega⟩

theorem fin_mod : ∀ c : Fin 256, ∀ k : Fin 9, 0 ≤ (c.val : Int) % 2 ^ k.val ∧ (c.val : Int) % 2 ^ k.val ≤ 255 := by decide +kernel

theorem byte_mod (c : Int) (k : Nat) (h0 : 0 ≤ c) (h1 : c ≤ 255) (hk : k ≤ 8) : 0 ≤ c % 2 ^ k ∧ c % 2 ^ k ≤ 255 :=
  of_fin (P := fun c => 0 ≤ c % 2 ^ k ∧ c % 2 ^ k ≤ 255) (fun c => fin_mod c ⟨k, by omega⟩) c h0 h1

theorem put_val {z : List Int} (h : IsB z) (i : Nat) (hi : i < 8 * z.length) : ((putTo z i)[i / 8]?.getD 0 + wrap64 (2 ^ (i % 8) * bitI z i)) % 256 = (putTo z i)[i / 8]?.getD 0 + 2 ^ (i % 8) * bitI z i := by
  rw [putTo_at z i (i / 8) (by omega), show min 8 (i - 8 * (i / 8)) = i % 8 from by omega]
  have hz := h.idx (i / 8)
  have e := byte_part _ (i % 8) hz.1 hz.2 (by omega)
  have m := byte_mod _ (i % 8 + 1) hz.1 hz.2 (by omega)
  have p := pow_bd (i % 8) (by omega)
  have hw : wrap64 (2 ^ (i % 8) * bitI z i) = 2 ^ (i % 8) * bitI z i := by
    rcases bitI_01 z i with b | b <;> rw [b]
    · rw [Int.mul_zero]; exact IntWalk.wrap64_in _ ⟨by omega, by omega⟩
    · rw [Int.mul_one]; exact IntWalk.wrap64_in _ ⟨by omega, by omega⟩
  rw [hw]
  unfold bitI
  rw [← e]
  omega

end Go.Proofs.YthangiocheodoaaGreatDoor

/-
  Regions that draw their order, whose operations read and whose calls leave what is old: the reads are taken first, in batches; then the one call that may come up; and on. No order is branched over.
-/
namespace Go.Proofs.YthangiocheodoaaGreatDoor
open Go Go.RowKit
set_option linter.unusedVariables false
set_option maxRecDepth 8192

/-- Nothing that w had has turned. -/
def Since (w w' : World) : Prop := Below w.heap.size w w'
theorem Since.refl (w : World) : Since w w := Below.refl _ _
theorem Since.drew (w : World) : Since w w.drew := (Below.refl _ _).drew
theorem Since.trans {a b c : World} (h : Since a b) (k : Since b c) : Since a c := Below.trans h (k.mono h.size)

section
variable {P : Program} {ops : Array Oper} {Q : Exit → Act → World → Prop} {md : Region.Mode} {S S' : World → Prop}

/-- A stronger condition serves. -/
theorem held_strong (h : ∀ w, S' w → S w) : ∀ (fuel : Nat) (listed : Array Bool) (a : Act) (w : World), wpAnyH P md ops Q S' fuel listed a w → wpAnyH P md ops Q S fuel listed a w
  | 0, _, _, _, hh => hh
  | fuel + 1, _, _, _, hh => ⟨hh.1, fun i hi => wpOp_mono (fun a' w' h' => ⟨h _ h'.1, held_strong h fuel _ a' w' h'.2⟩) (hh.2 i hi)⟩

/-- Each of these may come up in its turn, and nobody who could come before it touches its temporaries. -/
def batchB (md : Region.Mode) (ops : Array Oper) : List Nat → Array Bool → Bool
  | [], _ => true
  | i :: rs, listed => Region.free md ops listed i && ((Region.ready md ops listed).contains i && batchB md ops rs (listed.setIfInBounds i true))
def marked : List Nat → Array Bool → Array Bool
  | [], listed => listed
  | i :: rs, listed => marked rs (listed.setIfInBounds i true)

/-- The reads of a batch, one behind the other: each yields its value in every world that meets S. -/
def wpCalm (P : Program) (ops : Array Oper) (S : World → Prop) (K : Act → Prop) : List Nat → Act → Prop
  | [], a => K a
  | i :: rs, a => ∃ o v, ops[i]? = some o ∧ YieldsIf P ops S o v a ∧ wpCalm P ops S K rs (a.put o.dst v)

theorem calm_nil {K : Act → Prop} {a : Act} (h : K a) : wpCalm P ops S K [] a := h
/-- An operation that is wanted. -/
theorem calm_do {K : Act → Prop} {i : Nat} {rs : List Nat} {a : Act} {o : Oper} (v : Value) (ho : ops[i]? = some o) (hw : Region.wanted o (yielded ops a.tmps) = true)
    (hv : ∀ w, S w → (execOp a.eval o).run P w = .ok (.value v) w) (h : wpCalm P ops S K rs (a.put o.dst v)) : wpCalm P ops S K (i :: rs) a :=
  ⟨o, v, ho, .inl ⟨hw, hv⟩, h⟩
/-- A copy. -/
theorem calm_move {K : Act → Prop} {i : Nat} {rs : List Nat} {a : Act} {o : Oper} (x : Operand) (ho : ops[i]? = some o) (hw : Region.wanted o (yielded ops a.tmps) = true)
    (hop : o.op = .move x) (h : wpCalm P ops S K rs (a.put o.dst (a.eval x))) : wpCalm P ops S K (i :: rs) a :=
  calm_do _ ho hw (fun w _ => BigFrame.run_move x hop w) h
theorem calm_assign {K : Act → Prop} {i : Nat} {rs : List Nat} {a : Act} {o : Oper} (x : Operand) (ho : ops[i]? = some o) (hw : Region.wanted o (yielded ops a.tmps) = true)
    (hop : o.op = .assign x) (h : wpCalm P ops S K rs (a.put o.dst (a.eval x))) : wpCalm P ops S K (i :: rs) a :=
  calm_do _ ho hw (fun w _ => BigFrame.run_assign x hop w) h
/-- An operation that is not wanted. -/
theorem calm_skip {K : Act → Prop} {i : Nat} {rs : List Nat} {a : Act} {o : Oper} (ho : ops[i]? = some o) (hw : Region.wanted o (yielded ops a.tmps) = false)
    (h : wpCalm P ops S K rs (a.put o.dst undef)) : wpCalm P ops S K (i :: rs) a :=
  ⟨o, undef, ho, .inr ⟨hw, rfl⟩, h⟩

/-- A batch of reads. -/
theorem held_batch (hs : Region.noSelect ops = true) (hQ : ∀ c d v a w, Q (.panic c) (Act.put a d v) w → Q (.panic c) a w) :
    ∀ (rs : List Nat) (fuel : Nat) (listed : Array Bool) (a : Act) (w : World), batchB md ops rs listed = true → S w →
      wpCalm P ops S (fun a' => wpAnyH P md ops Q S fuel (marked rs listed) a' w) rs a → wpAnyH P md ops Q S (fuel + rs.length) listed a w
  | [], fuel, listed, a, w, _, _, h => h
  | i :: rs, fuel, listed, a, w, hb, hS, h => by
    simp only [batchB, Bool.and_eq_true] at hb
    obtain ⟨o, v, ho, hy, hk⟩ := h
    exact wpAnyH_take (fuel := fuel + rs.length) ho hs hb.1 hb.2.1 (fun c a w => hQ c _ _ a w) hy hS (held_batch hs hQ rs fuel _ _ w hb.2.2 hS hk)

/-- The same, what follows behind a variable. -/
theorem held_reads {rs : List Nat} {fuel : Nat} {listed : Array Bool} {a : Act} {w : World} (hs : Region.noSelect ops = true) (hQ : ∀ c d v a w, Q (.panic c) (Act.put a d v) w → Q (.panic c) a w)
    (hb : batchB md ops rs listed = true) (hS : S w) (h : ∀ K : Act → Prop, Hid (∀ a', wpAnyH P md ops Q S fuel (marked rs listed) a' w → K a') → wpCalm P ops S K rs a) :
    wpAnyH P md ops Q S (fuel + rs.length) listed a w :=
  held_batch hs hQ rs fuel listed a w hb hS (h _ (fun _ h => h))

/-- The one operation that may come up (a call): behind it the condition is that nothing which stands there turns. -/
theorem held_call {w0 : World} {i : Nat} {o : Oper} {fuel : Nat} {listed : Array Bool} {a : Act} {w : World} (hr : Region.ready md ops listed = [i]) (ho : ops[i]? = some o)
    (hw : Region.wanted o (yielded ops a.tmps) = true)
    (h : ∀ K' : Act → World → Prop, (∀ a w1, Since w0 w1 → wpAnyH P md ops Q (Since w1) fuel (listed.setIfInBounds i true) a w1 → K' a w1) → Oper.wp P o a w K' Q) :
    wpAnyH P md ops Q (Since w0) (fuel + 1) listed a w := by
  refine wpAnyH_all hr (by simp) fun j hj => ?_
  simp only [List.mem_singleton] at hj
  subst hj
  refine wpOp_step ho fun K' hK => ?_
  rw [if_pos hw]
  exact h K' fun a w1 hs hh => hK a w1 ⟨hs, held_strong (fun _ h' => hs.trans h') _ _ _ _ hh⟩

/-- The beginning. -/
theorem held_begin {id : Nat} {a : Act} {w : World} (hm : P.follows .mixedOrders = true)
    (h : wpAnyH P .any ops Q (Since w) ops.size (Array.replicate ops.size false) a w.drew) : (Code.region id ops true).wp P Q a w :=
  wp_region_held hm h
end

end Go.Proofs.YthangiocheodoaaGreatDoor
