/-
  Layer 20: a list of bytes that grows, from a literal's bytes on.
-/
import Derived.Test.YtagppgdigabbmaaManBase
import Derived.ArgAppend
import Derived.Lib.SlBytesConst
namespace Go.Proofs.Ytagppgdigabbmaa.N
open Go.RowKit
set_option linter.unusedVariables false
set_option maxRecDepth 8192

/-- A row of a literal's bytes, with the run-time's mark behind it. -/
theorem row_marked (k : IntKind) (w : World) (e : TypeId) (fr : Nat × Nat) (zs : List Int) (n : Nat) (hn : zs.length = n) (hm : n ≤ maxLen) (cs : Array Value) (hc : cs = (zs.map (Value.int k)).toArray) :
    Row k (w.alloc (.cells cs e fr)) (some ⟨w.heap.size, 0, none⟩) n n zs := by
  subst hc
  refine ⟨hn, Nat.le_refl _, hm, (fun h => by cases h), fun _ => ⟨w.heap.size, 0, rfl, by simp, fun i hi => ?_⟩⟩
  rw [World.cell?_alloc_mark, Nat.zero_add]
  simp [List.getElem?_map, List.getElem?_eq_getElem (show i < zs.length from by omega)]
/-- 'append(x, y...)', x a full row that lies there: a new row. -/
theorem append_full {P : Program} {k : IntKind} {w : World} {t ty e : TypeId} {i : TypeInfo} {z : Value} {bytes : Nat} (ht : P.underlying t = some (.slice e)) (hi : P.info? e = some i) (hz : i.zero = some z) (hsize : i.size = 1) (hby : i.bytes = bytes) (hzs : z.cells.size = 1)
    {a c : Option Addr} {len m cap : Nat} {xs ys : List Int} (rx : Row k w a len len xs) (ry : Row k w c m cap ys) (h0 : 0 < len) (hm : 0 < m) (h63 : len + m ≤ maxLen) (hb : (len + m) * bytes ≤ 140737488355328) :
    ∃ v' w', Sem.run P (Builtin.append_ #[t, t] ty #[.slice a len len, .slice c m cap]) w = .ok v' w' ∧ w'.ownsRow w.heap.size e 1 v' (len + m) ((xs ++ ys).map (Value.int k)) ∧ Below w.heap.size w w' := by
  obtain ⟨b, off, rfl, _, hcell⟩ := rx.hcell h0
  obtain ⟨b', off', rfl, _, hcell'⟩ := ry.hcell hm
  obtain ⟨v', w', hrun, r1, r2⟩ := run_append_arg_grows (P := P) w t ty e i z 1 bytes ht hi hz hsize hby hzs (by decide) ⟨b, off, none⟩ len len (xs.map (Value.int k)) (by rw [List.length_map, rx.hlen, Nat.mul_one]) (cells_row rx.hlen hcell)
    ⟨b', off', none⟩ m cap (ys.map (Value.int k)) (by rw [List.length_map, ry.hlen, Nat.mul_one]) (cells_row ry.hlen hcell') (by omega) h63 hb
  rw [← List.map_append] at r1
  exact ⟨v', w', hrun, r1, (Below.refl _ _).grown r2 (Nat.le_refl _) (by simp)⟩
theorem wpList_append_full {P : Program} (w : World) {ops : Array Oper} {rest : List Oper} {o : Oper} {a : Act} {Q : Exit → Act → World → Prop} (hgd : o.guard = none) (s x : Operand) (t : TypeId)
    (ho : o.op = .call { callee := .builtin .append, args := #[s, x], argTypes := #[t, t] })
    (e : TypeId) (i : TypeInfo) (z : Value) (bytes : Nat) (ht : P.underlying t = some (.slice e)) (hi : P.info? e = some i) (hz : i.zero = some z) (hsize : i.size = 1) (hby : i.bytes = bytes) (hzs : z.cells.size = 1)
    (k : IntKind) (sa : Option Addr) (len : Nat) (xs : List Int) (hs : a.eval s = .slice sa len len) (rx : Row k w sa len len xs)
    (sc : Option Addr) (m c : Nat) (ys : List Int) (hx : a.eval x = .slice sc m c) (ry : Row k w sc m c ys) (h0 : 0 < len) (hm : 0 < m) (h63 : len + m ≤ maxLen) (hb : (len + m) * bytes ≤ 140737488355328)
    (h : ∀ v' w', w'.ownsRow w.heap.size e 1 v' (len + m) ((xs ++ ys).map (Value.int k)) → Below w.heap.size w w' → wpList P ops Q rest (a.put o.dst v') w') : wpList P ops Q (o :: rest) a w := by
  obtain ⟨v', w', hrun, r1, r2⟩ := append_full (P := P) (ty := o.type) ht hi hz hsize hby hzs rx ry h0 hm h63 hb
  refine wpList_plain hgd fun K hK' => ?_
  unfold Oper.wp
  simp [execOp, ho, resolve, invoke, builtin, hs, hx, hrun, Result.andThen]
  exact hK' _ _ (h v' w' r1 r2)
theorem own_below {w w' : World} {base : Nat} {e : TypeId} {size : Nat} {v : Value} {n : Nat} {xs : List Value} (h : w.ownsRow base e size v n xs) (hb : Below w.heap.size w w') : w'.ownsRow base e size v n xs := by
  refine ⟨h.1, ?_⟩
  rcases h.2 with h2 | ⟨g, cap, cur, hv, hg, hh, r⟩
  · exact .inl h2
  · exact .inr ⟨g, cap, cur, hv, hg, by rw [hb.block g (lt_of_heap hh)]; exact hh, r⟩
/-- A list of bytes to which t were appended: the call's own, or (while t is 0) a full row. -/
def Gr (B : Nat) (e : TypeId) (w : World) (v : Value) (t m : Nat) (D : List Int) : Prop :=
  w.ownsRow B e 1 v m (D.map (Value.int .u8)) ∨ (t = 0 ∧ 0 < m ∧ ∃ a, v = .slice a m m ∧ Row .u8 w a m m D)
theorem Gr.own {B : Nat} {e : TypeId} {w : World} {v : Value} {t m : Nat} {D : List Int} (h : Gr B e w v t m D) (ht : 0 < t) : w.ownsRow B e 1 v m (D.map (Value.int .u8)) := by
  rcases h with h | ⟨h0, _⟩
  · exact h
  · omega
theorem Gr.alloc {B : Nat} {e : TypeId} {w : World} {v : Value} {t m : Nat} {D : List Int} (h : Gr B e w v t m D) (o : Obj) : Gr B e (w.alloc o) v t m D := by
  rcases h with h | ⟨h0, hm, a, rfl, r⟩
  · exact .inl (h.alloc o)
  · exact .inr ⟨h0, hm, a, rfl, r.below (below_one w o) (Nat.le_refl _)⟩
theorem wpList_append_gr {P : Program} (w : World) {ops : Array Oper} {rest : List Oper} {o : Oper} {a : Act} {Q : Exit → Act → World → Prop} (hgd : o.guard = none) (s x : Operand) (t : TypeId)
    (ho : o.op = .call { callee := .builtin .append, args := #[s, x], argTypes := #[t, t] })
    (B : Nat) (e : TypeId) (i : TypeInfo) (z : Value) (ht : P.underlying t = some (.slice e)) (hi : P.info? e = some i) (hz : i.zero = some z) (hsize : i.size = 1) (hby : i.bytes = 1) (hzs : z.cells.size = 1)
    {v : Value} {tt m : Nat} {D : List Int} (hs : a.eval s = v) (hgr : Gr B e w v tt m D)
    (sc : Option Addr) (n c : Nat) (ys : List Int) (hx : a.eval x = .slice sc n c) (ry : Row .u8 w sc n c ys) (hn : 0 < n) (hsm : m + n ≤ 1000000) (hB : B ≤ w.heap.size)
    (h : ∀ v' w', w'.ownsRow B e 1 v' (m + n) ((D ++ ys).map (Value.int .u8)) → Below B w w' → Keeps e w w' → wpList P ops Q rest (a.put o.dst v') w') : wpList P ops Q (o :: rest) a w := by
  rcases hgr with own | ⟨_, hm, sa, rfl, rx⟩
  · refine wpList_append_row w hgd s x t ho B e i z 1 ht hi hz hsize hby hzs v m _ hs own .u8 sc n c ys hx ry (by unfold maxLen; omega) (by omega) hB fun v' w' o1 g1 => ?_
    rw [← List.map_append] at o1
    exact h v' w' o1 ((Below.refl _ _).grown g1 hB (fun j hj => (own.lt j hj).1)) (Keeps.grown own g1)
  · refine wpList_append_full w hgd s x t ho e i z 1 ht hi hz hsize hby hzs .u8 sa m D hs rx sc n c ys hx ry hm hn (by unfold maxLen; omega) (by omega) fun v' w' o1 q1 => ?_
    exact h v' w' (owns_base o1 hB) (q1.mono hB) (Keeps.below q1)
theorem wp_append_gr {P : Program} {w : World} {o : Oper} {a : Act} {K : Act → World → Prop} {Q : Exit → Act → World → Prop} (s x : Operand) (t : TypeId)
    (ho : o.op = .call { callee := .builtin .append, args := #[s, x], argTypes := #[t, t] })
    (B : Nat) (e : TypeId) (i : TypeInfo) (z : Value) (ht : P.underlying t = some (.slice e)) (hi : P.info? e = some i) (hz : i.zero = some z) (hsize : i.size = 1) (hby : i.bytes = 1) (hzs : z.cells.size = 1)
    {v : Value} {m : Nat} {D : List Int} (hs : a.eval s = v) (own : w.ownsRow B e 1 v m (D.map (Value.int .u8)))
    (sc : Option Addr) (n c : Nat) (ys : List Int) (hx : a.eval x = .slice sc n c) (ry : Row .u8 w sc n c ys) (hn : 0 < n) (hsm : m + n ≤ 1000000) (hB : B ≤ w.heap.size)
    (h : ∀ v' w', w'.ownsRow B e 1 v' (m + n) ((D ++ ys).map (Value.int .u8)) → Below B w w' → Keeps e w w' → K (a.put o.dst v') w') : o.wp P a w K Q := by
  obtain ⟨b, off, rfl, hbs, hcell⟩ := ry.hcell hn
  refine wp_append_own w s x t ho B e i z 1 1 ht hi hz hsize hby hzs (by decide) v m _ hs own ⟨b, off, none⟩ n c (ys.map (Value.int .u8)) hx (by rw [List.length_map, ry.hlen, Nat.mul_one]) (cells_row ry.hlen hcell) (ints_oneCell _ _) (by unfold maxLen; omega) (by omega) hB fun v' w' o1 g1 _ => ?_
  rw [← List.map_append] at o1
  exact h v' w' o1 ((Below.refl _ _).grown g1 hB (fun j hj => (own.lt j hj).1)) (Keeps.grown own g1)
end Go.Proofs.Ytagppgdigabbmaa.N
