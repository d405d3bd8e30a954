/-
  The document's answer of layer 9 (casemateref09): Bytes.
-/
import Derived.Test.YtefpmidjedfjmaaHeadRef2
import Derived.ArgAppend
import Derived.Lib.SlBytesConst
namespace Go.Proofs.Ytefpmidjedfjmaa
open Go.RowKit
set_option linter.unusedVariables false
set_option maxRecDepth 8192

/-- A row of a literal's bytes, with the run-time's mark behind it. -/
theorem row_marked (k : IntKind) (w : World) (e : TypeId) (fr : Nat × Nat) (zs : List Int) (n : Nat) (hn : zs.length = n) (hm : n ≤ maxLen) (cs : Array Value) (hc : cs = (zs.map (Value.int k)).toArray) :
    Row k (w.alloc (.cells cs e fr)) (some ⟨w.heap.size, 0, none⟩) n n zs := by
  subst hc
  refine ⟨hn, Nat.le_refl _, hm, (fun h => by cases h), fun _ => ⟨w.heap.size, 0, rfl, by simp, fun i hi => ?_⟩⟩
  rw [World.cell?_alloc_mark, Nat.zero_add]
  simp [List.getElem?_map, List.getElem?_eq_getElem (show i < zs.length from by omega)]
/-- 'append(x, y...)', x a full row that lies there: a new row. -/
theorem append_full {P : Program} {k : IntKind} {w : World} {t ty e : TypeId} {i : TypeInfo} {z : Value} {bytes : Nat} (ht : P.underlying t = some (.slice e)) (hi : P.info? e = some i) (hz : i.zero = some z) (hsize : i.size = 1) (hby : i.bytes = bytes) (hzs : z.cells.size = 1)
    {a c : Option Addr} {len m cap : Nat} {xs ys : List Int} (rx : Row k w a len len xs) (ry : Row k w c m cap ys) (h0 : 0 < len) (hm : 0 < m) (h63 : len + m ≤ maxLen) (hb : (len + m) * bytes ≤ 140737488355328) :
    ∃ v' w', Sem.run P (Builtin.append_ #[t, t] ty #[.slice a len len, .slice c m cap]) w = .ok v' w' ∧ w'.ownsRow w.heap.size e 1 v' (len + m) ((xs ++ ys).map (Value.int k)) ∧ Below w.heap.size w w' := by
  obtain ⟨b, off, rfl, _, hcell⟩ := rx.hcell h0
  obtain ⟨b', off', rfl, _, hcell'⟩ := ry.hcell hm
  obtain ⟨v', w', hrun, r1, r2⟩ := run_append_arg_grows (P := P) w t ty e i z 1 bytes ht hi hz hsize hby hzs (by decide) ⟨b, off, none⟩ len len (xs.map (Value.int k)) (by rw [List.length_map, rx.hlen, Nat.mul_one]) (cells_row rx.hlen hcell)
    ⟨b', off', none⟩ m cap (ys.map (Value.int k)) (by rw [List.length_map, ry.hlen, Nat.mul_one]) (cells_row ry.hlen hcell') (by omega) h63 hb
  rw [← List.map_append] at r1
  exact ⟨v', w', hrun, r1, (Below.refl _ _).grown r2 (Nat.le_refl _) (by simp)⟩
theorem wpList_append_full {P : Program} (w : World) {ops : Array Oper} {rest : List Oper} {o : Oper} {a : Act} {Q : Exit → Act → World → Prop} (hgd : o.guard = none) (s x : Operand) (t : TypeId)
    (ho : o.op = .call { callee := .builtin .append, args := #[s, x], argTypes := #[t, t] })
    (e : TypeId) (i : TypeInfo) (z : Value) (bytes : Nat) (ht : P.underlying t = some (.slice e)) (hi : P.info? e = some i) (hz : i.zero = some z) (hsize : i.size = 1) (hby : i.bytes = bytes) (hzs : z.cells.size = 1)
    (k : IntKind) (sa : Option Addr) (len : Nat) (xs : List Int) (hs : a.eval s = .slice sa len len) (rx : Row k w sa len len xs)
    (sc : Option Addr) (m c : Nat) (ys : List Int) (hx : a.eval x = .slice sc m c) (ry : Row k w sc m c ys) (h0 : 0 < len) (hm : 0 < m) (h63 : len + m ≤ maxLen) (hb : (len + m) * bytes ≤ 140737488355328)
    (h : ∀ v' w', w'.ownsRow w.heap.size e 1 v' (len + m) ((xs ++ ys).map (Value.int k)) → Below w.heap.size w w' → wpList P ops Q rest (a.put o.dst v') w') : wpList P ops Q (o :: rest) a w := by
  obtain ⟨v', w', hrun, r1, r2⟩ := append_full (P := P) (ty := o.type) ht hi hz hsize hby hzs rx ry h0 hm h63 hb
  refine wpList_plain hgd fun K hK' => ?_
  unfold Oper.wp
  simp [execOp, ho, resolve, invoke, builtin, hs, hx, hrun, Result.andThen]
  exact hK' _ _ (h v' w' r1 r2)
theorem own9_below {w w' : World} {base : Nat} {e : TypeId} {size : Nat} {v : Value} {n : Nat} {xs : List Value} (h : w.ownsRow base e size v n xs) (hb : Below w.heap.size w w') : w'.ownsRow base e size v n xs := by
  refine ⟨h.1, ?_⟩
  rcases h.2 with h2 | ⟨g, cap, cur, hv, hg, hh, r⟩
  · exact .inl h2
  · exact .inr ⟨g, cap, cur, hv, hg, by rw [hb.block g (lt_of_block hh)]; exact hh, r⟩

/-- A slice's length. -/
def lenOf9 : Value → Nat
  | .slice _ n _ => n
  | _ => 0
set_option maxHeartbeats 3200000 in
theorem refBytes9_any {b p : Int} {s n : Nat} {f : Int} {R C : Nat} (G : GMay b p s n f R C) (x y z : Int) (w : World) (hm : mayH C x y z = true) : Calls Try.prog 16 #[.agg #[.int .i64 b, .int .i64 p, .int .i64 ((s : Nat)), .int .i64 ((n : Nat)), .int .i64 f], .agg #[.int .i64 x, .int .i64 y, .int .i64 z]] w fun e w' => ∃ v, e = .returned v ∧ w'.ownsRow w.heap.size 5 1 v R ((pageOf R x y z).map (Value.int .u8)) ∧ Below w.heap.size w w' := by
  obtain ⟨i0, hi0, hz0, hz1, hz2⟩ := info_parts Try.info5
  have hroom := refRoom_any b p f s n R G.hR G.hs G.hn
  have hR := G.hR1
  have hC := G.hC1
  have hh := mayH_yes hm
  clear G hm
  have hfx := refFour_any x
  have hfy := refFour_any y
  have hfz := refFour_any z
  have kc := Lib.run_convert_bytes_const (P := Try.prog) ((w.alloc (.cells #[.int .i64 b, .int .i64 p, .int .i64 s, .int .i64 n, .int .i64 f] 23)).alloc (.cells #[.int .i64 x, .int .i64 y, .int .i64 z] 25)) 30 5 #[.int .u8 99, .int .u8 97, .int .u8 115, .int .u8 101] 4 4 Try.underlying30 Try.underlying5
  have e2 : ((w.alloc (.cells #[.int .i64 b, .int .i64 p, .int .i64 s, .int .i64 n, .int .i64 f] 23)).alloc (.cells #[.int .i64 x, .int .i64 y, .int .i64 z] 25)).heap.size = w.heap.size + 2 := by simp
  rw [e2] at kc
  go_enter Try.func16, Try.ntmps16
  go_wp2_with fail
  have gb := (gbox_ahead w 23 b p s n f (.cells #[.int .i64 x, .int .i64 y, .int .i64 z] 25)).below (below_one _ (.cells #[.int .u8 99, .int .u8 97, .int .u8 115, .int .u8 101] 5 (4, 5))) (Nat.le_refl _)
  have hx := (hbox_two w (.cells #[.int .i64 b, .int .i64 p, .int .i64 s, .int .i64 n, .int .i64 f] 23) 25 x y z).below (below_one _ (.cells #[.int .u8 99, .int .u8 97, .int .u8 115, .int .u8 101] 5 (4, 5))) (Nat.le_refl _)
  have r0 := row_marked .u8 ((w.alloc (.cells #[.int .i64 b, .int .i64 p, .int .i64 s, .int .i64 n, .int .i64 f] 23)).alloc (.cells #[.int .i64 x, .int .i64 y, .int .i64 z] 25)) 5 (4, 5) [99, 97, 115, 101] 4 rfl (by unfold maxLen; omega) #[.int .u8 99, .int .u8 97, .int .u8 115, .int .u8 101] rfl
  rw [e2] at r0
  have q0 := btrans (below_two w (.cells #[.int .i64 b, .int .i64 p, .int .i64 s, .int .i64 n, .int .i64 f] 23) (.cells #[.int .i64 x, .int .i64 y, .int .i64 z] 25)) (below_one _ (.cells #[.int .u8 99, .int .u8 97, .int .u8 115, .int .u8 101] 5 (4, 5)))
  clear kc e2
  generalize ((w.alloc (.cells #[.int .i64 b, .int .i64 p, .int .i64 s, .int .i64 n, .int .i64 f] 23)).alloc (.cells #[.int .i64 x, .int .i64 y, .int .i64 z] 25)).alloc (.cells #[.int .u8 99, .int .u8 97, .int .u8 115, .int .u8 101] 5 (4, 5)) = w1 at *
  have HQ0 : Hid (Below w.heap.size w w1) := q0
  have hsz1 : w.heap.size ≤ w1.heap.size := q0.size
  clear q0
  generalize hgg : w.heap.size = g at *
  have HGG : Hid (w.heap.size = g) := hgg
  clear hgg
  generalize hB : w1.heap.size = B at *
  have HBB : Hid (w1.heap.size = B) := hB
  have HGB : Hid (GBox w1 g b p s n f) := gb
  have HHX : Hid (HBox w1 (g + 1) x y z) := hx
  clear gb hx
  have hfx1 := hfx w1 (by omega) (by omega)
  rw [hB] at hfx1
  refine hfx1.mono ?_
  rintro e w2 ⟨v2, rfl, own2, q2⟩
  obtain ⟨a2, c2, rfl, r2⟩ := row_of_owns own2
  replace r0 := r0.below q2 (by omega)
  have hsz2 := q2.size
  go_wp2_with (at_builtin; refine wpList_append_full _ rfl _ _ 30 rfl 5 i0 (.int .u8 0) 1 Try.underlying30 hi0 hz0 hz1 hz2 rfl .u8 _ 4 _ rfl r0 _ 4 _ _ rfl r2 (by decide) (by decide) (by unfold maxLen; omega) (by omega) ?_)
  intro v3 w3 own3 q3
  replace own3 := owns_base own3 (show B ≤ w2.heap.size by omega)
  have Q3 : Below B w1 w3 := q2.trans (q3.mono (by omega))
  clear hfx hfx1 r0 r2 own2 q2 q3 hsz2
  have hsz3 := Q3.size
  obtain ⟨_, d0, d1, d2⟩ := HHX.out.below Q3 (by omega)
  go_wp2_with fail
  clear d0 d1 d2
  refine (hfy _ (by omega) (by omega)).mono ?_
  rintro e w4 ⟨v4, rfl, own4, q4⟩
  obtain ⟨a4, c4, rfl, r4⟩ := row_of_owns own4
  replace own3 := own9_below own3 q4
  have hsz4 := q4.size
  have Q4 : Below B w1 w4 := Q3.trans (q4.mono (by omega))
  clear hfy own4 q4 Q3
  go_wp2_with (at_builtin; refine wpList_append_row _ rfl _ _ 30 rfl B 5 i0 (.int .u8 0) 1 Try.underlying30 hi0 hz0 hz1 hz2 rfl _ _ _ rfl own3 .u8 a4 4 c4 _ rfl r4 (by unfold maxLen; omega) (by omega) (by omega) ?_)
  intro v5 w5 own5 hgrow5
  rw [← List.map_append] at own5
  have Q5 : Below B w1 w5 := Q4.grown hgrow5 (by omega) (fun j hj => (own3.lt j hj).1)
  clear own3 r4 hgrow5 Q4 hsz4 hsz3
  have hsz5 := Q5.size
  obtain ⟨_, d0, d1, d2⟩ := HHX.out.below Q5 (by omega)
  go_wp2_with fail
  clear d0 d1 d2
  refine (hfz _ (by omega) (by omega)).mono ?_
  rintro e w6 ⟨v6, rfl, own6, q6⟩
  obtain ⟨a6, c6, rfl, r6⟩ := row_of_owns own6
  replace own5 := own9_below own5 q6
  have hsz6 := q6.size
  have Q6 : Below B w1 w6 := Q5.trans (q6.mono (by omega))
  clear hfz own6 q6 Q5
  go_wp2_with (at_builtin; refine wpList_append_row _ rfl _ _ 30 rfl B 5 i0 (.int .u8 0) 1 Try.underlying30 hi0 hz0 hz1 hz2 rfl _ _ _ rfl own5 .u8 a6 4 c6 _ rfl r6 (by unfold maxLen; omega) (by omega) (by omega) ?_)
  intro v7 w7 own7 hgrow7
  have Q7 : Below B w1 w7 := Q6.grown hgrow7 (by omega) (fun j hj => (own5.lt j hj).1)
  clear own5 r6 hgrow7 Q6 hsz6 hsz5
  replace own7 : w7.ownsRow B 5 1 v7 16 ((sixteen x y z ++ List.replicate 0 0).map (Value.int .u8)) := own7
  have HPG : Hid (sixteen x y z ++ List.replicate (R - 16) 0 = pageOf R x y z) := rfl
  have HRS : Hid (∀ k, sixteen x y z ++ List.replicate (k + 1) 0 = (sixteen x y z ++ List.replicate k 0) ++ [0]) := fun k => by rw [List.replicate_succ', List.append_assoc]
  clear hh
  generalize sixteen x y z = S16 at *
  go_wp2_with fail
  go_loopw [5] (fun v wr => ∃ k : Nat, 16 + k ≤ R ∧ wr.ownsRow B 5 1 v (16 + k) ((S16 ++ List.replicate k 0).map (Value.int .u8)) ∧ Below B w1 wr) (fun v _ => R - lenOf9 v)
  case atStart => exact ⟨0, by omega, own7, Q7⟩
  case round =>
    clear own7 Q7
    obtain ⟨k, hk, own, q⟩ := hrel
    obtain ⟨a8, c8, rfl, r8⟩ := row_of_owns own
    obtain ⟨_, c0, c1, c2, c3, c4⟩ := HGB.out.below q (by omega)
    have HMX : Hid (c8 ≤ maxLen) := r8.hmax
    clear r8
    go_wp2_with fail
    refine (hroom _).mono ?_
    rintro e w9 ⟨rfl, q9⟩
    have own9 := own9_below own q9
    have hsz8 := q.size
    have hsz9 := q9.size
    have Q9 : Below B w1 w9 := q.trans (q9.mono (by omega))
    clear own q q9 c0 c1 c2 c3 c4
    have HS : Hid (S16 ++ List.replicate (k + 1) 0 = (S16 ++ List.replicate k 0) ++ [0]) := HRS.out k
    by_cases hlt : 16 + k < R
    · clear HPG
      generalize S16 ++ List.replicate k 0 = tk at *
      have hl : (16 : Int) + (k : Int) < (R : Int) := by omega
      go_wp2_with (at_builtin; refine wpList_append_own _ rfl _ _ 30 rfl B 5 i0 (.int .u8 0) 1 1 Try.underlying30 hi0 hz0 hz1 hz2 rfl (by decide) _ _ _ rfl (own9.alloc _) ⟨w9.heap.size, 0, none⟩ 1 1 [.int .u8 0] rfl rfl (cell_one_new _ _ _) (by intro u hu; simp at hu; subst hu; rfl) (by unfold maxLen; omega) (by omega) (by simp; omega) ?_)
      intro v' w10 hown' hgrow _
      have RR := rel_push (show B ≤ w9.heap.size by omega) own9 Q9 hown' hgrow
      rw [← HS.out] at RR
      obtain ⟨a10, c10, rfl, _⟩ := row_of_owns RR.1
      clear hown' hgrow
      go_wp2_with fail
      go_roundw
      case rel => exact ⟨k + 1, by omega, RR.1, RR.2⟩
      case measure => show R - (16 + k + 1) < R - (16 + k); omega
    · obtain rfl : k = R - 16 := by omega
      rw [HPG.out] at own9
      have e16 : 16 + (R - 16) = R := by omega
      have hl : ¬ (16 : Int) + ((R - 16 : Nat) : Int) < (R : Int) := by omega
      have HQE : Hid (Below w.heap.size w w9) := by
        show Below _ _ _
        rw [HGG.out]
        exact HQ0.out.trans (Q9.mono (by omega))
      have HOW : Hid (w9.ownsRow w.heap.size 5 1 (.slice a8 R c8) R ((pageOf R x y z).map (Value.int .u8))) := by
        show World.ownsRow _ _ _ _ _ _ _
        rw [HGG.out]
        have := owns_base own9 (show g ≤ B by omega)
        rw [e16] at this
        exact this
      clear own9 Q9
      go_wp2_with fail
      go_ret
      exact ⟨_, rfl, HOW.out, HQE.out⟩
end Go.Proofs.Ytefpmidjedfjmaa
