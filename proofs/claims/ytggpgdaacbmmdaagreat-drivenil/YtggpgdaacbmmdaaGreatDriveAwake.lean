/-
  Layer 8's laws: awake (the document's examples); DriveNil.
-/
import Derived.Test.YtggpgdaacbmmdaaGreatDriveMore
import Derived.Laws.StructEq
import Derived.Lib.SlBytesConst
namespace Go.Proofs.YtggpgdaacbmmdaaGreat
open Go.RowKit Go.Maps
set_option linter.unusedVariables false
set_option maxRecDepth 8192

/-- The sixteen bytes of awake. -/
def D16 : List Int := [115, 105, 120, 116, 101, 101, 110, 32, 98, 121, 116, 101, 115, 44, 32, 48]
theorem isB_D16 : IsB D16 := by unfold IsB D16; decide
/-- awake's chip behind the calls. -/
def A0 : CS := CS.fresh 19 [] 0
def A1 : CS := A0.weaken 1
theorem eqInt8 (d : Nat) (a b : Int) (w : World) : (Op.equalIn (d + 1) 3 (.int .i64 a) (.int .i64 b)).run Tryz.prog w = .ok (a == b) w := run_equalIn_int w d 3 .i64 .i64 a b Tryz.underlying3
theorem geoEqIn (b p s n f : Int) (w : World) : (Op.equalIn 10000 23 (.agg #[.int .i64 b, .int .i64 p, .int .i64 s, .int .i64 n, .int .i64 f]) (.agg #[.int .i64 b, .int .i64 p, .int .i64 s, .int .i64 n, .int .i64 f])).run Tryz.prog w = .ok true w := by
  obtain ⟨fs, hfs⟩ : ∃ fs, Tryz.prog.underlying 23 = some (.struct fs) := ⟨_, Tryz.underlying23⟩
  have hf : Tryz.prog.fieldsOf 23 = fs := by unfold Program.fieldsOf; rw [hfs]
  rw [run_equalIn_agg (d := 9999) w _ _ _ (by rw [hf]; exact hfs) (by kernel_rfl), hf]
  rw [Tryz.underlying23] at hfs
  cases hfs
  simp [Op.eqFields, eqInt8, go_sem]
theorem geoEq (b p s n f : Int) (w : World) : Sem.run Tryz.prog (binOp .eql 23 (.agg #[.int .i64 b, .int .i64 p, .int .i64 s, .int .i64 n, .int .i64 f]) (.agg #[.int .i64 b, .int .i64 p, .int .i64 s, .int .i64 n, .int .i64 f])) w = .ok (.bool true) w := by
  rw [run_eql_struct, geoEqIn]; rfl
theorem geoNe (b p s n f : Int) (w : World) : Sem.run Tryz.prog (binOp .neq 23 (.agg #[.int .i64 b, .int .i64 p, .int .i64 s, .int .i64 n, .int .i64 f]) (.agg #[.int .i64 b, .int .i64 p, .int .i64 s, .int .i64 n, .int .i64 f])) w = .ok (.bool false) w := by
  rw [run_neq_struct, geoEqIn]; rfl
/-- A row of a literal's bytes, with the run-time's mark behind it. -/
theorem row_mark (k : IntKind) (w : World) (e : TypeId) (fr : Nat × Nat) (zs : List Int) (n : Nat) (hn : zs.length = n) (hm : n ≤ maxLen) (cs : Array Value) (hc : cs = (zs.map (Value.int k)).toArray) :
    Row k (w.alloc (.cells cs e fr)) (some ⟨w.heap.size, 0, none⟩) n n zs := by
  subst hc
  refine ⟨hn, Nat.le_refl _, hm, (fun h => by cases h), fun _ => ⟨w.heap.size, 0, rfl, by simp, fun i hi => ?_⟩⟩
  rw [World.cell?_alloc_mark, Nat.zero_add]
  simp [List.getElem?_map, List.getElem?_eq_getElem (show i < zs.length from by omega)]

set_option maxHeartbeats 3200000 in
theorem awake8_any (w : World) : Calls Tryz.prog 19 #[] w fun e w' => e = .returned (.bool true) ∧ Below w.heap.size w w' := by
  go_enter Tryz.func19, Tryz.ntmps19
  go_wp2_with fail
  refine (tiny8_any _).mono ?_
  rintro e w1 ⟨rfl, q1⟩
  go_wp2_with fail
  refine (chipNew_nil G0 _).mono ?_
  rintro e w2 ⟨c, rfl, hnew⟩
  obtain ⟨B, F, rfl, h2⟩ := newChip_here q1 hnew
  clear hnew q1
  go_wp2_with fail
  refine (drvNew_any B.c _).mono ?_
  rintro e w3 ⟨d, hd, rfl, db, q3⟩
  have h3 : DHere w G0 B F 0 A0 d w3 := dhere_new h2 q3 db hd
  clear h2 q3 db hd
  go_wp2_with fail
  refine (drvNew_nil _).mono ?_
  rintro e w4 ⟨rfl, rfl⟩
  have r4 := row_mark .u8 w3 5 (16, 17) D16 16 rfl (by unfold maxLen; omega) #[.int .u8 115, .int .u8 105, .int .u8 120, .int .u8 116, .int .u8 101, .int .u8 101, .int .u8 110, .int .u8 32, .int .u8 98, .int .u8 121, .int .u8 116, .int .u8 101, .int .u8 115, .int .u8 44, .int .u8 32, .int .u8 48] rfl
  have q4 := below_one w3 (.cells #[.int .u8 115, .int .u8 105, .int .u8 120, .int .u8 116, .int .u8 101, .int .u8 101, .int .u8 110, .int .u8 32, .int .u8 98, .int .u8 121, .int .u8 116, .int .u8 101, .int .u8 115, .int .u8 44, .int .u8 32, .int .u8 48] 5 (16, 17))
  have kc := Lib.run_convert_bytes_const (P := Tryz.prog) w3 38 5 #[.int .u8 115, .int .u8 105, .int .u8 120, .int .u8 116, .int .u8 101, .int .u8 101, .int .u8 110, .int .u8 32, .int .u8 98, .int .u8 121, .int .u8 116, .int .u8 101, .int .u8 115, .int .u8 44, .int .u8 32, .int .u8 48] 16 16 Tryz.underlying38 Tryz.underlying5
  have o4 : Off F .u8 _ (some ⟨w3.heap.size, 0, none⟩) 16 16 D16 := h3.here.off r4 (Nat.le_refl _)
  have h4 := h3.below q4
  clear r4 q4 h3
  go_wp2_with fail
  clear kc
  generalize w3.alloc (.cells #[.int .u8 115, .int .u8 105, .int .u8 120, .int .u8 116, .int .u8 101, .int .u8 101, .int .u8 110, .int .u8 32, .int .u8 98, .int .u8 121, .int .u8 116, .int .u8 101, .int .u8 115, .int .u8 44, .int .u8 32, .int .u8 48] 5 (16, 17)) = w4 at *
  generalize w3.heap.size = g at *
  refine (chipWeak_any 1 (i64_small (by decide)) w4 h4.chip (by decide)).mono ?_
  rintro e w5 ⟨⟨r, rfl⟩, d5⟩
  obtain ⟨F5, h5, o5⟩ := h4.does d5
  replace h5 := h5.same (S' := A1) rfl
  have s5 := o5 _ _ _ _ _ o4
  clear o5 o4 h4 d5
  go_wp2_with fail
  refine (drvWrite_yes (G := G0) 0 0 (i64_small (by decide)) (i64_small (by decide)) _ _ D16 w5 h5.box h5.off h5.chip s5.row isB_D16 (by decide) rfl (use_of rfl rfl rfl rfl)).mono ?_
  rintro e w6 ⟨z, hz, hd⟩
  have hzl : z.length = 19 := hz.len
  obtain ⟨rfl, d6⟩ := Does.eq (write_ok (G := G0) (S := A1) (x := 0) (y := 0) (z := z) rfl (by decide) (by decide) rfl rfl rfl hzl) hd
  obtain ⟨F6, h6, o6⟩ := h5.does d6
  have s6 := o6 _ _ _ _ _ s5
  clear o6 s5 h5 d6 hd
  go_wp2_with fail
  refine (drvRead_yes (G := G0) 0 0 (i64_small (by decide)) (i64_small (by decide)) w6 h6.box h6.chip rfl (use_of rfl rfl rfl rfl)).mono ?_
  rintro e w7 ⟨X, k, er, ao, co, ⟨hX, _, hnew⟩, rfl, rX, q7⟩
  rw [lay_pg, show (A1.lay 0 0 z).wr 0 0 = fun _ => false from rfl, readZ_none] at hX
  obtain ⟨hX1, rfl, rfl⟩ := isRead_clean (G := G0) hz isB_D16 rfl hX
  subst hX1
  have h7 := h6.below q7
  have s7 := s6.below q7
  have x7 : Off F6 .u8 w7 ao 16 co D16 := ⟨rX, fun h0 q hq hF => by have := h6.chip.fresh _ hF; have := hnew h0 q hq; omega⟩
  clear h6 s6 q7 hX hz hnew rX
  rw [show (D16.length : Nat) = 16 from rfl]
  go_wp2_with fail
  refine (drvWrite_yes (G := G0) 1 0 (i64_small (by decide)) (i64_small (by decide)) _ _ D16 w7 h7.box h7.off h7.chip s7.row isB_D16 (by decide) rfl (use_of rfl rfl rfl rfl)).mono ?_
  rintro e w8 ⟨z2, hz2, hd⟩
  obtain ⟨rfl, d8⟩ := Does.eq (write_weak (G := G0) (S := A1.lay 0 0 z) (x := 1) (y := 0) (z := z2) rfl (by decide) (by decide) rfl rfl rfl hz2.len) hd
  obtain ⟨F8, h8, o8⟩ := h7.does d8
  have s8 := o8 _ _ _ _ _ s7
  have x8 := o8 _ _ _ _ _ x7
  clear o8 s7 x7 h7 d8 hd hz2
  have k1 := conv_row (P := Tryz.prog) Tryz.underlying38 Tryz.underlying5 Tryz.underlying9 x8.row
  have k2 := conv_row (P := Tryz.prog) Tryz.underlying38 Tryz.underlying5 Tryz.underlying9 s8.row
  go_wp2_with fail
  clear k1 k2 x8
  refine (drvGood_any w8 h8.box h8.chip).mono ?_
  rintro e w9 ⟨v, rfl, own9, q9⟩
  rw [show CS.goodTo _ G0.b.toNat = [0] from rfl] at own9
  obtain ⟨a9, c9, rfl, r9⟩ := row_of_owns own9
  have h9 := h8.below q9
  have s9 := s8.below q9
  have r0 := row_new .i64 w9 3 w9.heap.size rfl [0] 1 rfl (by unfold maxLen; omega) #[.int .i64 0] rfl
  have q0 := below_one w9 (.cells #[.int .i64 0] 3)
  replace r9 := r9.below q0 (Nat.le_refl _)
  replace h9 := h9.below q0
  replace s9 := s9.below q0
  clear own9 q9 h8 s8 q0
  go_wp2_with fail
  generalize w9.alloc (.cells #[.int .i64 0] 3) = w10 at *
  generalize w9.heap.size = g9 at *
  refine (ints_any _ _ _ _ _ _ [0] [0] w10 r9 r0).mono ?_
  rintro e w11 ⟨rfl, q11⟩
  have h11 := h9.below q11
  have s11 := s9.below q11
  clear q11 h9 s9 r9 r0
  rw [decide_eq_true rfl]
  go_wp2_with fail
  refine (drvWrite_no (G := G0) 1 0 (i64_small (by decide)) _ 16 16 (by unfold maxLen; omega) w11 h11.box h11.chip 73 (by decide) (use_bad (G := G0) (x := 1) rfl rfl rfl rfl)).mono ?_
  rintro e w12 ⟨rfl, q12⟩
  have h12 := h11.below q12
  go_wp2_with fail
  go_ret
  exact ⟨rfl, h12.bel⟩

set_option maxHeartbeats 1600000 in
theorem walk_driveNil (x y : Int) (a : Option Addr) (len cap : Nat) (w : World) : Calls Tryz.prog 6 #[.int .i64 x, .int .i64 y, .slice a len cap] w fun e w' => e = .returned (.bool true) ∧ Below w.heap.size w w' := by
  have hge := geoEq 0 0 0 0 0
  go_enter Tryz.func6, Tryz.ntmps6
  go_wp2_with fail
  refine (drvRead_nil x y _).mono ?_
  rintro e w1 ⟨rfl, q1⟩
  go_wp2_with fail
  refine (drvWhole_nil x y _).mono ?_
  rintro e w2 ⟨rfl, q2⟩
  replace q1 := btrans q1 q2
  clear q2
  go_wp2_with fail
  refine (awake8_any _).mono ?_
  rintro e w2 ⟨rfl, q2⟩
  replace q1 := btrans q1 q2
  clear q2
  go_wp2_with fail
  refine (drvWrite_nil x y a len cap _).mono ?_
  rintro e w2 ⟨rfl, q2⟩
  replace q1 := btrans q1 q2
  clear q2
  go_wp2_with fail
  refine (drvErase_nil x _).mono ?_
  rintro e w2 ⟨rfl, rfl⟩
  go_wp2_with fail
  refine (drvGood_nil _).mono ?_
  rintro e w2 ⟨rfl, q2⟩
  replace q1 := btrans q1 q2
  clear q2
  go_wp2_with fail
  refine (drvGeometry_nil _).mono ?_
  rintro e w2 ⟨rfl, q2⟩
  replace q1 := btrans q1 q2
  clear q2
  go_wp2_with fail
  go_ret
  exact ⟨rfl, q1⟩
end Go.Proofs.YtggpgdaacbmmdaaGreat
