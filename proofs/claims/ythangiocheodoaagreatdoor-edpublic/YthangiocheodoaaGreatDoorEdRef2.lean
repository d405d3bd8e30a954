/-
 The document's answers of layer 19: Scale.
-/
import Derived.Test.YthangiocheodoaaGreatDoorPackFb
import Derived.Test.YthangiocheodoaaGreatDoorEdRef
import Derived.Test.YthangiocheodoaaGreatDoorCurveCode4
namespace Go.Proofs.YthangiocheodoaaGreatDoor.N
open Go.RowKit
set_option linter.unusedVariables false
set_option maxRecDepth 8192

set_option maxHeartbeats 6400000 in
theorem scale19_any (z : List Nat) (dz : Dig z) (ad : Option Addr) (len cap : Nat) (p : T3) (w : World) (hr : Row .u8 w ad len cap (nI z)) (hl : len ≤ 1000) :
  Calls Tryz.prog 11 #[.slice ad len cap, .agg (tA p.x.val p.y.val p.z.val)] w fun e w' => e = .returned (.agg (tA (rrun p (vL z) (8 * len) (8 * len)).x.val (rrun p (vL z) (8 * len) (8 * len)).y.val (rrun p (vL z) (8 * len) (8 * len)).z.val)) ∧ Below w.heap.size w w' := by
 have HR : Hid (Row .u8 w ad len cap (nI z)) := hr
 have HDZ : Hid (Dig z) := dz
 have HLZ : Hid (z.length = len) := by have := hr.hlen; rwa [nI_length] at this
 have HN : Hid (∀ w, Rt Tryz.prog 31 #[.int .i64 1] (.agg (bA 1)) w) := fun w => num19_any 1 (by decide) w
 have HA : Hid (∀ (o q : T3) (w : World), Rt Tryz.prog 32 #[.agg (tA o.x.val o.y.val o.z.val), .agg (tA q.x.val q.y.val q.z.val)] (.agg (tA (rplus3 o q).x.val (rplus3 o q).y.val (rplus3 o q).z.val)) w) := fun o q w => add19_any o q w
 obtain ⟨st, hst⟩ : ∃ st : Nat → T3, st = fun L => rrun p (vL z) (8 * len) (8 * len - L) := ⟨_, rfl⟩
 have HST : Hid (∀ L, L + 1 ≤ 8 * len → st L = rbit (st (L + 1)) (decide (vL z / 2 ^ L % 2 = 1)) p) := fun L h => by rw [hst]; exact rrun_step p (vL z) (8 * len) L h
 have HT : Hid (st (8 * len) = zero3) := by show _ = _; rw [hst]; show rrun p (vL z) (8 * len) (8 * len - 8 * len) = _; rw [Nat.sub_self]; rfl
 have HE : Hid (rrun p (vL z) (8 * len) (8 * len) = st 0) := by show _ = _; rw [hst]; rfl
 rw [HE.out]
 clear dz hst hr HE
 obtain ⟨p0, hp0⟩ : ∃ p0 : T3, p0 = p := ⟨p, rfl⟩
 have HP0 : Hid (p0.x.val = p.x.val ∧ p0.y.val = p.y.val ∧ p0.z.val = p.z.val) := by rw [hp0]; exact ⟨rfl, rfl, rfl⟩
 rw [← hp0] at HST
 clear hp0
 generalize p.x.val = px at *
 generalize p.y.val = py at *
 generalize p.z.val = pz at *
 have V0 := Vars.start w
 go_enter Tryz.func11, Tryz.ntmps11
 go_wp2_with (first
  | (refine wpList_boxV V0 3 35 _ rfl rfl rfl (tA px py pz) rfl ?_; intro w1 g2 V3)
  | (refine wpList_allocV V3 4 35 rfl rfl rfl (tA 0 0 0) zeroPl ?_; intro w4 g5 V6))
 refine (HN.out w4).mono ?_
 rintro e w7 ⟨rfl, q9⟩
 have V8 := V6.call q9
 clear q9 V6
 go_wp2_with fail
 refine (HN.out w7).mono ?_
 rintro e w10 ⟨rfl, q12⟩
 have V11 := V8.call q12
 clear q12 V8
 go_wp2_with (first
  | (refine wpList_buildV 11 35 _ rfl rfl rfl (tA 0 1 1) (built_Pl12 _ _) ?_)
  | (refine wpList_allocV V11 5 35 rfl rfl rfl (tA 0 0 0) zeroPl ?_; intro w13 g14 V15)
  | (refine wpList_storeV V15 0 rfl _ (.tmp 11) rfl rfl rfl (tA 0 1 1) rfl rfl Tryz.szPl (tA_size _ _ _) (tA_size _ _ _) (tA_one _ _ _) ?_; intro w16 V17))
 go_loopw [6, 7, 8] (fun i a b wr => ∃ (k : Nat), k ≤ len ∧ i = .int .i64 ((k : Int) - 1) ∧ Hid (Vars w wr [⟨g14, 35, tA (st (8 * k)).x.val (st (8 * k)).y.val (st (8 * k)).z.val⟩, ⟨g5, 35, tA 0 0 0⟩, ⟨g2, 35, tA px py pz⟩])) (fun i _ _ _ => (intOf i + 1).toNat)
 case atStart => exact ⟨len, Nat.le_refl _, by go_num, by show Vars w _ _; rw [HT.out]; exact V17⟩
 case round =>
  clear V17
  obtain ⟨k, hk, rfl, HV⟩ := hrel
  by_cases h0 : k = 0
  ·subst h0
   have V5 := HV.out
   go_wp2_with (first
     | (refine wpList_exec rfl (exec_loadS V5 0 rfl _ rfl rfl Tryz.underlying35 Tryz.szPl (tA_size _ _ _)) ?_)
     | (refine wpList_storeV V5 1 rfl _ _ rfl rfl rfl _ rfl rfl Tryz.szPl (tA_size _ _ _) (tA_size _ _ _) (tA_one _ _ _) ?_; intro w8 V8))
   exact bodyPost_ret (resS1 rfl _ V8 1 rfl rfl Tryz.underlying35 Tryz.szPl (tA_size _ _ _)) rfl ⟨rfl, V8.bel⟩
  ·obtain ⟨i, rfl⟩ : ∃ i, k = i + 1 := ⟨k - 1, by omega⟩
   have ei : (((i + 1 : Nat) : Int) - 1) = (i : Int) := by omega
   rw [ei]
   obtain ⟨bb, off, rfl, hbs, _⟩ := HR.out.hcell (by omega)
   have HC : wr.cell? ⟨bb, off + i, none⟩ = some (.int .u8 ((dg z i : Nat) : Int)) := by
    obtain ⟨b2, o2, e2, _, hc⟩ := (HR.out.below HV.out.bel (Nat.le_refl _)).hcell (by omega)
    cases e2
    rw [hc i (by omega), nI_dg]
   have hx9 := HDZ.out.at i
   have HB : Hid (∀ c, c < 8 → dg z i / 2 ^ c % 2 = vL z / 2 ^ (8 * i + c) % 2) := fun c hc => by rw [dg_of HDZ.out]; exact byte_bit _ _ _ hc
   have hil : (i : Int) < (len : Int) := by omega
   have wi : IntKind.i64.wrap ((dg z i : Nat) : Int) = ((dg z i : Nat) : Int) := by rw [IntKind.wrap_i64]; omega
   have wx : IntKind.u8.wrap ((dg z i : Nat) : Int) = ((dg z i : Nat) : Int) := by rw [IntKind.wrap_u8]; omega
   generalize dg z i = x at *
   go_wp2_with fail
   go_loopw [7, 8] (fun a b wr2 => ∃ (c : Nat), c ≤ 8 ∧ b = .int .i64 (c : Int) ∧ a = .int .i64 ((x * 2 ^ c % 256 : Nat) : Int) ∧ Hid (Vars w wr2 [⟨g14, 35, tA (st (8 * i + (8 - c))).x.val (st (8 * i + (8 - c))).y.val (st (8 * i + (8 - c))).z.val⟩, ⟨g5, 35, tA 0 0 0⟩, ⟨g2, 35, tA px py pz⟩])) (fun _ b _ => 8 - (intOf b).toNat)
   case atStart => exact ⟨0, by omega, rfl, by rw [Nat.pow_zero, Nat.mul_one, Nat.mod_eq_of_lt hx9], HV.out⟩
   case round =>
    clear HV HC
    obtain ⟨c, hc, rfl, rfl, HV⟩ := hrel
    by_cases h1 : c = 8
    ·subst h1
     have HV8 : Hid (Vars w wr [⟨g14, 35, tA (st (8 * i)).x.val (st (8 * i)).y.val (st (8 * i)).z.val⟩, ⟨g5, 35, tA 0 0 0⟩, ⟨g2, 35, tA px py pz⟩]) := by have := HV.out; rwa [show 8 * i + (8 - 8) = 8 * i by omega] at this
     clear HV
     go_wp2
     go_roundw
     case rel => exact ⟨i, by omega, by go_num, HV8.out⟩
     case measure => simp [intOf] <;> omega
    ·have hc8 : c < 8 := by omega
     have HS := HST.out (8 * i + (7 - c)) (by omega)
     have HW := top_bits ⟨x, hx9⟩ ⟨c, hc8⟩
     have HB2 := HB.out (7 - c) (by omega)
     simp only at HW
     rw [← HB2, ← HW, show 8 * i + (7 - c) + 1 = 8 * i + (8 - c) by omega] at HS
     have HY : Hid (2 * (x * 2 ^ c % 256) % 256 = x * 2 ^ (c + 1) % 256) := top_next x c
     have hy9 : x * 2 ^ c % 256 < 256 := Nat.mod_lt _ (by decide)
     have HV4 := HV.out
     clear HV HW HB2
     generalize x * 2 ^ c % 256 = y at *
     have HS2 : Hid (st (8 * i + (7 - c)) = rbit (st (8 * i + (8 - c))) (decide (128 ≤ y)) p0) := HS
     clear HS
     have c8 : (c : Int) < 8 := by omega
     have wc : IntKind.i64.wrap ((c : Int) + 1) = ((c + 1 : Nat) : Int) := by rw [IntKind.wrap_i64]; omega
     have wm : IntKind.i64.wrap (2 * (y : Int)) = ((2 * y : Nat) : Int) := by rw [IntKind.wrap_i64]; omega
     have wt : ((2 * y : Nat) : Int).tmod 256 = ((2 * y % 256 : Nat) : Int) := by rw [Int.tmod_eq_emod_of_nonneg (by omega)]; omega
     have ww : IntKind.i64.wrap ((2 * y % 256 : Nat) : Int) = ((2 * y % 256 : Nat) : Int) := by rw [IntKind.wrap_i64]; omega
     rw [HY.out] at wt ww
     have A1 := HA.out (st (8 * i + (8 - c))) (st (8 * i + (8 - c)))
     have A2 := HA.out (rplus3 (st (8 * i + (8 - c))) (st (8 * i + (8 - c)))) p0
     rw [HP0.out.1, HP0.out.2.1, HP0.out.2.2] at A2
     have HN1 : Hid (st (8 * i + (7 - c)) = if 128 ≤ y then rplus3 (rplus3 (st (8 * i + (8 - c))) (st (8 * i + (8 - c)))) p0 else rplus3 (st (8 * i + (8 - c))) (st (8 * i + (8 - c)))) := by
      show _ = _
      rw [HS2.out]
      unfold rbit
      by_cases h : 128 ≤ y
      ·rw [decide_eq_true h, if_pos rfl, if_pos h]
      ·rw [decide_eq_false h, if_neg (by decide), if_neg h]
     generalize hg2 : x * 2 ^ (c + 1) % 256 = y2 at *
     have HG2 : Hid (x * 2 ^ (c + 1) % 256 = y2) := hg2
     clear hg2
     by_cases h2 : 128 ≤ y
     ·rw [if_pos h2] at HN1
      have A1H : Hid (∀ w, Rt Tryz.prog 32 #[.agg (tA (st (8 * i + (8 - c))).x.val (st (8 * i + (8 - c))).y.val (st (8 * i + (8 - c))).z.val), .agg (tA (st (8 * i + (8 - c))).x.val (st (8 * i + (8 - c))).y.val (st (8 * i + (8 - c))).z.val)] (.agg (tA (rplus3 (st (8 * i + (8 - c))) (st (8 * i + (8 - c)))).x.val (rplus3 (st (8 * i + (8 - c))) (st (8 * i + (8 - c)))).y.val (rplus3 (st (8 * i + (8 - c))) (st (8 * i + (8 - c)))).z.val)) w) := A1
      have A2H : Hid (∀ w, Rt Tryz.prog 32 #[.agg (tA (rplus3 (st (8 * i + (8 - c))) (st (8 * i + (8 - c)))).x.val (rplus3 (st (8 * i + (8 - c))) (st (8 * i + (8 - c)))).y.val (rplus3 (st (8 * i + (8 - c))) (st (8 * i + (8 - c)))).z.val), .agg (tA px py pz)] (.agg (tA (rplus3 (rplus3 (st (8 * i + (8 - c))) (st (8 * i + (8 - c)))) p0).x.val (rplus3 (rplus3 (st (8 * i + (8 - c))) (st (8 * i + (8 - c)))) p0).y.val (rplus3 (rplus3 (st (8 * i + (8 - c))) (st (8 * i + (8 - c)))) p0).z.val)) w) := A2
      rw [← HN1.out] at A2H
      clear A1 A2 HN1 HS2
      generalize (rplus3 (st (8 * i + (8 - c))) (st (8 * i + (8 - c)))).x.val = mx at *
      generalize (rplus3 (st (8 * i + (8 - c))) (st (8 * i + (8 - c)))).y.val = my at *
      generalize (rplus3 (st (8 * i + (8 - c))) (st (8 * i + (8 - c)))).z.val = mz at *
      generalize (st (8 * i + (8 - c))).x.val = ox at *
      generalize (st (8 * i + (8 - c))).y.val = oy at *
      generalize (st (8 * i + (8 - c))).z.val = oz at *
      obtain ⟨rx, hrx⟩ : ∃ r, (st (8 * i + (7 - c))).x.val = r := ⟨_, rfl⟩
      obtain ⟨ry, hry⟩ : ∃ r, (st (8 * i + (7 - c))).y.val = r := ⟨_, rfl⟩
      obtain ⟨rz, hrz⟩ : ∃ r, (st (8 * i + (7 - c))).z.val = r := ⟨_, rfl⟩
      rw [hrx, hry, hrz] at A2H
      have HRX : Hid ((st (8 * i + (7 - c))).x.val = rx ∧ (st (8 * i + (7 - c))).y.val = ry ∧ (st (8 * i + (7 - c))).z.val = rz) := ⟨hrx, hry, hrz⟩
      clear hrx hry hrz
      have h2i : (128 : Int) ≤ (y : Int) := by omega
      go_wp2_with (first
       | (refine wpList_exec rfl (exec_loadS HV4 0 rfl _ rfl rfl Tryz.underlying35 Tryz.szPl (tA_size _ _ _)) ?_)
       | (refine wpList_exec rfl (exec_loadS HV4 0 rfl _ rfl rfl Tryz.underlying35 Tryz.szPl (tA_size _ _ _)) ?_))
      refine (A1H.out wr).mono ?_
      rintro e w101 ⟨rfl, q103⟩
      have V102 := HV4.call q103
      clear q103 HV4
      go_wp2_with (first
       | (refine wpList_storeV V102 0 rfl _ (.tmp 30) rfl rfl rfl (tA mx my mz) rfl rfl Tryz.szPl (tA_size _ _ _) (tA_size _ _ _) (tA_one _ _ _) ?_; intro w104 V105)
       | (refine wpList_exec rfl (exec_loadS V105 0 rfl _ rfl rfl Tryz.underlying35 Tryz.szPl (tA_size _ _ _)) ?_)
       | (refine wpList_exec rfl (exec_loadS V105 2 rfl _ rfl rfl Tryz.underlying35 Tryz.szPl (tA_size _ _ _)) ?_))
      refine (A2H.out w104).mono ?_
      rintro e w106 ⟨rfl, q108⟩
      have V107 := V105.call q108
      clear q108 V105
      go_wp2_with (refine wpList_storeV V107 0 rfl _ (.tmp 35) rfl rfl rfl (tA rx ry rz) rfl rfl Tryz.szPl (tA_size _ _ _) (tA_size _ _ _) (tA_one _ _ _) ?_; intro w109 V110)
      go_roundw
      case rel => exact ⟨c + 1, by omega, by go_num, by have h1 := HY.out; have h2 := HG2.out; go_num, by show Vars w _ _; rw [show 8 * i + (8 - (c + 1)) = 8 * i + (7 - c) by omega, HRX.out.1, HRX.out.2.1, HRX.out.2.2]; exact V110⟩
      case measure => simp [intOf] <;> omega
     ·rw [if_neg h2] at HN1
      have A1H : Hid (∀ w, Rt Tryz.prog 32 #[.agg (tA (st (8 * i + (8 - c))).x.val (st (8 * i + (8 - c))).y.val (st (8 * i + (8 - c))).z.val), .agg (tA (st (8 * i + (8 - c))).x.val (st (8 * i + (8 - c))).y.val (st (8 * i + (8 - c))).z.val)] (.agg (tA (rplus3 (st (8 * i + (8 - c))) (st (8 * i + (8 - c)))).x.val (rplus3 (st (8 * i + (8 - c))) (st (8 * i + (8 - c)))).y.val (rplus3 (st (8 * i + (8 - c))) (st (8 * i + (8 - c)))).z.val)) w) := A1
      rw [← HN1.out] at A1H
      clear A1 A2 HN1 HS2
      generalize (st (8 * i + (8 - c))).x.val = ox at *
      generalize (st (8 * i + (8 - c))).y.val = oy at *
      generalize (st (8 * i + (8 - c))).z.val = oz at *
      obtain ⟨rx, hrx⟩ : ∃ r, (st (8 * i + (7 - c))).x.val = r := ⟨_, rfl⟩
      obtain ⟨ry, hry⟩ : ∃ r, (st (8 * i + (7 - c))).y.val = r := ⟨_, rfl⟩
      obtain ⟨rz, hrz⟩ : ∃ r, (st (8 * i + (7 - c))).z.val = r := ⟨_, rfl⟩
      rw [hrx, hry, hrz] at A1H
      have HRX : Hid ((st (8 * i + (7 - c))).x.val = rx ∧ (st (8 * i + (7 - c))).y.val = ry ∧ (st (8 * i + (7 - c))).z.val = rz) := ⟨hrx, hry, hrz⟩
      clear hrx hry hrz
      have h2i : ¬ (128 : Int) ≤ (y : Int) := by omega
      go_wp2_with (first
       | (refine wpList_exec rfl (exec_loadS HV4 0 rfl _ rfl rfl Tryz.underlying35 Tryz.szPl (tA_size _ _ _)) ?_)
       | (refine wpList_exec rfl (exec_loadS HV4 0 rfl _ rfl rfl Tryz.underlying35 Tryz.szPl (tA_size _ _ _)) ?_))
      refine (A1H.out wr).mono ?_
      rintro e w101 ⟨rfl, q103⟩
      have V102 := HV4.call q103
      clear q103 HV4
      go_wp2_with (refine wpList_storeV V102 0 rfl _ (.tmp 30) rfl rfl rfl (tA rx ry rz) rfl rfl Tryz.szPl (tA_size _ _ _) (tA_size _ _ _) (tA_one _ _ _) ?_; intro w104 V105)
      go_roundw
      case rel => exact ⟨c + 1, by omega, by go_num, by have h1 := HY.out; have h2 := HG2.out; go_num, by show Vars w _ _; rw [show 8 * i + (8 - (c + 1)) = 8 * i + (7 - c) by omega, HRX.out.1, HRX.out.2.1, HRX.out.2.2]; exact V105⟩
      case measure => simp [intOf] <;> omega
end Go.Proofs.YthangiocheodoaaGreatDoor.N
