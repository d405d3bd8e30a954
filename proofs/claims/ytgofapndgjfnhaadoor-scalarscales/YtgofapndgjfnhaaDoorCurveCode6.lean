/-
  The code of layer 17 (curve): Add, Neg, Scale.
-/
import Derived.Test.YtgofapndgjfnhaaDoorCurveCode4
import Derived.Test.YtgofapndgjfnhaaDoorCurveCode5
namespace Go.Proofs.YtgofapndgjfnhaaDoor.N
open Go.RowKit
set_option linter.unusedVariables false
set_option maxRecDepth 8192

set_option maxHeartbeats 800000 in
theorem cScale_no (x y : Nat) (ad : Option Addr) (len cap : Nat) (w : World) (hd : DAt w) (hx : x < 2 ^ 256) (hy : y < 2 ^ 256) (h : ¬ OnN x y) : Calls Tryd.prog 19 #[.slice ad len cap, .agg (pA x y)] w fun e w' => e = .returned (.tuple #[.agg (pA 0 0), .int .i64 170]) ∧ Below w.heap.size w w' := by
  have HX : Hid (∀ w, DAt w → Calls Tryd.prog 21 #[.agg (pA x y)] w fun e w' => e = .returned (.bool false) ∧ Below w.heap.size w w') := fun w hd => on_no hx hy h w hd
  clear hx hy h
  have V0 := Vars.start w
  go_enter Tryd.func19, Tryd.ntmps19
  go_wp2_with (first
    | (refine wpList_boxV V0 3 36 _ rfl rfl rfl (pA x y) rfl ?_; intro w1 g2 V3)
    | (refine wpList_allocV V3 4 36 rfl rfl rfl (pA 0 0) zeroP ?_; intro w4 g5 V6)
    | (refine wpList_exec rfl (exec_loadS V6 1 rfl _ rfl rfl Tryd.underlying36 Tryd.szP (pA_size _ _)) ?_))
  refine (HX.out w4 (hd.of V6)).mono ?_
  rintro e w7 ⟨rfl, q9⟩
  have V8 := V6.call q9
  clear q9 V6
  go_wp2_with (first
    | (refine wpList_buildV 9 36 _ rfl rfl rfl (pA 0 0) built_P0 ?_)
    | (refine wpList_storeV V8 0 rfl _ (.tmp 9) rfl rfl rfl (pA 0 0) rfl rfl Tryd.szP (pA_size _ _) (pA_size _ _) (pA_one _ _) ?_; intro w10 V11))
  exact bodyPost_ret (resS2 rfl _ V11 0 rfl rfl Tryd.underlying36 Tryd.szP (pA_size _ _)) rfl ⟨rfl, V11.bel⟩
theorem vL_bits {z : List Nat} (dz : Dig z) {len : Nat} (h : z.length = len) : vL z < 2 ^ (8 * len) := by
  have := dz.vL_lt
  rw [h] at this
  rwa [Nat.pow_mul]
set_option maxHeartbeats 1600000 in
theorem cScale_yes (z : List Nat) (dz : Dig z) (ad : Option Addr) (len cap : Nat) {p : Pt} (hp : OnC p) (w : World) (hd : DAt w) (hr : Row .u8 w ad len cap (nI z)) (hl : len ≤ 1000) :
    Calls Tryd.prog 19 #[.slice ad len cap, .agg (pA p.x.val p.y.val)] w fun e w' => e = .returned (.tuple #[.agg (pA (ptimes (vL z) p).x.val (ptimes (vL z) p).y.val), .int .i64 0]) ∧ Below w.heap.size w w' := by
  have HX : Hid (∀ w, DAt w → Calls Tryd.prog 21 #[.agg (pA p.x.val p.y.val)] w fun e w' => e = .returned (.bool true) ∧ Below w.heap.size w w') := fun w hd => on_yes hp w hd
  obtain ⟨t, ht⟩ : ∃ t, t = run3 ⟨p.x, p.y, 1⟩ (vL z) (8 * len) (8 * len) := ⟨_, rfl⟩
  have hlz : z.length = len := by have := hr.hlen; rwa [nI_length] at this
  have HP : Hid (∀ w, DAt w → Row .u8 w ad len cap (nI z) → Calls Tryd.prog 31 #[.slice ad len cap, .agg (tA p.x.val p.y.val 1)] w fun e w' => e = .returned (.agg (tA t.x.val t.y.val t.z.val)) ∧ Below w.heap.size w w') := fun w hd hr => by rw [ht]; exact scaled_any z dz ad len cap ⟨p.x, p.y, 1⟩ w hd hr hl
  have HD : Hid (∀ w, Calls Tryd.prog 33 #[.agg (tA t.x.val t.y.val t.z.val)] w fun e w' => e = .returned (.agg (pA (ptimes (vL z) p).x.val (ptimes (vL z) p).y.val)) ∧ Below w.heap.size w w') := fun w => divided_any t (ptimes (vL z) p) (by rw [ht]; exact (Stands.one p).all hp (vL z) (8 * len) (vL_bits dz hlz)) w
  have HR : Hid (Row .u8 w ad len cap (nI z)) := hr
  clear ht hp hlz hr dz hl
  generalize (ptimes (vL z) p).x.val = rx at *
  generalize (ptimes (vL z) p).y.val = ry at *
  generalize t.x.val = tx at *
  generalize t.y.val = ty at *
  generalize t.z.val = tz at *
  generalize p.x.val = x at *
  generalize p.y.val = y at *
  have V0 := Vars.start w
  go_enter Tryd.func19, Tryd.ntmps19
  go_wp2_with (first
    | (refine wpList_boxV V0 3 36 _ rfl rfl rfl (pA x y) rfl ?_; intro w1 g2 V3)
    | (refine wpList_allocV V3 4 36 rfl rfl rfl (pA 0 0) zeroP ?_; intro w4 g5 V6)
    | (refine wpList_exec rfl (exec_loadS V6 1 rfl _ rfl rfl Tryd.underlying36 Tryd.szP (pA_size _ _)) ?_))
  refine (HX.out w4 (hd.of V6)).mono ?_
  rintro e w7 ⟨rfl, q9⟩
  have V8 := V6.call q9
  clear q9 V6
  go_wp2_with (refine wpList_exec rfl (exec_loadS V8 1 rfl _ rfl rfl Tryd.underlying36 Tryd.szP (pA_size _ _)) ?_)
  refine (third_any x y w7).mono ?_
  rintro e w10 ⟨rfl, q12⟩
  have V11 := V8.call q12
  clear q12 V8
  go_wp2_with fail
  refine (HP.out w10 (hd.of V11) (HR.out.below V11.bel (Nat.le_refl _))).mono ?_
  rintro e w13 ⟨rfl, q15⟩
  have V14 := V11.call q15
  clear q15 V11
  go_wp2_with fail
  refine (HD.out w13).mono ?_
  rintro e w16 ⟨rfl, q18⟩
  have V17 := V14.call q18
  clear q18 V14
  go_wp2_with (refine wpList_storeV V17 0 rfl _ (.tmp 14) rfl rfl rfl (pA rx ry) rfl rfl Tryd.szP (pA_size _ _) (pA_size _ _) (pA_one _ _) ?_; intro w19 V20)
  exact bodyPost_ret (resS2 rfl _ V20 0 rfl rfl Tryd.underlying36 Tryd.szP (pA_size _ _)) rfl ⟨rfl, V20.bel⟩
end Go.Proofs.YtgofapndgjfnhaaDoor.N
