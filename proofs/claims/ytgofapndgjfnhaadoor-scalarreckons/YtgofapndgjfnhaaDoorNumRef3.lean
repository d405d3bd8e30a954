/-
  Layer 15's reference: Mul.
-/
import Derived.Test.YtgofapndgjfnhaaDoorNumRef
namespace Go.Proofs.YtgofapndgjfnhaaDoor.N
open Go.RowKit
set_option linter.unusedVariables false
set_option maxRecDepth 8192

theorem row_drewN {k : IntKind} {w : World} {a : Option Addr} {len cap : Nat} {zs : List Int} (h : Row k w a len cap zs) (n : Nat) : Row k (w.drewN n) a len cap zs := ⟨h.hlen, h.hcap, h.hmax, h.hnil, h.hcell⟩
set_option maxHeartbeats 3200000 in
theorem refMul15_any (a b : List Nat) (aa ab : Option Addr) (la ca lb cb : Nat) (w : World) (da : Dig a) (db : Dig b) (ha : Row .u8 w aa la ca (nI a)) (hb : Row .u8 w ab lb cb (nI b)) (hla : la ≤ 100000) (hlb : lb ≤ 100000) :
    Calls Tryd.prog 25 #[.slice aa la ca, .slice ab lb cb] w (Gives w (nb (vL a * vL b))) := by
  obtain ⟨i0, hi0, hz0, hz1, hz2⟩ := info_parts Tryd.info5
  have HA : Hid (a.length = la) := by have := ha.hlen; rwa [nI_length] at this
  have HBl : Hid (b.length = lb) := by have := hb.hlen; rwa [nI_length] at this
  have hmax : la + lb + 1 ≤ maxLen := by unfold maxLen; omega
  have hwr : IntKind.i64.wrap ((la : Int) + (lb : Int)) = ((la + lb : Nat) : Int) := by rw [IntKind.wrap_i64]; omega
  generalize hL : la + lb + 1 = L at *
  have hL9 : L ≤ 200001 := by omega
  go_enter Tryd.func25, Tryd.ntmps25
  go_wp2_with (at_make; refine wpList_make_full _ rfl _ _ 22 rfl w.heap.size 5 i0 (.int .u8 0) 1 Tryd.underlying22 hi0 hz0 hz1 _ _ _ _ L rfl rfl (by omega) (by omega) (by rw [hz2]; omega) hmax (Nat.le_refl _) ?_; intro w1 hown1 hgrow1)
  obtain ⟨A1, q1⟩ := made_arr hown1 hgrow1
  clear hown1 hgrow1
  have A2 : Arr w1 w.heap.size 5 .u8 (nI (List.replicate L 0)) := by simpa [nI] using A1
  clear A1
  go_wp2_with fail
  go_loopw [6] (fun y wr => ∃ (i : Nat) (out : List Nat), i ≤ la ∧ y = .int .i64 (i : Int) ∧ Hid (out.length = a.length + b.length + 1) ∧ Hid (Dig out) ∧ Hid (vL out = vTo (dg a) i * vL b) ∧ Hid (Arr wr w.heap.size 5 .u8 (nI out)) ∧ Hid (Below w.heap.size w wr)) (fun y _ => la - (intOf y).toNat)
  case atStart => exact ⟨0, List.replicate L 0, Nat.zero_le _, rfl, by rw [List.length_replicate, HA.out, HBl.out]; exact hL.symm, Dig.zero, by show _ = _; rw [vL_zero]; simp [vTo], A2, q1⟩
  case round =>
    clear A2 q1
    obtain ⟨i, o, hi, rfl, HOL, HOD, HOV, HO, HB⟩ := hrel
    by_cases hlt : i < la
    · have HT0 : Hid (TimI a b o o i 0 0) := TimI.begin HOL.out HOD.out HOV.out
      go_wp2
      go_loopw [7, 8] (fun c y ws => ∃ (k cc : Nat) (out : List Nat), k ≤ L ∧ y = .int .i64 (k : Int) ∧ c = .int .i64 (cc : Int) ∧ Hid (TimI a b o out i k cc) ∧ Hid (Arr ws w.heap.size 5 .u8 (nI out)) ∧ Hid (Below w.heap.size w ws)) (fun _ y _ => L + 1 - (intOf y).toNat)
      case atStart => exact ⟨0, 0, o, Nat.zero_le _, rfl, rfl, HT0, HO, HB⟩
      case round =>
        clear HOL HOD HOV HO HB HT0
        obtain ⟨k, c, out, hk, rfl, rfl, HT, HO, HB⟩ := hrel
        have hcl := HT.out.clt
        by_cases hgo : k < lb ∨ 0 < c
        · have hroom := HT.out.room da db (by rw [HA.out]; exact hlt) (by rw [HBl.out]; exact hgo)
          rw [HA.out, HBl.out, hL] at hroom
          have hik := hroom.1
          clear hroom
          have hik' : (i : Int) + (k : Int) < (L : Int) := by omega
          have HN : Hid (∀ x, x = dg out (i + k) + c + dg a i * dg b k → TimI a b o (out.set (i + k) (x % 256)) i (k + 1) (x / 256)) := fun x hx => HT.out.next da db (by rw [HA.out, HBl.out, hL]; exact hik) hx
          have HOL : Hid (out.length = L) := by show _ = _; rw [HT.out.len, HA.out, HBl.out, hL]
          have hcell := HO.out.cell (i + k) (by rw [nI_length, HOL.out]; exact hik)
          rw [nI_dg] at hcell
          have hfz := HO.out.unfrozen (i + k)
          have HS : Hid (∀ x : Nat, Arr (wr.setCell ⟨w.heap.size, i + k, none⟩ (.int .u8 ((x % 256 : Nat) : Int))) w.heap.size 5 .u8 (nI (out.set (i + k) (x % 256)))) := fun x => by
            have := HO.out.set (by rw [nI_length, HOL.out]; exact hmax) (i + k) ((x % 256 : Nat) : Int)
            rwa [nI_set] at this
          obtain ⟨bA, oA, rfl, hbA, hcA⟩ := (ha.below HB.out (Nat.le_refl _)).hcell (by omega)
          have hcA1 := hcA i hlt
          clear hcA
          rw [nI_dg] at hcA1
          have b1 := da.at i
          have b2 := db.at k
          have b3 := HT.out.dig.at (i + k)
          have hrb := hb.below HB.out (Nat.le_refl _)
          have cB := fun n => at15_any b ab lb cb k (wr.drewN n) (row_drewN hrb n) (by omega) (by omega) db
          have eik : IntKind.i64.wrap ((i : Int) + (k : Int)) = ((i + k : Nat) : Int) := by rw [IntKind.wrap_i64]; omega
          have eik2 : (i : Int) + (k : Int) = ((i + k : Nat) : Int) := by omega
          have hp := Nat.mul_le_mul (show dg a i ≤ 255 by omega) (show dg b k ≤ 255 by omega)
          generalize dg a i = x1 at *
          generalize dg b k = x2 at *
          generalize dg out (i + k) = x3 at *
          have hm : (x1 : Int) * (x2 : Int) = ((x1 * x2 : Nat) : Int) := (Int.natCast_mul x1 x2).symm
          generalize x1 * x2 = xx at *
          have hs : (x3 : Int) + (xx : Int) + (c : Int) = ((x3 + xx + c : Nat) : Int) := by omega
          have HN1 := HN.out (x3 + xx + c) (by omega)
          have HS1 := HS.out (x3 + xx + c)
          have hs9 : x3 + xx + c < 70000 := by omega
          generalize x3 + xx + c = x at *
          rw [show ((x % 256 : Nat) : Int) = (x : Int) % 256 from by omega] at HS1
          generalize hikk : i + k = ik at *
          have HIK : Hid (i + k = ik) := hikk
          clear hikk
          have hgo2 : (k : Int) < (lb : Int) ∨ ¬ (k : Int) < (lb : Int) ∧ (0 : Int) < (c : Int) := by omega
          clear HN HS hgo
          rcases hgo2 with h1 | ⟨h1, h2⟩
          all_goals
            go_wp2_with fail
            go_quiet (first | (go_at_call 23; with_reducible exact quiet_eq (cB _)))
            go_wp2
            go_roundw
            case rel => exact ⟨k + 1, x / 256, out.set ik (x % 256), by omega, by go_num, by go_num, HN1, HS1, (belowN HB.out _).setCell (Nat.le_refl _) _⟩
            case measure => simp [intOf] <;> omega
        · obtain rfl : c = 0 := by omega
          have hge : lb ≤ k := by omega
          have HV : Hid (vL out = vTo (dg a) (i + 1) * vL b) := HT.out.done (by rw [HBl.out]; exact hge)
          have HOL : Hid (out.length = a.length + b.length + 1) := HT.out.len
          have HOD : Hid (Dig out) := HT.out.dig
          clear HT hgo
          have hlb' : ¬ (k : Int) < (lb : Int) := by omega
          go_wp2
          go_roundw
          case rel => exact ⟨i + 1, out, by omega, by go_num, HOL, HOD, HV, HO, HB⟩
          case measure => simp [intOf]; omega
    · obtain rfl : i = la := by omega
      have HV : Hid (vL o = vL a * vL b) := by
        show _ = _
        rw [HOV.out, show vTo (dg a) i = vL a from by unfold vL; rw [HA.out]]
      have HOL2 : Hid (o.length = L) := by show _ = _; rw [HOL.out, HA.out, HBl.out, hL]
      have ro := HO.out.win 0 L L (by rw [nI_length, HOL2.out]; omega) (Nat.le_refl _) hmax
      rw [List.drop_zero, List.take_of_length_le (by rw [nI_length, HOL2.out]; exact Nat.le_refl _)] at ro
      have cN := refNorm15_any o HOD.out (some ⟨w.heap.size, 0, none⟩) L L wr ro (by omega)
      rw [HV.out] at cN
      go_wp2_with fail
      refine cN.mono ?_
      rintro e w3 ⟨a3, c3, rfl, r3, q3⟩
      have q4 := HB.out.trans (q3.mono HB.out.size)
      go_wp2_with fail
      go_ret
      exact ⟨_, _, rfl, r3, q4⟩
end Go.Proofs.YtgofapndgjfnhaaDoor.N
