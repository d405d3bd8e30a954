/-
  Layer 16's reference: Mul.
-/
import Derived.Test.YtacicjnhpklkfaaDoorFieldRef4
namespace Go.Proofs.YtacicjnhpklkfaaDoor.N
open Go.RowKit
set_option linter.unusedVariables false
set_option maxRecDepth 8192

theorem dV {a : Nat} (h : a < 2 ^ 256) : D.vL (D.digL a 16) = a := D.vL_digL_lt (by rw [show (65536 : Nat) ^ 16 = 2 ^ 256 from by decide]; exact h)
theorem byte_pair (V i : Nat) : digL V (2 * i) ++ [V / 65536 ^ i % 65536 % 256, V / 65536 ^ i % 65536 / 256] = digL V (2 * (i + 1)) := by
  rw [show 2 * (i + 1) = 2 * i + 1 + 1 from by omega, digL_succ, digL_succ, List.append_assoc]
  congr 1
  have e1 : 256 ^ (2 * i) = 65536 ^ i := by rw [Nat.pow_mul]
  have e2 : V / 256 ^ (2 * i + 1) = V / 65536 ^ i / 256 := by rw [Nat.pow_succ, e1, Nat.div_div_eq_div_mul]
  rw [e1, e2]
  generalize V / 65536 ^ i = b
  show [b % 65536 % 256, b % 65536 / 256] = [b % 256, b / 256 % 256]
  rw [show b % 65536 % 256 = b % 256 from by omega, show b % 65536 / 256 = b / 256 % 256 from by omega]
theorem cells_two_new (w : World) (x y : Value) (T : TypeId) : ∀ j u, [x, y][j]? = some u → (w.alloc (.cells #[x, y] T)).cell? ((⟨w.heap.size, 0, none⟩ : Addr).add j) = some u := by
  intro j u hu
  rw [plain_add, cell_of_row (w.alloc (.cells #[x, y] T)) w.heap.size _ _ _ _ (heap_alloc_last w _), Nat.zero_add]
  simpa using hu
theorem Tryd.szI32 : (Tryd.prog.info? 64).map (·.size) = some 32 := by kernel_rfl
theorem zeroI32 (w : World) : (zeroValue 64).run Tryd.prog w = .ok (.agg (arr .i64 (List.replicate 32 0))) w := by kernel_rfl
theorem zeroI17 (w : World) : (zeroValue 65).run Tryd.prog w = .ok (.agg (arr .i64 (List.replicate 17 0))) w := by kernel_rfl
set_option maxHeartbeats 6400000 in
theorem refMul_any (a b : Nat) (w : World) (ha : a < fP) (hb : b < fP) : Calls Tryd.prog 28 #[.agg (bA a), .agg (bA b)] w fun e w' => e = .returned (.agg (bA (a * b % fP))) ∧ Below w.heap.size w w' := by
  obtain ⟨i0, hi0, hz0, hz1, hz2⟩ := info_parts Tryd.info5
  have HAB : Hid (a < 2 ^ 256 ∧ b < 2 ^ 256) := ⟨Nat.lt_trans ha fP_lt256R, Nat.lt_trans hb fP_lt256R⟩
  clear ha hb
  obtain ⟨r, hr⟩ : ∃ r, a * b % fP = r := ⟨_, rfl⟩
  rw [hr]
  have HR : Hid (a * b % fP = r) := hr
  clear hr
  have V0 := Vars.start w
  go_enter Tryd.func28, Tryd.ntmps28
  go_wp2_with (first
    | (refine wpList_boxV V0 2 22 _ rfl rfl rfl (bA a) rfl ?_; intro w1 g2 V1)
    | (refine wpList_boxV V1 3 22 _ rfl rfl rfl (bA b) rfl ?_; intro w2 g3 V2)
    | (refine wpList_allocV V2 4 22 rfl rfl rfl (bA 0) zeroB ?_; intro w3 g4 V3)
    | (refine wpList_loadV V3 2 rfl 16 _ rfl rfl rfl rfl Tryd.underlying22 Tryd.szB (bA_size _) ?_))
  refine (digits_any a _).mono ?_
  rintro e w4 ⟨rfl, q4⟩
  have V4 := V3.call q4
  clear q4 V0 V1 V2 V3
  go_wp2_with (first
    | (refine wpList_allocV V4 5 62 rfl rfl rfl (dA 0) zeroD ?_; intro w5 g5 V5)
    | (refine wpList_storeV V5 0 rfl _ (.tmp 17) rfl rfl rfl (dA a) rfl rfl Tryd.szD (dA_size _) (dA_size _) (dA_one _) ?_; intro w6 V6)
    | (refine wpList_loadV V6 2 rfl 18 _ rfl rfl rfl rfl Tryd.underlying22 Tryd.szB (bA_size _) ?_))
  refine (digits_any b _).mono ?_
  rintro e w7 ⟨rfl, q7⟩
  have V7 := V6.call q7
  clear q7 V4 V5 V6
  go_wp2_with (first
    | (refine wpList_allocV V7 6 62 rfl rfl rfl (dA 0) zeroD ?_; intro w8 g6 V8)
    | (refine wpList_storeV V8 0 rfl _ (.tmp 19) rfl rfl rfl (dA b) rfl rfl Tryd.szD (dA_size _) (dA_size _) (dA_one _) ?_; intro w9 V9)
    | (refine wpList_allocV V9 7 64 rfl rfl rfl _ zeroI32 ?_; intro w10 g7 V10))
  clear V7 V8 V9
  have HX : Hid (D.Dig (D.digL a 16) ∧ D.Dig (D.digL b 16)) := ⟨D.digL_dig _ _, D.digL_dig _ _⟩
  go_loopw [8] (fun y wr => ∃ (i : Nat) (m : List Nat), i ≤ 16 ∧ y = .int .i64 (i : Int) ∧ Hid (D.WideI (D.digL a 16) (D.digL b 16) m i 0) ∧ Hid (Vars w wr [⟨g7, 64, arr .i64 m⟩, ⟨g6, 62, dA b⟩, ⟨g5, 62, dA a⟩, ⟨g4, 22, bA 0⟩, ⟨g3, 22, bA b⟩, ⟨g2, 22, bA a⟩])) (fun y _ => 16 - (intOf y).toNat)
  case atStart => exact ⟨0, List.replicate 32 0, by omega, rfl, D.WideI.start _ _, V10⟩
  case round =>
    clear V10
    obtain ⟨i, m, hi, rfl, HI, HV⟩ := hrel
    by_cases hlt : i < 16
    · have hi16 : (i : Int) < 16 := by omega
      go_wp2
      obtain ⟨wo, hwo⟩ : ∃ z, z = wr := ⟨_, rfl⟩
      subst hwo
      go_loopw [9] (fun y wr => ∃ (k : Nat) (m : List Nat), k ≤ 16 ∧ y = .int .i64 (k : Int) ∧ Hid (D.WideI (D.digL a 16) (D.digL b 16) m i k) ∧ Hid (Vars w wr [⟨g7, 64, arr .i64 m⟩, ⟨g6, 62, dA b⟩, ⟨g5, 62, dA a⟩, ⟨g4, 22, bA 0⟩, ⟨g3, 22, bA b⟩, ⟨g2, 22, bA a⟩])) (fun y _ => 16 - (intOf y).toNat)
      case atStart => exact ⟨0, m, by omega, rfl, HI.out, HV.out⟩
      case round =>
        clear HI HV m
        obtain ⟨k, m, hk, rfl, HI, HV⟩ := hrel
        by_cases hlk : k < 16
        · have V5 := HV.out
          have hc := arr_cell (V5.at 0 rfl) (i + k) (by rw [HI.out.len]; omega)
          rw [show m[i + k]?.getD 0 = D.dg m (i + k) from rfl] at hc
          have hfz := arr_unfrozen (V5.at 0 rfl) (i + k)
          have hcx : wr.cell? ⟨g5, i, none⟩ = some (.int .i64 ((D.dg (D.digL a 16) i : Nat) : Int)) := by rw [cell_of_row wr g5 _ _ _ _ (V5.at 2 rfl), dA_at a _ hlt]
          have hcy : wr.cell? ⟨g6, k, none⟩ = some (.int .i64 ((D.dg (D.digL b 16) k : Nat) : Int)) := by rw [cell_of_row wr g6 _ _ _ _ (V5.at 1 rfl), dA_at b _ hlk]
          have hx9 := HX.out.1.at i
          have hy9 := HX.out.2.at k
          have hz9 := HI.out.late (i + k) (Nat.le_refl _)
          have hz10 : i * 4294836225 ≤ 16 * 4294836225 := Nat.mul_le_mul_right _ (by omega)
          have hxy : D.dg (D.digL a 16) i * D.dg (D.digL b 16) k ≤ 65535 * 65535 := Nat.mul_le_mul (by omega) (by omega)
          have V6 := V5.setc 0 rfl (i + k) (D.dg m (i + k) + D.dg (D.digL a 16) i * D.dg (D.digL b 16) k)
          have HI6 : Hid (D.WideI (D.digL a 16) (D.digL b 16) (m.set (i + k) (D.dg m (i + k) + D.dg (D.digL a 16) i * D.dg (D.digL b 16) k)) i (k + 1)) := HI.out.next HX.out.1 HX.out.2 hlt hlk
          have HV6 : Hid (Vars w (wr.setCell ⟨g7, i + k, none⟩ (.int .i64 ((D.dg m (i + k) + D.dg (D.digL a 16) i * D.dg (D.digL b 16) k : Nat) : Int))) [⟨g7, 64, arr .i64 (m.set (i + k) (D.dg m (i + k) + D.dg (D.digL a 16) i * D.dg (D.digL b 16) k))⟩, ⟨g6, 62, dA b⟩, ⟨g5, 62, dA a⟩, ⟨g4, 22, bA 0⟩, ⟨g3, 22, bA b⟩, ⟨g2, 22, bA a⟩]) := V6
          clear V5 V6
          have exy : (D.dg (D.digL a 16) i : Int) * (D.dg (D.digL b 16) k : Int) = ((D.dg (D.digL a 16) i * D.dg (D.digL b 16) k : Nat) : Int) := (Int.natCast_mul _ _).symm
          generalize D.dg (D.digL a 16) i * D.dg (D.digL b 16) k = xy at *
          generalize D.dg (D.digL a 16) i = x at *
          generalize D.dg (D.digL b 16) k = y at *
          generalize D.dg m (i + k) = z at *
          have ew : IntKind.i64.wrap (xy : Int) = (xy : Int) := by rw [IntKind.wrap_i64]; omega
          have ez : IntKind.i64.wrap ((z : Int) + (xy : Int)) = ((z + xy : Nat) : Int) := by rw [IntKind.wrap_i64]; omega
          obtain ⟨ik, hik⟩ : ∃ ik, i + k = ik := ⟨_, rfl⟩
          have eik : (i : Int) + (k : Int) = (ik : Int) := by omega
          have eiw : IntKind.i64.wrap (ik : Int) = (ik : Int) := by rw [IntKind.wrap_i64]; omega
          have hik32 : (ik : Int) < 32 := by omega
          have hk16 : (k : Int) < 16 := by omega
          rw [hik] at hc hfz HI6 HV6
          obtain ⟨s, hs⟩ : ∃ s, z + xy = s := ⟨_, rfl⟩
          rw [hs] at ez HV6 HI6
          clear hik hs hz9 hz10 hxy
          go_wp2
          go_region
          go_wp2
          go_roundw
          case rel => exact ⟨k + 1, m.set ik s, by omega, by go_num, HI6, HV6.out.drew⟩
          case measure => simp [intOf]; omega
        · obtain rfl : k = 16 := by omega
          have HI5 : Hid (D.WideI (D.digL a 16) (D.digL b 16) m (i + 1) 0) := HI.out.line (D.digL_length _ _)
          go_wp2
          go_roundw
          case rel => exact ⟨i + 1, m, by omega, by go_num, HI5, HV.out⟩
          case measure => simp [intOf]; omega
    · obtain rfl : i = 16 := by omega
      have HM : Hid (D.vL m = a * b ∧ m.length = 32 ∧ ∀ j, D.dg m j ≤ 17 * 4294836225) := ⟨by rw [HI.out.done (D.digL_length _ _), dV HAB.out.1, dV HAB.out.2], HI.out.len, fun j => HI.out.all j⟩
      have V11 := HV.out
      clear HI HV
      go_wp2_with (refine wpList_allocV V11 10 65 rfl rfl rfl _ zeroI17 ?_; intro w12 g8 V12)
      clear V11
      go_loopw [11] (fun y wr => ∃ (i : Nat) (l : List Nat), i ≤ 16 ∧ y = .int .i64 (i : Int) ∧ Hid (D.LowI m l i) ∧ Hid (Vars w wr [⟨g8, 65, arr .i64 l⟩, ⟨g7, 64, arr .i64 m⟩, ⟨g6, 62, dA b⟩, ⟨g5, 62, dA a⟩, ⟨g4, 22, bA 0⟩, ⟨g3, 22, bA b⟩, ⟨g2, 22, bA a⟩])) (fun y _ => 16 - (intOf y).toNat)
      case atStart => exact ⟨0, List.replicate 17 0, by omega, rfl, D.LowI.start _, V12⟩
      case round =>
        clear V12
        obtain ⟨i, l, hi, rfl, HI, HV⟩ := hrel
        by_cases hlt : i < 16
        · have V5 := HV.out
          have hc := arr_cell (V5.at 0 rfl) i (by rw [HI.out.len]; omega)
          have hfz := arr_unfrozen (V5.at 0 rfl) i
          generalize l[i]?.getD 0 = old at *
          have hcx := arr_cell (V5.at 1 rfl) i (by rw [HM.out.2.1]; omega)
          have hcy := arr_cell (V5.at 1 rfl) (16 + i) (by rw [HM.out.2.1]; omega)
          rw [show m[i]?.getD 0 = D.dg m i from rfl] at hcx
          rw [show m[16 + i]?.getD 0 = D.dg m (16 + i) from rfl] at hcy
          have hx9 := HM.out.2.2 i
          have hy9 := HM.out.2.2 (16 + i)
          have V6 := V5.setc 0 rfl i (D.dg m i + 38 * D.dg m (16 + i))
          have HI6 : Hid (D.LowI m (l.set i (D.dg m i + 38 * D.dg m (16 + i))) (i + 1)) := HI.out.next HM.out.2.2 hlt
          have HV6 : Hid (Vars w (wr.setCell ⟨g8, i, none⟩ (.int .i64 ((D.dg m i + 38 * D.dg m (16 + i) : Nat) : Int))) [⟨g8, 65, arr .i64 (l.set i (D.dg m i + 38 * D.dg m (16 + i)))⟩, ⟨g7, 64, arr .i64 m⟩, ⟨g6, 62, dA b⟩, ⟨g5, 62, dA a⟩, ⟨g4, 22, bA 0⟩, ⟨g3, 22, bA b⟩, ⟨g2, 22, bA a⟩]) := V6
          clear V5 V6
          generalize D.dg m i = x at *
          generalize D.dg m (16 + i) = y at *
          obtain ⟨y2, hy2⟩ : ∃ y2, 38 * y = y2 := ⟨_, rfl⟩
          rw [hy2] at HI6 HV6
          have ey : IntKind.i64.wrap (38 * (y : Int)) = (y2 : Int) := by rw [IntKind.wrap_i64]; omega
          obtain ⟨s, hs⟩ : ∃ s, x + y2 = s := ⟨_, rfl⟩
          rw [hs] at HI6 HV6
          have es : IntKind.i64.wrap ((x : Int) + (y2 : Int)) = (s : Int) := by rw [IntKind.wrap_i64]; omega
          obtain ⟨i6, hi6⟩ : ∃ i6, 16 + i = i6 := ⟨_, rfl⟩
          rw [hi6] at hcy
          have ei : IntKind.i64.wrap (16 + (i : Int)) = (i6 : Int) := by rw [IntKind.wrap_i64]; omega
          have hi32 : (i6 : Int) < 32 := by omega
          have hi33 : (i : Int) < 32 := by omega
          have hi17 : (i : Int) < 17 := by omega
          have hi16 : (i : Int) < 16 := by omega
          clear hy2 hs hi6 hx9 hy9
          go_wp2
          go_region
          go_wp2
          go_roundw
          case rel => exact ⟨i + 1, l.set i s, by omega, by go_num, HI6, HV6.out.drew⟩
          case measure => simp [intOf]; omega
        · obtain rfl : i = 16 := by omega
          have HP : Hid (D.PassI (a * b) l 0) := by
            have := D.PassI.start HI.out HM.out.2.1
            rwa [HM.out.1] at this
          have V13 := HV.out
          clear HI HV
          go_wp2
          go_loopw [12] (fun y wr => ∃ (n : Nat) (l : List Nat), n ≤ 3 ∧ y = .int .i64 (n : Int) ∧ Hid (D.PassI (a * b) l n) ∧ Hid (Vars w wr [⟨g8, 65, arr .i64 l⟩, ⟨g7, 64, arr .i64 m⟩, ⟨g6, 62, dA b⟩, ⟨g5, 62, dA a⟩, ⟨g4, 22, bA 0⟩, ⟨g3, 22, bA b⟩, ⟨g2, 22, bA a⟩])) (fun y _ => 3 - (intOf y).toNat)
          case atStart => exact ⟨0, l, by omega, rfl, HP.out, V13⟩
          case round =>
            clear HP V13 l
            obtain ⟨n, l, hn, rfl, HP, HV⟩ := hrel
            by_cases hlt : n < 3
            · have hn3 : (n : Int) < 3 := by omega
              have HRI : Hid (D.RipI (D.vL l) l 0) := D.RipI.start HP.out.len HP.out.all
              have V14 := HV.out
              go_wp2
              obtain ⟨wo, hwo⟩ : ∃ z, z = wr := ⟨_, rfl⟩
              subst hwo
              generalize hVL : D.vL l = VL at *
              have HVL : Hid (D.vL l = VL) := hVL
              clear hVL
              go_loopw [13] (fun y wr => ∃ (i : Nat) (k : List Nat), i ≤ 16 ∧ y = .int .i64 (i : Int) ∧ Hid (D.RipI VL k i) ∧ Hid (Vars w wr [⟨g8, 65, arr .i64 k⟩, ⟨g7, 64, arr .i64 m⟩, ⟨g6, 62, dA b⟩, ⟨g5, 62, dA a⟩, ⟨g4, 22, bA 0⟩, ⟨g3, 22, bA b⟩, ⟨g2, 22, bA a⟩])) (fun y _ => 16 - (intOf y).toNat)
              case atStart => exact ⟨0, l, by omega, rfl, HRI.out, V14⟩
              case round =>
                clear HRI V14 HV
                obtain ⟨i, k, hi, rfl, HI, HV⟩ := hrel
                by_cases hlt : i < 16
                · have V5 := HV.out
                  have hc := arr_cell (V5.at 0 rfl) i (by rw [HI.out.len]; omega)
                  have hc1 := arr_cell (V5.at 0 rfl) (i + 1) (by rw [HI.out.len]; omega)
                  rw [show k[i]?.getD 0 = D.dg k i from rfl] at hc
                  rw [show k[i + 1]?.getD 0 = D.dg k (i + 1) from rfl] at hc1
                  have hfz1 := arr_unfrozen (V5.at 0 rfl) (i + 1)
                  have hx9 := HI.out.cur
                  have hy9 := HI.out.high (i + 1) (by omega)
                  have V6 := V5.setc 0 rfl (i + 1) (D.dg k (i + 1) + D.dg k i / 65536)
                  have HV6 : Hid (Vars w (wr.setCell ⟨g8, i + 1, none⟩ (.int .i64 ((D.dg k (i + 1) + D.dg k i / 65536 : Nat) : Int))) [⟨g8, 65, arr .i64 (k.set (i + 1) (D.dg k (i + 1) + D.dg k i / 65536))⟩, ⟨g7, 64, arr .i64 m⟩, ⟨g6, 62, dA b⟩, ⟨g5, 62, dA a⟩, ⟨g4, 22, bA 0⟩, ⟨g3, 22, bA b⟩, ⟨g2, 22, bA a⟩]) := V6
                  have hc6 := arr_cell (V6.at 0 rfl) i (by rw [List.length_set, HI.out.len]; omega)
                  rw [show (k.set (i + 1) (D.dg k (i + 1) + D.dg k i / 65536))[i]?.getD 0 = D.dg (k.set (i + 1) (D.dg k (i + 1) + D.dg k i / 65536)) i from rfl, D.dg_set (by rw [HI.out.len]; omega), if_neg (by omega)] at hc6
                  have hfz6 := arr_unfrozen (V6.at 0 rfl) i
                  have V7 := V6.setc 0 rfl i (D.dg k i % 65536)
                  have HV7 : Hid (Vars w ((wr.setCell ⟨g8, i + 1, none⟩ (.int .i64 ((D.dg k (i + 1) + D.dg k i / 65536 : Nat) : Int))).setCell ⟨g8, i, none⟩ (.int .i64 ((D.dg k i % 65536 : Nat) : Int))) [⟨g8, 65, arr .i64 ((k.set (i + 1) (D.dg k (i + 1) + D.dg k i / 65536)).set i (D.dg k i % 65536))⟩, ⟨g7, 64, arr .i64 m⟩, ⟨g6, 62, dA b⟩, ⟨g5, 62, dA a⟩, ⟨g4, 22, bA 0⟩, ⟨g3, 22, bA b⟩, ⟨g2, 22, bA a⟩]) := V7
                  have HI7 : Hid (D.RipI VL ((k.set (i + 1) (D.dg k (i + 1) + D.dg k i / 65536)).set i (D.dg k i % 65536)) (i + 1)) := HI.out.next hlt
                  clear V5 V6 V7
                  generalize (k.set (i + 1) (D.dg k (i + 1) + D.dg k i / 65536)).set i (D.dg k i % 65536) = k7 at *
                  generalize D.dg k i = x at *
                  generalize D.dg k (i + 1) = y at *
                  have et : (x : Int).tdiv 65536 = ((x / 65536 : Nat) : Int) := by rw [Int.tdiv_eq_ediv_of_nonneg (by omega)]; omega
                  have em : (x : Int).tmod 65536 = ((x % 65536 : Nat) : Int) := by rw [Int.tmod_eq_emod_of_nonneg (by omega)]; omega
                  have ewq : IntKind.i64.wrap ((x / 65536 : Nat) : Int) = ((x / 65536 : Nat) : Int) := by rw [IntKind.wrap_i64]; omega
                  have hq9 : x / 65536 ≤ x := Nat.div_le_self _ _
                  generalize x / 65536 = q at *
                  generalize x % 65536 = xm at *
                  obtain ⟨s, hs⟩ : ∃ s, y + q = s := ⟨_, rfl⟩
                  rw [hs] at HV6 hc6 hfz6 HV7
                  have es : IntKind.i64.wrap ((y : Int) + (q : Int)) = (s : Int) := by rw [IntKind.wrap_i64]; omega
                  obtain ⟨i1, hi1⟩ : ∃ i1, i + 1 = i1 := ⟨_, rfl⟩
                  have ei : IntKind.i64.wrap ((i : Int) + 1) = (i1 : Int) := by rw [IntKind.wrap_i64]; omega
                  have hi17 : (i1 : Int) < 17 := by omega
                  have hj17 : (i : Int) < 17 := by omega
                  have hj16 : (i : Int) < 16 := by omega
                  rw [hi1] at hc1 hfz1 hc6 hfz6 HV7
                  clear HV6 hs
                  have HI1 : Hid (i + 1 = i1) := hi1
                  clear hi1
                  go_wp2
                  go_region
                  go_wp2
                  go_roundw
                  case rel => exact ⟨i1, k7, by have := HI1.out; omega, by first | rfl | go_num, by rw [← HI1.out]; exact HI7, HV7.out.drew⟩
                  case measure => have := HI1.out; simp [intOf]; omega
                · obtain rfl : i = 16 := by omega
                  have V5 := HV.out
                  have hc0 := arr_cell (V5.at 0 rfl) 0 (by rw [HI.out.len]; omega)
                  have hc16 := arr_cell (V5.at 0 rfl) 16 (by rw [HI.out.len]; omega)
                  rw [show k[0]?.getD 0 = D.dg k 0 from rfl] at hc0
                  rw [show k[16]?.getD 0 = D.dg k 16 from rfl] at hc16
                  have hfz0 := arr_unfrozen (V5.at 0 rfl) 0
                  have hx9 := HI.out.low 0 (by omega)
                  have hy9 := HI.out.cur
                  have V6 := V5.setc 0 rfl 0 (D.dg k 0 + 38 * D.dg k 16)
                  have hc6 := arr_cell (V6.at 0 rfl) 16 (by rw [List.length_set, HI.out.len]; omega)
                  have hfz6 := arr_unfrozen (V6.at 0 rfl) 16
                  have V7 := V6.setc 0 rfl 16 0
                  have HV7 : Hid (Vars w ((wr.setCell ⟨g8, 0, none⟩ (.int .i64 ((D.dg k 0 + 38 * D.dg k 16 : Nat) : Int))).setCell ⟨g8, 16, none⟩ (.int .i64 0)) [⟨g8, 65, arr .i64 ((k.set 0 (D.dg k 0 + 38 * D.dg k 16)).set 16 0)⟩, ⟨g7, 64, arr .i64 m⟩, ⟨g6, 62, dA b⟩, ⟨g5, 62, dA a⟩, ⟨g4, 22, bA 0⟩, ⟨g3, 22, bA b⟩, ⟨g2, 22, bA a⟩]) := V7
                  have HP7 : Hid (D.PassI (a * b) ((k.set 0 (D.dg k 0 + 38 * D.dg k 16)).set 16 0) (n + 1)) := HP.out.next (by assumption) (by rw [HVL.out]; exact HI.out)
                  clear V5 V6 V7
                  generalize (k.set 0 (D.dg k 0 + 38 * D.dg k 16)).set 16 0 = k7 at *
                  generalize (k.set 0 (D.dg k 0 + 38 * D.dg k 16))[16]?.getD 0 = old at *
                  generalize D.dg k 0 = x at *
                  generalize D.dg k 16 = y at *
                  obtain ⟨y2, hy2⟩ : ∃ y2, 38 * y = y2 := ⟨_, rfl⟩
                  rw [hy2] at HV7 hc6 hfz6
                  have ey : IntKind.i64.wrap (38 * (y : Int)) = (y2 : Int) := by rw [IntKind.wrap_i64]; omega
                  obtain ⟨s, hs⟩ : ∃ s, x + y2 = s := ⟨_, rfl⟩
                  rw [hs] at HV7 hc6 hfz6
                  have es : IntKind.i64.wrap ((x : Int) + (y2 : Int)) = (s : Int) := by rw [IntKind.wrap_i64]; omega
                  clear hy2 hs hx9 hy9
                  go_wp2
                  go_roundw
                  case rel => exact ⟨n + 1, k7, by omega, by go_num, HP7, HV7.out⟩
                  case measure => simp [intOf]; omega
            · obtain rfl : n = 3 := by omega
              have hlt2 : D.vL l < 2 ^ 256 := by
                have := HP.out.lt
                simp only [D.passB] at this
                rwa [show (65536 : Nat) ^ 16 = 2 ^ 256 from by decide] at this
              have hdl : D.Dig l := fun x hx => by
                obtain ⟨j, hj, rfl⟩ := List.mem_iff_getElem.1 hx
                have := HP.out.dig rfl j
                unfold D.dg at this
                rwa [List.getElem?_eq_getElem hj] at this
              have HLow : Hid (D.Dig l ∧ D.vL l < 2 ^ 256 ∧ D.vL l % fP = r ∧ l.length = 17) := ⟨hdl, hlt2, by rw [HP.out.mod, HR.out], HP.out.len⟩
              clear hlt2 hdl
              have V15 := HV.out
              clear HP HV
              go_wp2
              obtain ⟨wL, hwL⟩ : ∃ z, z = wr := ⟨_, rfl⟩
              subst hwL
              obtain ⟨VL, hVL⟩ : ∃ v, D.vL l = v := ⟨_, rfl⟩
              rw [hVL] at HLow
              have HVL : Hid (D.vL l = VL) := hVL
              clear hVL
              rw [show ((16 : Nat) : Int) = 16 from rfl, show ((3 : Nat) : Int) = 3 from rfl]
              go_loopw [14, 15] (fun v y wr => ∃ i : Nat, i ≤ 16 ∧ y = .int .i64 (i : Int) ∧ Hid (wr.ownsRow wL.heap.size 5 1 v (2 * i) ((nI (digL VL (2 * i))).map (Value.int .u8))) ∧ Hid (Below wL.heap.size wL wr)) (fun _ y _ => 16 - (intOf y).toNat)
              case atStart => exact ⟨0, by omega, rfl, World.ownsRow_nil _ _ _ _, Below.refl _ _⟩
              case round =>
                obtain ⟨i, hi, rfl, HO, HB⟩ := hrel
                have sB := HB.out.size
                by_cases hlt : i < 16
                · have HC : Hid (∀ w', Below wL.heap.size wL w' → w'.cell? ⟨g8, i, none⟩ = some (.int .i64 ((VL / 65536 ^ i % 65536 : Nat) : Int))) := by
                    intro w' q
                    have := arr_cell ((V15.call q).at 0 rfl) i (by rw [HLow.out.2.2.2]; omega)
                    rw [show l[i]?.getD 0 = D.dg l i from rfl, D.dg_of HLow.out.1, HVL.out] at this
                    exact this
                  have HT := byte_pair VL i
                  have HTT : Hid (digL VL (2 * i) ++ [VL / 65536 ^ i % 65536 % 256, VL / 65536 ^ i % 65536 / 256] = digL VL (2 * (i + 1))) := HT
                  clear HT
                  have hd9 : VL / 65536 ^ i % 65536 < 65536 := Nat.mod_lt _ (by decide)
                  generalize VL / 65536 ^ i % 65536 = d at *
                  have et : (d : Int).tdiv 256 = ((d / 256 : Nat) : Int) := by rw [Int.tdiv_eq_ediv_of_nonneg (by omega)]; omega
                  have em : (d : Int).tmod 256 = ((d % 256 : Nat) : Int) := by rw [Int.tmod_eq_emod_of_nonneg (by omega)]; omega
                  have hq9 : d / 256 < 256 := by omega
                  have hm9 : d % 256 < 256 := by omega
                  generalize d / 256 = dq at *
                  generalize d % 256 = dm at *
                  have eq1 : IntKind.i64.wrap (dq : Int) = (dq : Int) := by rw [IntKind.wrap_i64]; omega
                  have eq2 : IntKind.u8.wrap (dq : Int) = (dq : Int) := by rw [IntKind.wrap_u8]; omega
                  have eq3 : IntKind.u8.wrap (dm : Int) = (dm : Int) := by rw [IntKind.wrap_u8]; omega
                  have hi17 : (i : Int) < 17 := by omega
                  have hi16 : (i : Int) < 16 := by omega
                  have hS : (fun w' => Below wL.heap.size wL w') wr.drew := HB.out.drew
                  have ownd : wr.drew.ownsRow wL.heap.size 5 1 _ (2 * i) ((nI (digL VL (2 * i))).map (Value.int .u8)) := HO.out
                  go_wp2
                  refine av_open (fun w' => Below wL.heap.size wL w') (by kernel_rfl) ?_
                  refine held_reads (rs := [0, 1, 2, 3, 4, 5, 6, 7, 8, 9, 10]) (fuel := 3) (by kernel_rfl) (fun c d v a w h => by cases d <;> exact h) (by kernel_rfl) hS (fun K hK => ?_)
                  refine calm_move _ rfl (by rfl) rfl ?_
                  go_simp
                  refine calm_move _ rfl (by rfl) rfl ?_
                  go_simp
                  refine calm_do (.pointer (some ⟨g8, i, none⟩)) rfl (by rfl) (fun w' hw' => ?_) ?_
                  · go_simp
                  go_simp
                  refine calm_do (.int .i64 (d : Int)) rfl (by rfl) (fun w' hw' => ?_) ?_
                  · have hcc := HC.out w' hw'
                    go_simp
                  go_simp
                  refine calm_do (.int .i64 (dm : Int)) rfl (by rfl) (fun w' hw' => ?_) ?_
                  · go_simp
                  go_simp
                  refine calm_do (.int .u8 (dm : Int)) rfl (by rfl) (fun w' hw' => ?_) ?_
                  · go_simp
                  go_simp
                  refine calm_move _ rfl (by rfl) rfl ?_
                  go_simp
                  refine calm_do (.pointer (some ⟨g8, i, none⟩)) rfl (by rfl) (fun w' hw' => ?_) ?_
                  · go_simp
                  go_simp
                  refine calm_do (.int .i64 (d : Int)) rfl (by rfl) (fun w' hw' => ?_) ?_
                  · have hcc := HC.out w' hw'
                    go_simp
                  go_simp
                  refine calm_do (.int .i64 (dq : Int)) rfl (by rfl) (fun w' hw' => ?_) ?_
                  · go_simp
                  go_simp
                  refine calm_do (.int .u8 (dq : Int)) rfl (by rfl) (fun w' hw' => ?_) ?_
                  · go_simp
                  go_simp
                  refine calm_nil (hK.out _ ?_)
                  clear hK K
                  refine av_op (i := 11) (fuel := 2) (by kernel_rfl) rfl (by rfl) (fun K hK => ?_)
                  have hS2 : Below wL.heap.size wL (wr.drew.alloc (.cells #[.int .u8 (dm : Int), .int .u8 (dq : Int)] 5)) := Below.alloc hS sB _
                  go_simp
                  refine hK _ _ hS2 ?_
                  clear hK K
                  refine av_op (i := 12) (fuel := 1) (by kernel_rfl) rfl (by rfl) (fun K hK => ?_)
                  refine wp_append_own _ (.tmp 98) (.tmp 109) 25 rfl wL.heap.size 5 i0 (.int .u8 0) 1 1 Tryd.underlying25 hi0 hz0 hz1 hz2 rfl (by decide) _ _ _ rfl (ownd.alloc _) ⟨wr.heap.size, 0, none⟩ 2 2 [.int .u8 (dm : Int), .int .u8 (dq : Int)] rfl rfl (cells_two_new wr.drew _ _ _) (by intro u hu; simp at hu; rcases hu with rfl | rfl <;> rfl) (by unfold maxLen; omega) (by omega) (by simp; omega) ?_
                  intro v' w9 hown' hgrow _
                  have R2 : Below wL.heap.size wL w9 := hS2.grown hgrow (by simp; omega) (fun j hj => (ownd.lt j hj).1)
                  have R1 : w9.ownsRow wL.heap.size 5 1 v' (2 * (i + 1)) ((nI (digL VL (2 * (i + 1)))).map (Value.int .u8)) := by
                    rw [← HTT.out, nI_append, List.map_append]
                    exact hown'
                  clear hown' hgrow
                  refine hK _ _ R2 ?_
                  clear hK K
                  refine held_reads (rs := [13]) (fuel := 0) (by kernel_rfl) (fun c d v a w h => by cases d <;> exact h) (by kernel_rfl) R2 (fun K hK => ?_)
                  go_simp
                  refine calm_assign _ rfl (by rfl) rfl ?_
                  go_simp
                  refine calm_nil (hK.out _ ?_)
                  clear hK K
                  refine wpAnyH_done (by kernel_rfl) ?_ _
                  go_wp2
                  go_roundw
                  case rel => exact ⟨i + 1, by omega, by go_num, R1, R2⟩
                  case measure => simp [intOf]; omega
                · obtain rfl : i = 16 := by omega
                  obtain ⟨ao, co, rfl, ro⟩ := row_of_owns HO.out
                  have V16 := V15.call HB.out
                  have cR := refRound_any (digL VL 32) (digL_dig _ _) ao 32 co wr ro (by decide)
                  rw [vB HLow.out.2.1, HLow.out.2.2.1] at cR
                  unfold Gives at cR
                  have hr9 : r < 2 ^ 256 := by rw [← HR.out]; exact Nat.lt_trans (mod_fP _) fP_lt256R
                  have hl9 : (nb r).length ≤ 32 := nb_len (by rw [b256]; exact hr9)
                  have HF : Hid (∀ (w : World) (a1 : Option Addr) (c1 : Nat), Row .u8 w a1 (nb r).length c1 (nI (nb r)) → Calls Tryd.prog 47 #[.slice a1 (nb r).length c1] w fun e w' => e = .returned (.agg (bA r)) ∧ Below w.heap.size w w') := by
                    intro w a1 c1 hr
                    have := refFull_any (nb r) (dig_nb r) a1 (nb r).length c1 w hr hl9
                    rwa [vL_nb] at this
                  clear V15 HO HB ro hr9 hl9 sB
                  generalize (nb r).length = nr at *
                  go_wp2_with fail
                  refine cR.mono ?_
                  rintro e w17 ⟨a17, c17, rfl, r17, q17⟩
                  have V17 := V16.call q17
                  clear cR q17 V16
                  go_wp2_with fail
                  refine (HF.out w17 a17 c17 r17).mono ?_
                  rintro e w18 ⟨rfl, q18⟩
                  have V18 := V17.call q18
                  clear q18 V17 r17
                  go_wp2_with (refine wpList_storeV V18 4 rfl _ _ rfl rfl rfl (bA r) rfl rfl Tryd.szB (bA_size _) (bA_size _) (bA_one _) ?_; intro w19 V19)
                  exact bodyPost_ret (resV1 rfl _ V19 4 rfl rfl Tryd.underlying22 Tryd.szB (bA_size _)) rfl ⟨rfl, V19.bel⟩
end Go.Proofs.YtacicjnhpklkfaaDoor.N
