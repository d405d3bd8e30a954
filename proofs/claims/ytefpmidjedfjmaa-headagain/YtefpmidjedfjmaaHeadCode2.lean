/-
  The code of layer 9 (head), as it landed: number, lay, Bytes.
-/
import Derived.Test.YtefpmidjedfjmaaHeadCode
namespace Go.Proofs.Ytefpmidjedfjmaa
open Go.RowKit
set_option linter.unusedVariables false
set_option maxRecDepth 8192

set_option maxHeartbeats 1600000 in
theorem hnumber_any (a : Option Addr) (len cap : Nat) (z : List Int) (i : Nat) (w : World) (hr : Row .u8 w a len cap z) (hb : IsB z) (hi : i ≤ 2) (h16 : 16 ≤ len) :
    Calls Try.prog 26 #[.slice a len cap, .int .i64 (i : Nat)] w fun e w' => e = .returned (.int .i64 (numAt z (4 + 4 * i))) ∧ w = w' := by
  obtain ⟨b, off, rfl, hbs, hcell⟩ := hr.hcell (by omega)
  have hm := hr.hmax
  have hcp := hr.hcap
  unfold maxLen at hm
  have HN : Hid (numTo z (4 + 4 * i) 4 = numAt z (4 + 4 * i)) := numTo_four z _
  have hF : 4 + 4 * i ≤ 12 := by omega
  have eF : 4 + (i : Int) * 4 = ((4 + 4 * i : Nat) : Int) := by omega
  go_enter Try.func26, Try.ntmps26
  go_wp2
  go_loop [6, 11] (fun n y => ∃ k : Nat, k ≤ 4 ∧ y = .int .i64 (k : Int) ∧ n = .int .i64 (numTo z (4 + 4 * i) k)) (fun _ y => 4 - (intOf y).toNat)
  case atStart => exact ⟨0, Nat.zero_le _, rfl, rfl⟩
  case round =>
    obtain ⟨k, hk, rfl, rfl⟩ := hrel
    by_cases hlt : k < 4
    · have hc1 := hcell (4 + 4 * i + k) (by omega)
      have hx := hb.idx (4 + 4 * i + k)
      have hn := numTo_bd hb (4 + 4 * i) k
      have HS : Hid (numTo z (4 + 4 * i) (k + 1) = numTo z (4 + 4 * i) k + z[4 + 4 * i + k]?.getD 0 * 256 ^ k) := rfl
      have HO : Hid (bits .or .i64 (numTo z (4 + 4 * i) k) (wrap64 (z[4 + 4 * i + k]?.getD 0 * 2 ^ (8 * k))) = numTo z (4 + 4 * i) k + z[4 + 4 * i + k]?.getD 0 * 256 ^ k) := or_num _ _ k hlt hn.1 hn.2 hx.1 hx.2
      generalize numTo z (4 + 4 * i) k = nn at *
      generalize z[4 + 4 * i + k]?.getD 0 = x at *
      go_wp2
      go_round
      case rel => exact ⟨k + 1, by omega, by go_num, by rw [HO.out, HS.out]⟩
      case measure => simp [intOf]; omega
    · have e : k = 4 := by omega
      subst e
      rw [HN.out]
      go_wp2
      go_ret
      exact ⟨rfl, rfl⟩
theorem byteCells_case : Lib.byteCells (ByteArray.mk #[99, 97, 115, 101]).data.toList = ([99, 97, 115, 101] : List Int).map (Value.int .u8) := rfl
/-- 'copy(page, "case")', page a row of noughts. -/
theorem copy_case {P : Program} {w0 w : World} {B g n : Nat} {dT sT elem ty : TypeId} (hu : P.underlying dT = some (.slice elem)) (hsz : (P.info? elem).map (·.size) = some 1)
    (hg : w.heap[g]? = some (.cells ((List.replicate n (0 : Int)).map (Value.int .u8)).toArray elem (0, 0))) (hle : 4 ≤ n) (hb : Below B w0 w) (hB : B ≤ g) :
    ∃ w2, Sem.run P (Builtin.copy_ #[dT, sT] ty #[.slice (some ⟨g, 0, none⟩) n n, .string (ByteArray.mk #[99, 97, 115, 101])]) w = .ok (.int .i64 4) w2 ∧ w2.heap[g]? = some (.cells (([99, 97, 115, 101] ++ List.replicate (n - 4) 0 : List Int).map (Value.int .u8)).toArray elem (0, 0)) ∧ Below B w0 w2 := by
  have hrun := Lib.run_copy_row_string (P := P) w dT sT ty elem g 0 n n (ByteArray.mk #[99, 97, 115, 101]) _ elem hu hsz hg (by show 4 ≤ n; omega) (by show 0 + 4 ≤ _; simp; omega)
  refine ⟨_, hrun, ?_, below_setRow hb hB _⟩
  rw [setRow_heap w g _ _ elem _ hg, byteCells_case]
  have e : List.drop (0 + (ByteArray.mk #[99, 97, 115, 101]).size) ((List.replicate n (0 : Int)).map (Value.int .u8)).toArray.toList = (List.replicate (n - 4) (0 : Int)).map (Value.int .u8) := by
    show List.drop 4 _ = _
    simp
  rw [e, List.map_append]
  rfl
set_option maxHeartbeats 3200000 in
theorem hlay_any (R : Nat) (a b c : Int) (ad : Option Addr) (cap : Nat) (w : World) (hr : Row .i64 w ad 3 cap [a, b, c]) (hR : 16 ≤ R ∧ R ≤ 4096) (ha : 0 ≤ a ∧ a < 4294967296) (hb : 0 ≤ b ∧ b < 4294967296) (hc : 0 ≤ c ∧ c < 4294967296) :
    Calls Try.prog 23 #[.int .i64 (R : Nat), .slice ad 3 cap] w fun e w' => e = .returned (.slice (some ⟨w.heap.size, 0, none⟩) R R) ∧ w'.ownsRow w.heap.size 5 1 (.slice (some ⟨w.heap.size, 0, none⟩) R R) R ((pageOf R a b c).map (Value.int .u8)) ∧ Below w.heap.size w w' := by
  obtain ⟨i0, hi0, hz0, hz1, hz2⟩ := info_parts Try.info5
  have hmax : R ≤ maxLen := by unfold maxLen; omega
  have hmk : ∀ w1 : World, w1.ownsRow w.heap.size 5 1 (.slice (some ⟨w.heap.size, 0, none⟩) R R) R (madeCells (Value.int IntKind.u8 0).cells (R * 1)).toList → w.grownBy w1 none → w1.heap[w.heap.size]? = some (.cells ((List.replicate R (0 : Int)).map (Value.int .u8)).toArray 5 (0, 0)) ∧ Below w.heap.size w w1 := fun w1 h1 h2 => by
    rw [made_ints] at h1
    exact ⟨heap_of_owns h1, (Below.refl _ _).grown h2 (Nat.le_refl _) (by simp)⟩
  have HX : Hid (∀ i, i < 3 → 0 ≤ [a, b, c][i]?.getD 0 ∧ [a, b, c][i]?.getD 0 < 4294967296 ∧ ∀ k, k < 4 → (pageTo R a b c (4 * i + k)).set (4 + (4 * i + k)) ([a, b, c][i]?.getD 0 / 256 ^ k % 256) = pageTo R a b c (4 * i + (k + 1))) := fun i hi => by
    refine ⟨?_, ?_, fun k hk => ?_⟩
    · rcases (show i = 0 ∨ i = 1 ∨ i = 2 by omega) with rfl | rfl | rfl
      · exact ha.1
      · exact hb.1
      · exact hc.1
    · rcases (show i = 0 ∨ i = 1 ∨ i = 2 by omega) with rfl | rfl | rfl
      · exact ha.2
      · exact hb.2
      · exact hc.2
    · rw [← sixteen_at a b c i k hi hk]
      exact pageTo_set a b c (4 * i + k) hR.1 (by omega)
  have HE : Hid (pageTo R a b c 12 = pageOf R a b c) := pageTo_end R a b c
  have HLN : Hid (∀ j, j ≤ 12 → (pageTo R a b c j).length = R) := fun j hj => pageTo_len a b c j hR.1 hj
  have H0 : Hid ([99, 97, 115, 101] ++ List.replicate (R - 4) 0 = pageTo R a b c 0) := pageTo_zero R a b c
  have hrow : Hid (Row .i64 w ad 3 cap [a, b, c]) := hr
  obtain ⟨nb, noff, rfl, _, _⟩ := hr.hcell (by decide)
  clear hr
  generalize hns : ([a, b, c] : List Int) = ns at *
  clear ha hb hc hns
  go_enter Try.func23, Try.ntmps23
  go_wp2_with (at_make; refine wpList_make_full _ rfl _ _ 30 rfl w.heap.size 5 i0 (.int .u8 0) 1 Try.underlying30 hi0 hz0 hz1 _ _ _ _ R rfl rfl rfl rfl (by rw [hz2]; omega) hmax (Nat.le_refl _) ?_; intro w1 hown1 hgrow1)
  obtain ⟨hg1, hb1⟩ := hmk w1 hown1 hgrow1
  obtain ⟨w2, hrun, hg2, hb2⟩ := copy_case (P := Try.prog) (dT := 30) (sT := 9) (ty := 3) (elem := 5) Try.underlying30 (by kernel_rfl) hg1 (show 4 ≤ R by omega) hb1 (Nat.le_refl _)
  rw [H0.out] at hg2
  have hown2 : w2.ownsRow w.heap.size 5 1 (.slice (some ⟨w.heap.size, 0, none⟩) R R) R ((pageTo R a b c (4 * 0)).map (Value.int .u8)) :=
    owns_of_heap hg2 (by rw [List.length_map]; exact HLN.out 0 (by omega)) (Nat.le_refl _) hmax
  rw [hrun]
  clear hg2 hg1 hb1 hmk hown1 hgrow1 hrun H0
  generalize hgg : w.heap.size = g at *
  have HGG : Hid (w.heap.size = g) := hgg
  clear hgg
  go_wp2
  go_loopw [6, 15] (fun at_ y wr => ∃ i : Nat, i ≤ 3 ∧ y = .int .i64 (i : Int) ∧ at_ = .int .i64 ((4 + 4 * i : Nat) : Int) ∧ wr.ownsRow g 5 1 (.slice (some ⟨g, 0, none⟩) R R) R ((pageTo R a b c (4 * i)).map (Value.int .u8)) ∧ Below g w wr) (fun _ y _ => 3 - (intOf y).toNat)
  case atStart => exact ⟨0, Nat.zero_le _, rfl, rfl, hown2, hb2⟩
  case round =>
    clear hown2 hb2
    obtain ⟨i, hi, rfl, rfl, hown, hnx⟩ := hrel
    by_cases hlt : i < 3
    · have hrr := hrow.out.below hnx (by rw [HGG.out]; exact Nat.le_refl _)
      obtain ⟨nb', noff', hnn, _, hcell⟩ := hrr.hcell (by decide)
      cases hnn
      have hc1 := hcell i hlt
      clear hcell hrr
      obtain ⟨hx0, hx1, hx2⟩ := HX.out i hlt
      have HX2 : Hid (∀ k, k < 4 → (pageTo R a b c (4 * i + k)).set (4 + (4 * i + k)) (ns[i]?.getD 0 / 256 ^ k % 256) = pageTo R a b c (4 * i + (k + 1))) := hx2
      clear hx2
      generalize ns[i]?.getD 0 = x at *
      have u5 : (i : Int) < 3 := by omega
      obtain ⟨wo, hwo⟩ : ∃ x, x = wr := ⟨_, rfl⟩
      subst hwo
      go_wp2
      go_loopw [6, 8, 19] (fun at_ n y wq => ∃ k : Nat, k ≤ 4 ∧ y = .int .i64 (k : Int) ∧ at_ = .int .i64 ((4 + (4 * i + k) : Nat) : Int) ∧ n = .int .i64 (x / 256 ^ k) ∧ wq.ownsRow g 5 1 (.slice (some ⟨g, 0, none⟩) R R) R ((pageTo R a b c (4 * i + k)).map (Value.int .u8)) ∧ Below g w wq) (fun _ _ y _ => 4 - (intOf y).toNat)
      case atStart => exact ⟨0, Nat.zero_le _, rfl, rfl, by simp, hown, hnx⟩
      case round =>
        clear hown hnx hc1
        obtain ⟨k, hk, rfl, rfl, rfl, hown, hnx⟩ := hrel
        by_cases hlt2 : k < 4
        · have hcl := owned_cell hown (4 + (4 * i + k)) (by omega)
          have hfz := hown.frozenAt (4 + (4 * i + k))
          have RR := owned_set (q := 4 + (4 * i + k)) (x := x / 256 ^ k % 256) (Nat.le_refl _) hown hnx
          rw [HX2.out k hlt2] at RR
          have HR : Hid _ := RR
          have HD : Hid (x / 256 ^ k / 256 = x / 256 ^ (k + 1)) := div_step x k
          have hd0 : 0 ≤ x / 256 ^ k := Int.ediv_nonneg hx0 (Int.pow_nonneg (by decide))
          have hd1 : x / 256 ^ k ≤ x := Int.ediv_le_self _ hx0
          clear RR hown hnx
          generalize (pageTo R a b c (4 * i + k))[4 + (4 * i + k)]?.getD 0 = zi at *
          generalize x / 256 ^ k = y at *
          have u6 : (k : Int) < 4 := by omega
          go_wp2
          go_roundw
          case rel => exact ⟨k + 1, by omega, by go_num, by go_num, by rw [HD.out], HR.out.1, HR.out.2⟩
          case measure => simp [intOf]; omega
        · have e : k = 4 := by omega
          subst e
          go_wp2
          go_roundw
          case rel => exact ⟨i + 1, by omega, by go_num, by go_num, hown, hnx⟩
          case measure => simp [intOf]; omega
    · have e : i = 3 := by omega
      subst e
      rw [HE.out] at hown
      go_wp2
      go_ret
      rw [HGG.out]
      exact ⟨rfl, hown, hnx⟩
theorem hBytes_geo (b p s n f x y z : Int) (w : World) (hm : mayG b p s n f = false) : Calls Try.prog 10 #[.agg #[.int .i64 b, .int .i64 p, .int .i64 s, .int .i64 n, .int .i64 f], .agg #[.int .i64 x, .int .i64 y, .int .i64 z]] w fun e w' => e = .returned (.tuple #[.slice none 0 0, .int .i64 1]) ∧ Below w.heap.size w w' := by
  go_enter Try.func10, Try.ntmps10
  go_wp2_with fail
  refine (sizes_no b p s n f _ hm).mono ?_
  rintro e w1 ⟨rfl, q1⟩
  go_wp2_with fail
  go_ret2
  exact ⟨rfl, btrans (below_two _ _ _) q1⟩
theorem hBytes_no {b p : Int} {s n : Nat} {f : Int} {R C : Nat} (G : GMay b p s n f R C) (x y z : Int) (w : World) (hm : mayH C x y z = false) : Calls Try.prog 10 #[.agg #[.int .i64 b, .int .i64 p, .int .i64 ((s : Nat)), .int .i64 ((n : Nat)), .int .i64 f], .agg #[.int .i64 x, .int .i64 y, .int .i64 z]] w fun e w' => e = .returned (.tuple #[.slice none 0 0, .int .i64 1]) ∧ Below w.heap.size w w' := by
  have hsz := sizes_yes G
  clear G
  go_enter Try.func10, Try.ntmps10
  go_wp2_with fail
  have q0 := below_two w (.cells #[.int .i64 b, .int .i64 p, .int .i64 s, .int .i64 n, .int .i64 f] 23) (.cells #[.int .i64 x, .int .i64 y, .int .i64 z] 25)
  have hx := hbox_two w (.cells #[.int .i64 b, .int .i64 p, .int .i64 s, .int .i64 n, .int .i64 f] 23) 25 x y z
  generalize (w.alloc (.cells #[.int .i64 b, .int .i64 p, .int .i64 s, .int .i64 n, .int .i64 f] 23)).alloc (.cells #[.int .i64 x, .int .i64 y, .int .i64 z] 25) = w0 at *
  refine (hsz _).mono ?_
  rintro e w1 ⟨rfl, q1⟩
  replace q0 := btrans q0 q1
  obtain ⟨_, c0, c1, c2⟩ := hx.below q1 (Nat.le_refl _)
  clear hx q1
  go_wp2_with fail
  refine (hMayBe_any x y z C _).mono ?_
  rintro e w2 ⟨rfl, q2⟩
  rw [hm]
  go_wp2_with fail
  go_ret2
  exact ⟨rfl, btrans q0 q2⟩
set_option maxHeartbeats 1600000 in
theorem hBytes_yes {b p : Int} {s n : Nat} {f : Int} {R C : Nat} (G : GMay b p s n f R C) (x y z : Int) (w : World) (hm : mayH C x y z = true) :
    Calls Try.prog 10 #[.agg #[.int .i64 b, .int .i64 p, .int .i64 ((s : Nat)), .int .i64 ((n : Nat)), .int .i64 f], .agg #[.int .i64 x, .int .i64 y, .int .i64 z]] w fun e w' => ∃ g, w.heap.size ≤ g ∧ e = .returned (.tuple #[.slice (some ⟨g, 0, none⟩) R R, .int .i64 0]) ∧ w'.ownsRow w.heap.size 5 1 (.slice (some ⟨g, 0, none⟩) R R) R ((pageOf R x y z).map (Value.int .u8)) ∧ Below w.heap.size w w' := by
  have hsz := sizes_yes G
  have hR := G.hR1
  have hC := G.hC1
  have hh := mayH_yes hm
  clear G
  go_enter Try.func10, Try.ntmps10
  go_wp2_with fail
  have q0 := below_two w (.cells #[.int .i64 b, .int .i64 p, .int .i64 s, .int .i64 n, .int .i64 f] 23) (.cells #[.int .i64 x, .int .i64 y, .int .i64 z] 25)
  have hx := hbox_two w (.cells #[.int .i64 b, .int .i64 p, .int .i64 s, .int .i64 n, .int .i64 f] 23) 25 x y z
  generalize (w.alloc (.cells #[.int .i64 b, .int .i64 p, .int .i64 s, .int .i64 n, .int .i64 f] 23)).alloc (.cells #[.int .i64 x, .int .i64 y, .int .i64 z] 25) = w0 at *
  refine (hsz _).mono ?_
  rintro e w1 ⟨rfl, q1⟩
  replace q0 := btrans q0 q1
  replace hx := hx.below q1 (Nat.le_refl _)
  clear q1
  have hx1 := hx
  obtain ⟨_, c0, c1, c2⟩ := hx1
  go_wp2_with fail
  refine (hMayBe_any x y z C _).mono ?_
  rintro e w2 ⟨rfl, q2⟩
  rw [hm]
  replace q0 := btrans q0 q2
  obtain ⟨_, c0, c1, c2⟩ := hx.below q2 (Nat.le_refl _)
  clear hx q2
  have rn := row_new .i64 w2 3 w2.heap.size rfl [x, y, z] 3 rfl (by unfold maxLen; omega) #[.int .i64 x, .int .i64 y, .int .i64 z] rfl
  have qn := below_one w2 (.cells #[.int .i64 x, .int .i64 y, .int .i64 z] 3)
  go_wp2_with fail
  generalize w2.alloc (.cells #[.int .i64 x, .int .i64 y, .int .i64 z] 3) = w3 at *
  generalize hg2 : w2.heap.size = g2 at *
  refine (hlay_any R x y z _ _ _ rn hR (by omega) (by omega) (by omega)).mono ?_
  rintro e w4 ⟨rfl, own4, q4⟩
  have qa := btrans (btrans q0 (by rw [hg2]; exact qn)) q4
  have hsz3 : w.heap.size ≤ w3.heap.size := (btrans q0 (by rw [hg2]; exact qn)).size
  clear q0 qn q4 rn c0 c1 c2
  generalize w3.heap.size = g3 at *
  go_wp2_with fail
  go_ret2
  exact ⟨g3, hsz3, rfl, owns_base own4 hsz3, qa⟩
end Go.Proofs.Ytefpmidjedfjmaa
