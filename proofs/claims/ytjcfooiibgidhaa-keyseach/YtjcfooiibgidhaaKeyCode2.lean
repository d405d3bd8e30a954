/-
  The code of layer 21 (keys), as it landed: key.
-/
import Derived.Test.YtjcfooiibgidhaaKeyCode
import Derived.Test.YtjcfooiibgidhaaFlow
import Derived.Test.YtjcfooiibgidhaaNumCode
namespace Go.Proofs.Ytjcfooiibgidhaa.N
open Go.RowKit
set_option linter.unusedVariables false
set_option maxRecDepth 8192

/-- 32 bytes are copied into a key. -/
theorem run_copyK {w : World} {g n c : Nat} {T : TypeId} {a : Option Addr} {x : Int} {d D : List Int} {r : Bool} (hd : d.length = 32) (hg : w.heap[g]? = some (.cells (kA ⟨x, d, r⟩) T (0, 0))) (hr : Row .u8 w a n c D) (hn : 32 ≤ n) (ty : TypeId) :
    Sem.run Try.prog (Builtin.copy_ #[24, 24] ty #[.slice (some ⟨g, 1, none⟩) 32 32, .slice a n c]) w = .ok (.int .i64 32) (w.setRow g (kA ⟨x, D.take 32, r⟩)) := by
  obtain ⟨b, off, rfl, hbs, hcell⟩ := hr.hcell (by omega)
  have hl := hr.hlen
  have hl2 : (D.take 32).length = 32 := by rw [List.length_take]; omega
  have hl3 : ((D.take 32).map (Value.int .u8)).length = 32 := by rw [List.length_map, hl2]
  have hrun := run_copy_row (P := Try.prog) w 24 24 ty 5 g 1 32 32 ⟨b, off, none⟩ n c (kA ⟨x, d, r⟩) T ((D.take 32).map (Value.int .u8)) Try.underlying24 Try.szU8 hg (by rw [hl3]; exact (Nat.min_eq_right hn).symm)
    (cells_row hl2 (fun i hi => by rw [hcell i (by omega), List.getElem?_take, if_pos hi])) (by rw [hl3]; simp [kA, kC, dC, hd]) (ints_oneCell _ _)
  rw [hrun]
  have e : (List.take 1 (kA ⟨x, d, r⟩).toList ++ (D.take 32).map (Value.int .u8) ++ List.drop (1 + ((D.take 32).map (Value.int .u8)).length) (kA ⟨x, d, r⟩).toList).toArray = kA ⟨x, D.take 32, r⟩ := by
    rw [hl3]
    have e1 : List.drop (1 + 32) (kA ⟨x, d, r⟩).toList = [.bool r] := by
      show List.drop 32 (dC d ++ [.bool r]) = _
      rw [List.drop_append, dC_len hd, List.drop_eq_nil_of_le (by rw [dC_len hd]; exact Nat.le_refl _)]
      rfl
    rw [e1]
    rfl
  rw [e, hl3]
  rfl
theorem built_ky (x : Int) (r : Bool) : Try.prog.built 39 [(0, .int .i64 x), (2, .bool r)] = some (kA ⟨x, zero32, r⟩) := by kernel_rfl
set_option maxHeartbeats 1600000 in
theorem key_any {w : World} {a : Option Addr} {n c : Nat} {z : List Int} (hr : Row .u8 w a n c z) (hz : IsB z) (hn : 37 ≤ n) :
    Calls Try.prog 25 #[.slice a n c] w fun e w' => e = .returned (.agg (kA (kyAt mP z 0))) ∧ Below w.heap.size w w' := by
  have V0 := Vars.start w
  have hcap := hr.hcap
  have hmax := hr.hmax
  unfold maxLen at hmax
  have hx := hz.idx 36
  have HK : Hid (kyAt mP z 0 = ⟨numAt z 0, (z.drop 4).take 32, mP (z[36]?.getD 0)⟩) := rfl
  obtain ⟨b, off, rfl, hbs, hcell⟩ := hr.hcell (by omega)
  have c36 := hcell 36 (by omega)
  clear hcell
  go_enter Try.func25, Try.ntmps25
  go_wp2_with (refine wpList_allocV V0 2 39 rfl rfl rfl (kA ky0) zeroKy ?_; intro w1 g1 V1)
  have cw : w1.drew.cell? ⟨b, off + 36, none⟩ = some (.int .u8 (z[36]?.getD 0)) := by rw [V1.bel.drew.cell (show b < w.heap.size from hbs)]; exact c36
  have rd : Row .u8 w1.drew (some ⟨b, off, none⟩) n c z := hr.below V1.bel.drew (Nat.le_refl _)
  clear c36
  have HN : Hid (∀ w', Since w1.drew w' → Calls Try.prog 30 #[.slice (some ⟨b, off, none⟩) n c] w' fun e w'' => e = .returned (.int .i64 (numAt z 0)) ∧ w' = w'') := fun w' q => kNumber_any (rd.below q (Nat.le_refl _)) hz (by omega)
  generalize numAt z 0 = x at *
  generalize z[36]?.getD 0 = y at *
  have V2 := V1.drew
  refine av_open (fun _ => True) (by kernel_rfl) ?_
  refine fl_begin (fuel := 9) (m := 1) (stop := marked [0, 1, 2, 3, 4, 5, 6, 7, 8] (Array.replicate 10 false)) (fun _ _ => trivial) V2 ?_
  refine fl_float (fuel := 8) (i := 8) 3 39 (kA ky0) (by kernel_rfl) (by kernel_rfl) (fun c d v a w h => by cases d <;> exact h) zeroKy (by kernel_rfl) ?_
  refine fl_reads (rs := [0, 2, 3, 4]) (fuel := 4) (by kernel_rfl) (fun c d v a w h => by cases d <;> exact h) (by kernel_rfl) (fun K hK => ?_)
  refine calm_move _ rfl (by rfl) rfl ?_
  go_simp
  refine calm_move _ rfl (by rfl) rfl ?_
  go_simp
  refine calm_do (.pointer (some ⟨b, off + 36, none⟩)) rfl (by rfl) (fun w' hw' => ?_) ?_
  · go_simp
    intro h
    omega
  go_simp
  refine calm_do (.int .u8 y) rfl (by rfl) (fun w' hw' => ?_) ?_
  · have c36 : w'.cell? ⟨b, off + 36, none⟩ = some (.int .u8 y) := by rw [hw'.cell (lt_of_cell cw)]; exact cw
    go_simp
  go_simp
  refine calm_nil (hK.out _ ?_)
  clear hK K
  refine fl_op (i := 1) (fuel := 3) (by kernel_rfl) (by kernel_rfl) rfl (by rfl) (fun w3 q3 V3 K hK => ?_)
  go_simp
  refine (HN.out w3 q3).mono ?_
  rintro e w4 ⟨rfl, rfl⟩
  refine hK [] _ _ (Since.refl _) (Fresh.nil _ _) ?_
  clear hK K
  refine fl_op (i := 5) (fuel := 2) (by kernel_rfl) (by kernel_rfl) rfl (by rfl) (fun w4 q4 V4 K hK => ?_)
  go_simp
  refine (kMark_any false w4).mono ?_
  rintro e w5 ⟨rfl, rfl⟩
  refine hK [] _ _ (Since.refl _) (Fresh.nil _ _) ?_
  clear hK K
  refine fl_reads (rs := [6, 7]) (fuel := 0) (by kernel_rfl) (fun c d v a w h => by cases d <;> exact h) (by kernel_rfl) (fun K hK => ?_)
  go_simp
  refine calm_do (.bool (mP y)) rfl (by rfl) (fun w' hw' => ?_) ?_
  · go_simp
    by_cases h : y = 0 <;> simp [mP, kBit, h]
  go_simp
  refine calm_do (.agg (kA ⟨x, zero32, mP y⟩)) rfl (by rfl) (fun w' hw' => ?_) ?_
  · refine exec_buildV 39 _ rfl (kA ⟨x, zero32, mP y⟩) ?_
    exact built_ky x (mP y)
  go_simp
  refine calm_nil (hK.out _ ?_)
  clear hK K
  refine fl_end1 (by kernel_rfl) (fun w6 g6 q6 V6 => ?_)
  generalize mP y = r at *
  have hk0 : (⟨x, zero32, r⟩ : Ky).Ok := ⟨ky0_ok.len, ky0_ok.byt⟩
  refine av_op (i := 9) (fuel := 0) (by kernel_rfl) rfl (by rfl) (fun K hK => ?_)
  refine wp_storeV V6 0 rfl _ _ rfl rfl (kA ⟨x, zero32, r⟩) rfl rfl Try.szKy (kA_size ky0_ok) (kA_size hk0) (kA_one _) (fun w7 V7 => ?_)
  refine hK _ _ trivial ?_
  clear hK K
  refine wpAnyH_done (by kernel_rfl) ?_ _
  replace V7 : Vars w w7 [⟨g6, 39, kA ⟨x, zero32, r⟩⟩, ⟨g1, 39, kA ky0⟩] := V7
  have rs := row_drop (hr.below V7.bel.drew (Nat.le_refl _)) 4 (by omega)
  have HD : Hid (z.drop 4 = z.drop 4) := rfl
  clear V0 V1 V2 V3 V4 V6 cw rd HN HD hr q3 q4 q6
  go_wp2_with fail
  refine av_open (fun _ => True) (by kernel_rfl) ?_
  refine held_reads (rs := [0, 1, 2, 3]) (fuel := 1) (by kernel_rfl) (fun c d v a w h => by cases d <;> exact h) (by kernel_rfl) trivial (fun K hK => ?_)
  refine calm_do (.pointer (some ⟨g6, 1, none⟩)) rfl (by rfl) (fun w' hw' => ?_) ?_
  · go_simp
  go_simp
  refine calm_do (.slice (some ⟨g6, 1, none⟩) 32 32) rfl (by rfl) (fun w' hw' => exec_sliceDig g6 1 _ rfl rfl) ?_
  go_simp
  refine calm_move _ rfl (by rfl) rfl ?_
  go_simp
  refine calm_do (.slice (some ⟨b, off + 4, none⟩) (n - 4) (c - 4)) rfl (by rfl) (fun w' hw' => ?_) ?_
  · go_simp
    rw [if_pos (by omega), if_neg (by omega)]
  go_simp
  refine calm_nil (hK.out _ ?_)
  clear hK K
  have V8 := V7.drew
  have hcp := run_copyK (by rfl) (V8.at 0 rfl) rs (by omega) 3
  refine av_op (i := 4) (fuel := 0) (by kernel_rfl) rfl (by rfl) (fun K hK => ?_)
  go_simp
  refine hK _ _ trivial ?_
  clear hK K hcp
  have V9 := V8.store 0 rfl (kA ⟨x, (z.drop 4).take 32, r⟩)
  have hO : (⟨x, (z.drop 4).take 32, r⟩ : Ky).Ok := ⟨by show ((z.drop 4).take 32).length = 32; rw [List.length_take, rs.hlen]; omega, isB_take (isB_drop hz _) _⟩
  replace V9 : Vars w (w7.drew.setRow g6 (kA ⟨x, (z.drop 4).take 32, r⟩)) [⟨g6, 39, kA ⟨x, (z.drop 4).take 32, r⟩⟩, ⟨g1, 39, kA ky0⟩] := V9
  clear V7 V8 rs hx
  generalize (⟨x, (z.drop 4).take 32, r⟩ : Ky) = s at *
  generalize w7.drew.setRow g6 (kA s) = w9 at *
  refine wpAnyH_done (by kernel_rfl) ?_ _
  go_wp2_with (first
    | (refine wpList_load_mid rfl 39 _ rfl g6 0 rfl (kC s) _ (range_all (V9.at 0 rfl)) Try.underlying39 rfl (by rw [kC_len hO]; exact Try.szKy) ?_)
    | (refine wpList_storeV V9 1 rfl _ (.tmp 17) rfl rfl rfl (kA s) rfl rfl Try.szKy (kA_size ky0_ok) (kA_size hO) (kA_one s) ?_; intro w10 V10))
  refine bodyPost_ret (results_cell_row rfl _ _ g1 _ (kA s) (0, 0) _ rfl (V10.at 1 rfl) Try.underlying39 rfl (by rw [kA_size hO]; exact Try.szKy)) rfl ?_
  exact ⟨by rw [HK.out], V10.bel⟩
end Go.Proofs.Ytjcfooiibgidhaa.N
