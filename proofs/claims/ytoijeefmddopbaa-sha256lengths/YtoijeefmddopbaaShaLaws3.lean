/-
  Layer 13's laws: the walk of Sha256Lengths. (Written by tools/gen/sha_laws3.py.)
-/
import Derived.Test.YtoijeefmddopbaaShaLaws
import Derived.Lib.Strings
namespace Go.Proofs.Ytoijeefmddopbaa
open Go.RowKit
set_option linter.unusedVariables false
set_option maxRecDepth 8192

theorem be8_inj {x y : Nat} (hx : x < 16777216) (hy : y < 16777216) (h : be8 x = be8 y) : x = y := by
  simp only [be8, List.cons.injEq] at h
  omega
/-- Unlike lengths are padded unlike. -/
theorem pad_unlike (z : List Nat) (n : Nat) (hn : z.length = n) (hl : n ≤ 5000) : z ++ padL n ≠ z ++ [128] ++ padL (n + 1) := by
  intro h
  have h1 := congrArg List.length h
  simp only [List.length_append, padL_length, List.length_singleton, hn] at h1
  have h2 := congrArg (List.drop (n + noughts n + 1)) h
  have e1 : (z ++ padL n).drop (n + noughts n + 1) = be8 (8 * n) := by
    rw [show z ++ padL n = (z ++ (128 :: List.replicate (noughts n) 0)) ++ be8 (8 * n) from by simp [padL]]
    rw [List.drop_append_of_le_length (by simp [hn]; omega), List.drop_of_length_le (by simp [hn]; omega)]
    rfl
  have e2 : (z ++ [128] ++ padL (n + 1)).drop (n + noughts n + 1) = be8 (8 * (n + 1)) := by
    rw [show z ++ [128] ++ padL (n + 1) = (z ++ [128] ++ (128 :: List.replicate (noughts (n + 1)) 0)) ++ be8 (8 * (n + 1)) from by simp [padL]]
    rw [List.drop_append_of_le_length (by simp [hn]; omega), List.drop_of_length_le (by simp [hn]; omega)]
    rfl
  rw [e1, e2] at h2
  have := be8_inj (by omega) (by omega) h2
  omega
theorem nI_bytes {l : List Nat} (h : ∀ x ∈ l, x < 256) : ∀ n ∈ nI l, 0 ≤ n ∧ n ≤ 255 := fun n hn => by
  obtain ⟨x, hx, rfl⟩ := List.mem_map.1 hn
  have := h x hx
  omega
theorem run_headA {P : Program} (t e : TypeId) (hu : P.underlying t = some (.slice e)) (he : (P.info? e).map (·.size) = some 1) (b off len cap h : Nat) (k : IntKind) (hc : h ≤ cap) (w : World) :
    (Instr.sliceAt t (.slice (some ⟨b, off, none⟩) len cap) none (some (.int k (h : Int))) none).run P w = .ok (.slice (some ⟨b, off, none⟩) h cap) w := by
  have hel : P.elem t = e := by simp [Program.elem, hu]
  obtain ⟨inf, hq, hs⟩ := Option.map_eq_some_iff.1 he
  have hu' : P.underlying t = some (.slice (P.elem t)) := by rw [hel]; exact hu
  rw [run_sliceAt_slice w t _ _ _ _ hu', run_slice_h w t _ len cap hu' k (h : Int) (by omega) (by omega)]
  rw [hel]
  simp [sizeOf, typeInfo, hq, hs, sliced, plain_add]
theorem row_head {k : IntKind} {w : World} {a : Option Addr} {len cap : Nat} {zs : List Int} (hr : Row k w a len cap zs) (h : Nat) (hh : h ≤ len) : Row k w a h cap (zs.take h) := by
  have hl := hr.hlen
  refine ⟨by simp; omega, Nat.le_trans hh hr.hcap, hr.hmax, hr.hnil, fun h0 => ?_⟩
  obtain ⟨b, off, rfl, hbs, hcell⟩ := hr.hcell (by omega)
  refine ⟨b, off, rfl, hbs, fun i hi => ?_⟩
  rw [hcell i (by omega), List.getElem?_take, if_pos hi]
set_option maxHeartbeats 3200000 in
theorem walk_Sha256Lengths (z : List Nat) (a : Option Addr) (len cap : Nat) (w : World) (hr : Row .u8 w a len cap (nI z)) (hz : ∀ x ∈ z, x < 256) : Calls Try.prog 8 #[.slice a len cap] w fun e w' => e = .returned (.bool true) ∧ Below w.heap.size w w' := by
  obtain ⟨i0, hi0, hz0, hz1, hz2⟩ := info_parts Try.info5
  by_cases hbig : 5000 < len
  · go_enter Try.func8, Try.ntmps8
    go_wp2
    go_ret
    exact ⟨rfl, Below.refl _ _⟩
  have hsm : len ≤ 5000 := by omega
  have HLz : Hid (z.length = len) := by have := hr.hlen; rw [nI_length] at this; exact this
  have hnl := noughts_lt len
  have hnl1 := noughts_lt (len + 1)
  have hpw := pad_whole len
  go_enter Try.func8, Try.ntmps8
  go_wp2_with fail
  refine (pad_any z a len cap _ hr (by omega)).mono ?_
  rintro e w1 ⟨v1, rfl, own1, q1⟩
  obtain ⟨ap, cp, rfl, rp⟩ := row_of_owns own1
  clear own1
  have hown0 := World.ownsRow_lit (base := w1.heap.size) (e := 5) (size := 1) w1 #[] 0 (Nat.le_refl _) (Nat.zero_le _) rfl
  have qA := below_one w1 (.cells #[] 5)
  have rd1 := (hr.below q1 (Nat.le_refl _)).below qA (Nat.le_refl _)
  go_wp2_with (at_builtin; refine wpList_append_row _ rfl _ _ 36 rfl w1.heap.size 5 i0 (.int .u8 0) 1 Try.underlying36 hi0 hz0 hz1 hz2 rfl _ 0 [] rfl hown0 .u8 a len cap _ rfl rd1 (by unfold maxLen; omega) (by omega) (by simp) ?_)
  intro v2 w2 own2 hg2
  have q2 : Below w1.heap.size w1 w2 := qA.grown hg2 (by simp) (fun k hk => (hown0.lt k hk).1)
  try rw [List.nil_append, Nat.zero_add] at own2
  clear hg2 hown0 rd1 qA
  have s2 := q2.size
  go_wp2_with (at_builtin; refine wpList_append_own _ rfl _ _ 36 rfl w1.heap.size 5 i0 (.int .u8 0) 1 1 Try.underlying36 hi0 hz0 hz1 hz2 rfl (by decide) _ _ _ rfl (own2.alloc _) ⟨w2.heap.size, 0, none⟩ 1 1 [.int .u8 128] rfl rfl (cell_one_new _ _ _) (by intro u hu; simp at hu; subst hu; rfl) (by unfold maxLen; omega) (by omega) (by simp; omega) ?_)
  intro v3 w3 own3' hg3 _
  have R3 := rel_push_u8 (x := 128) s2 own2 q2 own3' hg3
  clear own3' hg3 own2 q2
  obtain ⟨hm, q3⟩ := R3
  obtain ⟨am, cm, rfl, rm⟩ := row_of_owns hm
  clear hm s2
  replace rp := rp.below q3 (Nat.le_refl _)
  replace q1 := btrans q1 q3
  have rd := hr.below q1 (Nat.le_refl _)
  clear q3 hr
  go_wp2_with fail
  refine (pad_any (z ++ [128]) am (len + 1) cm _ rm (by omega)).mono ?_
  rintro e w4 ⟨v4, rfl, own4, q4⟩
  obtain ⟨aq, cq, rfl, rq⟩ := row_of_owns own4
  replace rp := rp.below q4 (Nat.le_refl _)
  replace rd := rd.below q4 (Nat.le_refl _)
  replace q1 := btrans q1 q4
  clear own4 q4 rm
  have HNE : Hid (strOfNums (nI (z ++ padL len)) ≠ strOfNums (nI (z ++ [128] ++ padL (len + 1)))) := fun h => by
    refine pad_unlike z len HLz.out hsm (nI_inj (strOfNums_inj (nI_bytes ?_) (nI_bytes ?_) h))
    · intro x hx
      rcases List.mem_append.1 hx with h' | h'
      · exact hz x h'
      · exact padL_lt len x h'
    · intro x hx
      simp only [List.mem_append, List.mem_singleton] at hx
      rcases hx with (h' | h') | h'
      · exact hz x h'
      · omega
      · exact padL_lt (len + 1) x h'
  have rh := row_head rp len (by omega)
  rw [nI_take, List.take_append_of_le_length (by rw [HLz.out]; exact Nat.le_refl _), List.take_of_length_le (by rw [HLz.out]; exact Nat.le_refl _)] at rh
  obtain ⟨bp, op, rfl, hbp, hcp⟩ := rp.hcell (by omega)
  have HP128 : Hid ((nI (z ++ padL len))[len]?.getD 0 = 128) := by
    show _ = _
    rw [nI_get, List.getElem?_append_right (by rw [HLz.out]; exact Nat.le_refl _), HLz.out, Nat.sub_self]
    rfl
  have hcapp := rp.hcap
  clear hcp
  generalize hLp : len + (noughts len + 9) = Lp at *
  have hP1 : Lp % 64 = 0 := hpw
  have hP2 : len + 9 ≤ Lp := by omega
  have hP3 : Lp ≤ len + 72 := by omega
  have ePm : (Lp : Int) % 64 = 0 := by omega
  generalize hLq : len + 1 + (noughts (len + 1) + 9) = Lq at *
  have hQ : Lq ≤ 6000 := by omega
  clear hLp hLq hpw hnl hnl1
  generalize z ++ padL len = P at *
  generalize z ++ [128] ++ padL (len + 1) = Q at *
  go_wp2_with fail
  refine held_begin (by kernel_rfl) ?_
  refine held_call (i := 0) (fuel := 48) (by kernel_rfl) rfl (by rfl) (fun K hK => ?_)
  go_simp
  have qd := Since.drew w4
  replace rp := rp.below qd (Nat.le_refl _)
  replace rd := rd.below qd (Nat.le_refl _)
  replace rq := rq.below qd (Nat.le_refl _)
  replace rh := rh.below qd (Nat.le_refl _)
  replace q1 := btrans q1 qd
  clear qd
  refine (awake13_any _).mono ?_
  rintro e w5 ⟨rfl, qq0⟩
  refine hK _ _ (Since.trans (Since.drew _) qq0) ?_
  have qq : Since _ _ := qq0
  clear hK K qq0
  replace rp := rp.below qq (Nat.le_refl _)
  replace rd := rd.below qq (Nat.le_refl _)
  replace rq := rq.below qq (Nat.le_refl _)
  replace rh := rh.below qq (Nat.le_refl _)
  replace q1 := btrans q1 qq
  clear qq
  refine held_reads (rs := [1, 2, 3, 4, 5, 6, 7, 8, 9, 10, 11, 12, 13, 14, 15, 16, 17, 18, 19, 20, 21, 22, 23, 24, 25, 26, 27, 28, 29, 30, 31, 32, 33, 34, 35, 36, 37, 38, 39, 40, 41, 42, 43, 44, 45, 46, 47, 48]) (fuel := 0) (by kernel_rfl) (fun c d v a w h => by cases d <;> exact h) (by kernel_rfl) (Since.refl _) (fun K hK => ?_)
  go_simp
  refine calm_move _ rfl (by rfl) rfl ?_
  go_simp
  refine calm_move _ rfl (by rfl) rfl ?_
  go_simp
  refine calm_do (.int .i64 (Lp : Int)) rfl (by rfl) (fun w' hw' => ?_) ?_
  · go_simp
  go_simp
  refine calm_do (.int .i64 0) rfl (by rfl) (fun w' hw' => ?_) ?_
  · have ePt : (Lp : Int).tmod 64 = 0 := by rw [Int.tmod_eq_emod_of_nonneg (by omega)]; exact ePm
    go_simp
  go_simp
  refine calm_do (.bool true) rfl (by rfl) (fun w' hw' => ?_) ?_
  · go_simp
  go_simp
  refine calm_do (.bool true) rfl (by rfl) (fun w' hw' => ?_) ?_
  · go_simp
  go_simp
  refine calm_move _ rfl (by rfl) rfl ?_
  go_simp
  refine calm_move _ rfl (by rfl) rfl ?_
  go_simp
  refine calm_do (.int .i64 (Lp : Int)) rfl (by rfl) (fun w' hw' => ?_) ?_
  · go_simp
  go_simp
  refine calm_move _ rfl (by rfl) rfl ?_
  go_simp
  refine calm_do (.int .i64 (len : Int)) rfl (by rfl) (fun w' hw' => ?_) ?_
  · go_simp
  go_simp
  refine calm_do (.int .i64 ((len : Int) + 9)) rfl (by rfl) (fun w' hw' => ?_) ?_
  · skip
    go_simp
    all_goals (first | omega | (rw [IntKind.wrap_i64]; omega))
  go_simp
  refine calm_do (.bool true) rfl (by rfl) (fun w' hw' => ?_) ?_
  · skip
    go_simp
    all_goals omega
  go_simp
  refine calm_do (.bool true) rfl (by rfl) (fun w' hw' => ?_) ?_
  · go_simp
  go_simp
  refine calm_move _ rfl (by rfl) rfl ?_
  go_simp
  refine calm_move _ rfl (by rfl) rfl ?_
  go_simp
  refine calm_do (.int .i64 (Lp : Int)) rfl (by rfl) (fun w' hw' => ?_) ?_
  · go_simp
  go_simp
  refine calm_move _ rfl (by rfl) rfl ?_
  go_simp
  refine calm_do (.int .i64 (len : Int)) rfl (by rfl) (fun w' hw' => ?_) ?_
  · go_simp
  go_simp
  refine calm_do (.int .i64 ((len : Int) + 72)) rfl (by rfl) (fun w' hw' => ?_) ?_
  · skip
    go_simp
    all_goals (first | omega | (rw [IntKind.wrap_i64]; omega))
  go_simp
  refine calm_do (.bool true) rfl (by rfl) (fun w' hw' => ?_) ?_
  · skip
    go_simp
    all_goals omega
  go_simp
  refine calm_do (.bool true) rfl (by rfl) (fun w' hw' => ?_) ?_
  · go_simp
  go_simp
  refine calm_move _ rfl (by rfl) rfl ?_
  go_simp
  refine calm_move _ rfl (by rfl) rfl ?_
  go_simp
  refine calm_move _ rfl (by rfl) rfl ?_
  go_simp
  refine calm_do (.int .i64 (len : Int)) rfl (by rfl) (fun w' hw' => ?_) ?_
  · go_simp
  go_simp
  refine calm_do (.slice (some ⟨bp, op, none⟩) len cp) rfl (by rfl) (fun w' hw' => ?_) ?_
  · have hsl := run_headA (P := Try.prog) 36 5 Try.underlying36 Try.one5 bp op Lp cp len .i64 (by omega) w'
    go_simp
  go_simp
  refine calm_do (.string (strOfNums (nI z))) rfl (by rfl) (fun w' hw' => ?_) ?_
  · have hcc := conv_row Try.underlying36 Try.underlying5 Try.underlying9 (rh.below hw' (Nat.le_refl _))
    go_simp
  go_simp
  refine calm_move _ rfl (by rfl) rfl ?_
  go_simp
  refine calm_do (.string (strOfNums (nI z))) rfl (by rfl) (fun w' hw' => ?_) ?_
  · have hcc := conv_row Try.underlying36 Try.underlying5 Try.underlying9 (rd.below hw' (Nat.le_refl _))
    go_simp
  go_simp
  refine calm_do (.bool true) rfl (by rfl) (fun w' hw' => ?_) ?_
  · go_simp
  go_simp
  refine calm_do (.bool true) rfl (by rfl) (fun w' hw' => ?_) ?_
  · go_simp
  go_simp
  refine calm_move _ rfl (by rfl) rfl ?_
  go_simp
  refine calm_move _ rfl (by rfl) rfl ?_
  go_simp
  refine calm_move _ rfl (by rfl) rfl ?_
  go_simp
  refine calm_do (.int .i64 (len : Int)) rfl (by rfl) (fun w' hw' => ?_) ?_
  · go_simp
  go_simp
  refine calm_do (.pointer (some ⟨bp, op + len, none⟩)) rfl (by rfl) (fun w' hw' => ?_) ?_
  · have hll : (len : Int) < (Lp : Int) := by omega
    go_simp
  go_simp
  refine calm_do (.int .u8 128) rfl (by rfl) (fun w' hw' => ?_) ?_
  · have hc : w'.cell? ⟨bp, op + len, none⟩ = some (.int .u8 128) := by
      obtain ⟨b', o', e', _, hc'⟩ := (rp.below hw' (Nat.le_refl _)).hcell (by omega)
      simp only [Option.some.injEq, Addr.mk.injEq, and_true] at e'
      obtain ⟨rfl, rfl⟩ := e'
      rw [hc' len (by omega), HP128.out]
    go_simp
  go_simp
  refine calm_do (.bool true) rfl (by rfl) (fun w' hw' => ?_) ?_
  · go_simp
  go_simp
  refine calm_do (.bool true) rfl (by rfl) (fun w' hw' => ?_) ?_
  · go_simp
  go_simp
  refine calm_move _ rfl (by rfl) rfl ?_
  go_simp
  refine calm_move _ rfl (by rfl) rfl ?_
  go_simp
  refine calm_do (.string (strOfNums (nI P))) rfl (by rfl) (fun w' hw' => ?_) ?_
  · have hcc := conv_row Try.underlying36 Try.underlying5 Try.underlying9 (rp.below hw' (Nat.le_refl _))
    go_simp
  go_simp
  refine calm_move _ rfl (by rfl) rfl ?_
  go_simp
  refine calm_do (.string (strOfNums (nI Q))) rfl (by rfl) (fun w' hw' => ?_) ?_
  · have hcc := conv_row Try.underlying36 Try.underlying5 Try.underlying9 (rq.below hw' (Nat.le_refl _))
    go_simp
  go_simp
  refine calm_do (.bool true) rfl (by rfl) (fun w' hw' => ?_) ?_
  · have hne := HNE.out
    go_simp
    all_goals (exact fun h => hne (WideShapes.bytes_inj (by rw [Lib.toList_data, Lib.toList_data] at h; exact h)))
  go_simp
  refine calm_do (.bool true) rfl (by rfl) (fun w' hw' => ?_) ?_
  · go_simp
  go_simp
  refine calm_assign _ rfl (by rfl) rfl ?_
  go_simp
  refine calm_nil (hK.out _ ?_)
  clear hK K
  refine wpAnyH_done (by kernel_rfl) ?_ _
  go_wp2
  go_ret
  exact ⟨rfl, q1⟩
end Go.Proofs.Ytoijeefmddopbaa
