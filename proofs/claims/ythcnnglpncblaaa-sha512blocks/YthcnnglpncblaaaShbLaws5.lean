/-
  Layer 14's laws: the walk of Sha512Blocks. (Written by tools/gen/shb_laws.py.)
-/
import Derived.Test.YthcnnglpncblaaaShbAwake
import Derived.Test.YthcnnglpncblaaaShbRef4
import Derived.Test.YthcnnglpncblaaaShbRef2
import Derived.Test.YthcnnglpncblaaaShaEq
import Derived.Deep.CutRange
namespace Go.Proofs.Ythcnnglpncblaaa.B
open Go.RowKit
set_option linter.unusedVariables false
set_option maxRecDepth 8192

/-- An array that is carried as a row is. -/
def ArrB (w : World) (g : Nat) (T : TypeId) (k : IntKind) (zs : List Int) : Prop := Arr w g T k zs
theorem ArrB.below {w w' : World} {g B : Nat} {T : TypeId} {k : IntKind} {zs : List Int} (h : ArrB w g T k zs) (q : Below B w w') (hB : w.heap.size ≤ B) : ArrB w' g T k zs :=
  Arr.below h q (Nat.lt_of_lt_of_le (Arr.lt h) hB)
set_option maxHeartbeats 3200000 in
theorem walk_blocks_no (s : S8) (hs : s.Ok) (z : List Nat) (a : Option Addr) (len cap : Nat) (w : World) (hr : Row .u8 w a len cap (nI z)) (hz : ∀ x ∈ z, x < 256) (hsm : len ≤ 300) (hne : len ≠ 128)
    (cBk : ∀ (w' : World) (ao : Option Addr) (co : Nat), Row .u8 w' ao len co (nI z) → Calls Try.prog 13 #[.agg ((nI s.list).map (Value.int .u64)).toArray, .slice ao len co] w' fun e w'' => e = .returned (.tuple #[.agg ((nI (List.replicate 8 0)).map (Value.int .u64)).toArray, .int .i64 1]) ∧ Below w'.heap.size w' w'')
    : Calls Try.prog 4 #[.agg ((nI s.list).map (Value.int .u64)).toArray, .slice a len cap] w fun e w' => e = .returned (.bool true) ∧ Below w.heap.size w w' := by
  obtain ⟨i0, hi0, hz0, hz1, hz2⟩ := info_parts Try.info5
  have hne' : ((len : Int) != 128) = true := by simp; omega
  have hneI : ¬ (len : Int) = 128 := by omega
  have hln : (List.replicate 8 0).length = 8 := rfl
  have HLs : Hid ((nI s.list).length = 8) := by show _ = _; rw [nI_length]; rfl
  generalize hX0 : ((nI s.list).map (Value.int .u64)).toArray = X0 at *
  have A2 : ArrB (w.alloc (.cells X0 26)) w.heap.size 26 .u64 (nI s.list) := Arr.new w 26 .u64 (nI s.list) X0 hX0.symm
  have HX : Hid (((nI s.list).map (Value.int .u64)).toArray = X0) := hX0
  clear hX0
  have q1 : Below w.heap.size w (w.alloc (.cells X0 26)) := below_one w _
  have hr1 := hr.below q1 (Nat.le_refl _)
  have z0 : (w.alloc (.cells X0 26)).heap.size = w.heap.size + 1 := by simp
  go_enter Try.func4, Try.ntmps4
  have hown0 := World.ownsRow_lit (base := (w.alloc (.cells X0 26)).heap.size) (e := 5) (size := 1) (w.alloc (.cells X0 26)) #[] 0 (Nat.le_refl _) (Nat.zero_le _) rfl
  have qe := below_one (w.alloc (.cells X0 26)) (.cells #[] 5)
  have hr2 := hr1.below qe (Nat.le_refl _)
  have z1 : (w.alloc (.cells X0 26)).heap.size ≤ w.heap.size + 1 := by rw [z0]; exact Nat.le_refl _
  have z2 : w.heap.size + 1 ≤ ((w.alloc (.cells X0 26)).alloc (.cells #[] 5)).heap.size := by simp
  rw [z0] at hown0 qe
  go_wp2_with (at_builtin; refine wpList_append_row _ rfl _ _ 29 rfl (w.heap.size + 1) 5 i0 (.int .u8 0) 1 Try.underlying29 hi0 hz0 hz1 hz2 rfl _ 0 [] rfl hown0 .u8 a len cap _ rfl hr2 (by unfold maxLen; omega) (by omega) z2 ?_)
  intro v1 w1 own1 hg1
  have qg : Below (w.heap.size + 1) (w.alloc (.cells X0 26)) w1 := qe.grown hg1 z2 (fun k hk => (hown0.lt k hk).1)
  clear hg1 hown0 hr2 qe
  try rw [List.nil_append, Nat.zero_add] at own1
  obtain ⟨ao, co, rfl, ro⟩ := row_of_owns own1
  clear own1
  have rd := hr1.below qg z1
  replace A2 := A2.below qg z1
  replace q1 := q1.trans (qg.mono (by omega))
  clear hr1 qg z0 z1 z2
  go_wp2_with (refine wpList_loadA rfl 26 _ rfl w.heap.size rfl A2 Try.underlying26 Try.size26 HLs.out ?_)
  rw [HX.out]
  refine (cBk w1 ao co ro).mono ?_
  rintro e w2 ⟨rfl, q2⟩
  replace ro := ro.below q2 (Nat.le_refl _)
  replace rd := rd.below q2 (Nat.le_refl _)
  replace A2 := A2.below q2 (Nat.le_refl _)
  replace q1 := q1.trans (q2.mono q1.size)
  clear q2 cBk
  have A6 := Arr.new w2 26 .u64 (nI (List.replicate 8 0)) _ rfl
  have HLn : Hid ((nI (List.replicate 8 0)).length = 8) := by show _ = _; rw [nI_length]; exact hln
  have qq : Below w2.heap.size w2 ((w2.alloc (.cells ((nI (List.replicate 8 0)).map (Value.int .u64)).toArray 26)).setRow w2.heap.size ((nI (List.replicate 8 0)).map (Value.int .u64)).toArray) := below_setRow (below_one w2 _) (Nat.le_refl _) _
  have rs : ArrB ((w2.alloc (.cells ((nI (List.replicate 8 0)).map (Value.int .u64)).toArray 26)).setRow w2.heap.size ((nI (List.replicate 8 0)).map (Value.int .u64)).toArray) w2.heap.size 26 .u64 (nI (List.replicate 8 0)) := A6.whole (nI (List.replicate 8 0))
  replace ro := ro.below qq (Nat.le_refl _)
  replace rd := rd.below qq (Nat.le_refl _)
  replace A2 := A2.below qq (Nat.le_refl _)
  replace q1 := btrans q1 qq
  go_upto_region 5 with (refine wpList_storeA rfl 26 _ _ rfl w2.heap.size (nI (List.replicate 8 0)) rfl rfl A6 Try.size26 (by decide +kernel) HLn.out ?_)
  clear qq A6
  try rw [show ∀ a : Act, a.put none undef = a from fun _ => rfl]
  change Code.wp _ _ _ _ ((w2.alloc (.cells ((nI (List.replicate 8 0)).map (Value.int .u64)).toArray 26)).setRow w2.heap.size ((nI (List.replicate 8 0)).map (Value.int .u64)).toArray)
  generalize (w2.alloc (.cells ((nI (List.replicate 8 0)).map (Value.int .u64)).toArray 26)).setRow w2.heap.size ((nI (List.replicate 8 0)).map (Value.int .u64)).toArray = w3 at *
  generalize w2.heap.size = g6 at *
  have cw1 := conv_row Try.underlying29 Try.underlying5 Try.underlying9 ro
  have cw2 := conv_row Try.underlying29 Try.underlying5 Try.underlying9 rd
  go_wp2_with fail
  clear cw1 cw2
  refine (awake14_any _).mono ?_
  rintro e w4 ⟨rfl, q4⟩
  replace rs := rs.below q4 (Nat.le_refl _)
  replace q1 := btrans q1 q4
  go_wp2_with (first
    | (refine wpList_exec (by rfl) (exec_loadA 26 _ rfl g6 rfl rs Try.underlying26 Try.size26 HLn.out) ?_)
    | (refine wpList_exec (by rfl) (exec_eqlA 26 26 _ _ rfl (nI (List.replicate 8 0)) rfl rfl Try.eqGuardType26 Try.underlying26 Try.underlying23 Try.one23 HLn.out) ?_))
  go_ret
  exact ⟨rfl, q1⟩
set_option maxHeartbeats 3200000 in
theorem walk_blocks_yes (s : S8) (hs : s.Ok) (z : List Nat) (a : Option Addr) (len cap : Nat) (w : World) (hr : Row .u8 w a len cap (nI z)) (hz : ∀ x ∈ z, x < 256) (hsm : len ≤ 300) (hlen : len = 128) (K : List Nat) (sn : S8)
    (cBk : ∀ (w' : World) (ao : Option Addr) (co : Nat), Row .u8 w' ao len co (nI z) → Calls Try.prog 13 #[.agg ((nI s.list).map (Value.int .u64)).toArray, .slice ao len co] w' fun e w'' => e = .returned (.tuple #[.agg ((nI sn.list).map (Value.int .u64)).toArray, .int .i64 0]) ∧ Below w'.heap.size w' w'')
    (dR : ∀ w, Calls Try.prog 10 #[] w fun e w' => e = .returned (.agg ((nI K).map (Value.int .u64)).toArray) ∧ Below w.heap.size w w')
    (dB : ∀ (w' : World) (a : Option Addr) (cap : Nat), Row .u8 w' a len cap (nI z) → Calls Try.prog 14 #[.agg ((nI K).map (Value.int .u64)).toArray, .agg ((nI s.list).map (Value.int .u64)).toArray, .slice a len cap] w' fun e w'' => e = .returned (.agg ((nI sn.list).map (Value.int .u64)).toArray) ∧ Below w'.heap.size w' w'')
    : Calls Try.prog 4 #[.agg ((nI s.list).map (Value.int .u64)).toArray, .slice a len cap] w fun e w' => e = .returned (.bool true) ∧ Below w.heap.size w w' := by
  obtain ⟨i0, hi0, hz0, hz1, hz2⟩ := info_parts Try.info5
  have hne' : ((len : Int) != 128) = false := by simp; omega
  clear hlen
  have hln : sn.list.length = 8 := rfl
  have HLs : Hid ((nI s.list).length = 8) := by show _ = _; rw [nI_length]; rfl
  generalize hX0 : ((nI s.list).map (Value.int .u64)).toArray = X0 at *
  have A2 : ArrB (w.alloc (.cells X0 26)) w.heap.size 26 .u64 (nI s.list) := Arr.new w 26 .u64 (nI s.list) X0 hX0.symm
  have HX : Hid (((nI s.list).map (Value.int .u64)).toArray = X0) := hX0
  clear hX0
  have q1 : Below w.heap.size w (w.alloc (.cells X0 26)) := below_one w _
  have hr1 := hr.below q1 (Nat.le_refl _)
  have z0 : (w.alloc (.cells X0 26)).heap.size = w.heap.size + 1 := by simp
  go_enter Try.func4, Try.ntmps4
  have hown0 := World.ownsRow_lit (base := (w.alloc (.cells X0 26)).heap.size) (e := 5) (size := 1) (w.alloc (.cells X0 26)) #[] 0 (Nat.le_refl _) (Nat.zero_le _) rfl
  have qe := below_one (w.alloc (.cells X0 26)) (.cells #[] 5)
  have hr2 := hr1.below qe (Nat.le_refl _)
  have z1 : (w.alloc (.cells X0 26)).heap.size ≤ w.heap.size + 1 := by rw [z0]; exact Nat.le_refl _
  have z2 : w.heap.size + 1 ≤ ((w.alloc (.cells X0 26)).alloc (.cells #[] 5)).heap.size := by simp
  rw [z0] at hown0 qe
  go_wp2_with (at_builtin; refine wpList_append_row _ rfl _ _ 29 rfl (w.heap.size + 1) 5 i0 (.int .u8 0) 1 Try.underlying29 hi0 hz0 hz1 hz2 rfl _ 0 [] rfl hown0 .u8 a len cap _ rfl hr2 (by unfold maxLen; omega) (by omega) z2 ?_)
  intro v1 w1 own1 hg1
  have qg : Below (w.heap.size + 1) (w.alloc (.cells X0 26)) w1 := qe.grown hg1 z2 (fun k hk => (hown0.lt k hk).1)
  clear hg1 hown0 hr2 qe
  try rw [List.nil_append, Nat.zero_add] at own1
  obtain ⟨ao, co, rfl, ro⟩ := row_of_owns own1
  clear own1
  have rd := hr1.below qg z1
  replace A2 := A2.below qg z1
  replace q1 := q1.trans (qg.mono (by omega))
  clear hr1 qg z0 z1 z2
  go_wp2_with (refine wpList_loadA rfl 26 _ rfl w.heap.size rfl A2 Try.underlying26 Try.size26 HLs.out ?_)
  rw [HX.out]
  refine (cBk w1 ao co ro).mono ?_
  rintro e w2 ⟨rfl, q2⟩
  replace ro := ro.below q2 (Nat.le_refl _)
  replace rd := rd.below q2 (Nat.le_refl _)
  replace A2 := A2.below q2 (Nat.le_refl _)
  replace q1 := q1.trans (q2.mono q1.size)
  clear q2 cBk
  have A6 := Arr.new w2 26 .u64 (nI (List.replicate 8 0)) _ rfl
  have HLn : Hid ((nI sn.list).length = 8) := by show _ = _; rw [nI_length]; exact hln
  have qq : Below w2.heap.size w2 ((w2.alloc (.cells ((nI (List.replicate 8 0)).map (Value.int .u64)).toArray 26)).setRow w2.heap.size ((nI sn.list).map (Value.int .u64)).toArray) := below_setRow (below_one w2 _) (Nat.le_refl _) _
  have rs : ArrB ((w2.alloc (.cells ((nI (List.replicate 8 0)).map (Value.int .u64)).toArray 26)).setRow w2.heap.size ((nI sn.list).map (Value.int .u64)).toArray) w2.heap.size 26 .u64 (nI sn.list) := A6.whole (nI sn.list)
  replace ro := ro.below qq (Nat.le_refl _)
  replace rd := rd.below qq (Nat.le_refl _)
  replace A2 := A2.below qq (Nat.le_refl _)
  replace q1 := btrans q1 qq
  go_upto_region 5 with (refine wpList_storeA rfl 26 _ _ rfl w2.heap.size (nI sn.list) rfl rfl A6 Try.size26 (by decide +kernel) HLn.out ?_)
  clear qq A6
  try rw [show ∀ a : Act, a.put none undef = a from fun _ => rfl]
  change Code.wp _ _ _ _ ((w2.alloc (.cells ((nI (List.replicate 8 0)).map (Value.int .u64)).toArray 26)).setRow w2.heap.size ((nI sn.list).map (Value.int .u64)).toArray)
  generalize (w2.alloc (.cells ((nI (List.replicate 8 0)).map (Value.int .u64)).toArray 26)).setRow w2.heap.size ((nI sn.list).map (Value.int .u64)).toArray = w3 at *
  generalize w2.heap.size = g6 at *
  have cw1 := conv_row Try.underlying29 Try.underlying5 Try.underlying9 ro
  have cw2 := conv_row Try.underlying29 Try.underlying5 Try.underlying9 rd
  go_wp2_with fail
  clear cw1 cw2
  clear ro
  have dBX : ∀ (w' : World) (a : Option Addr) (cap : Nat), Row .u8 w' a len cap (nI z) → Calls Try.prog 14 #[.agg ((nI K).map (Value.int .u64)).toArray, .agg ((nI s.list).map (Value.int .u64)).toArray, .slice a len cap] w' fun e w'' => e = .returned (.agg ((nI sn.list).map (Value.int .u64)).toArray) ∧ Below w'.heap.size w' w'' := fun w' a cap r => by rw [HX.out]; exact dB w' a cap r
  refine held_begin (by kernel_rfl) ?_
  refine held_call (i := 0) (fuel := 13) (by kernel_rfl) rfl (by rfl) (fun K hK => ?_)
  go_simp
  have qd := Since.drew w3
  replace rd := rd.below qd (Nat.le_refl _)
  replace rs := rs.below qd (Nat.le_refl _)
  replace A2 := A2.below qd (Nat.le_refl _)
  replace q1 := btrans q1 qd
  clear qd
  refine (awake14_any _).mono ?_
  rintro e w4 ⟨rfl, qq0⟩
  refine hK _ _ (Since.trans (Since.drew _) qq0) ?_
  have qq : Since _ _ := qq0
  clear hK K qq0
  replace rd := rd.below qq (Nat.le_refl _)
  replace rs := rs.below qq (Nat.le_refl _)
  replace A2 := A2.below qq (Nat.le_refl _)
  replace q1 := btrans q1 qq
  clear qq
  refine held_reads (rs := [1, 2, 3, 4, 5, 6, 8, 9]) (fuel := 5) (by kernel_rfl) (fun c d v a w h => by cases d <;> exact h) (by kernel_rfl) (Since.refl _) (fun K hK => ?_)
  go_simp
  refine calm_move _ rfl (by rfl) rfl ?_
  go_simp
  refine calm_move _ rfl (by rfl) rfl ?_
  go_simp
  refine calm_do (.bool true) rfl (by rfl) (fun w' hw' => ?_) ?_
  · go_simp
  go_simp
  refine calm_do (.bool true) rfl (by rfl) (fun w' hw' => ?_) ?_
  · go_simp
  go_simp
  refine calm_move _ rfl (by rfl) rfl ?_
  go_simp
  refine calm_do (.agg ((nI sn.list).map (Value.int .u64)).toArray) rfl (by rfl) (fun w' hw' => ?_) ?_
  · exact exec_loadA 26 _ rfl g6 rfl (rs.below hw' (Nat.le_refl _)) Try.underlying26 Try.size26 HLn.out
  go_simp
  refine calm_do (.agg ((nI s.list).map (Value.int .u64)).toArray) rfl (by rfl) (fun w' hw' => ?_) ?_
  · exact exec_loadA 26 _ rfl w.heap.size rfl (A2.below hw' (Nat.le_refl _)) Try.underlying26 Try.size26 HLs.out
  go_simp
  refine calm_move _ rfl (by rfl) rfl ?_
  go_simp
  refine calm_nil (hK.out _ ?_)
  clear hK K
  refine held_call (i := 7) (fuel := 4) (by kernel_rfl) rfl (by rfl) (fun K hK => ?_)
  go_simp
  refine (dR _).mono ?_
  rintro e w5 ⟨rfl, qq0⟩
  refine hK _ _ (Since.trans (Since.refl _) qq0) ?_
  have qq : Since _ _ := qq0
  clear hK K qq0
  replace rd := rd.below qq (Nat.le_refl _)
  replace rs := rs.below qq (Nat.le_refl _)
  replace A2 := A2.below qq (Nat.le_refl _)
  replace q1 := btrans q1 qq
  clear qq
  refine held_call (i := 10) (fuel := 3) (by kernel_rfl) rfl (by rfl) (fun K hK => ?_)
  go_simp
  refine (dBX _ a cap rd).mono ?_
  rintro e w6 ⟨rfl, qq0⟩
  refine hK _ _ (Since.trans (Since.refl _) qq0) ?_
  have qq : Since _ _ := qq0
  clear hK K qq0
  replace rd := rd.below qq (Nat.le_refl _)
  replace rs := rs.below qq (Nat.le_refl _)
  replace A2 := A2.below qq (Nat.le_refl _)
  replace q1 := btrans q1 qq
  clear qq
  refine held_reads (rs := [11, 12, 13]) (fuel := 0) (by kernel_rfl) (fun c d v a w h => by cases d <;> exact h) (by kernel_rfl) (Since.refl _) (fun K hK => ?_)
  go_simp
  refine calm_do (.bool true) rfl (by rfl) (fun w' hw' => ?_) ?_
  · exact exec_eqlA 26 26 _ _ rfl (nI sn.list) rfl rfl Try.eqGuardType26 Try.underlying26 Try.underlying23 Try.one23 HLn.out
  go_simp
  refine calm_do (.bool true) rfl (by rfl) (fun w' hw' => ?_) ?_
  · go_simp
  go_simp
  refine calm_assign _ rfl (by rfl) rfl ?_
  go_simp
  refine calm_nil (hK.out _ ?_)
  clear hK K
  refine wpAnyH_done (by kernel_rfl) ?_ _
  go_wp2
  go_ret
  exact ⟨rfl, q1⟩
theorem walk_Sha512Blocks (s : S8) (hs : s.Ok) (z : List Nat) (a : Option Addr) (len cap : Nat) (w : World) (hr : Row .u8 w a len cap (nI z)) (hz : ∀ x ∈ z, x < 256) :
    Calls Try.prog 4 #[.agg ((nI s.list).map (Value.int .u64)).toArray, .slice a len cap] w fun e w' => e = .returned (.bool true) ∧ Below w.heap.size w w' := by
  by_cases hbig : 300 < len
  · generalize ((nI s.list).map (Value.int .u64)).toArray = X0
    go_enter Try.func4, Try.ntmps4
    go_wp2
    go_ret
    exact ⟨rfl, below_one w _⟩
  by_cases hne : len = 128
  · subst hne
    exact walk_blocks_yes s hs z a 128 cap w hr hz (by omega) rfl KL (mixL KL s z) (fun w' ao co r => block14_yes s z ao co w' hs r hz) refRounds14 (fun w' a cap r => refBlock14 s KL z a cap w' hs KL_length KL_lt r hz)
  · exact walk_blocks_no s hs z a len cap w hr hz (by omega) hne (fun w' ao co r => block14_no s ao len co w' hne)
end Go.Proofs.Ythcnnglpncblaaa.B
