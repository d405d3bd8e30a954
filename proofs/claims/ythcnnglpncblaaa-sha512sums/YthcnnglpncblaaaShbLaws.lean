/-
  Layer 14's laws: the walk of Sha512Sums. (Written by tools/gen/shb_laws.py.)
-/
import Derived.Test.YthcnnglpncblaaaShbAwake
import Derived.Test.YthcnnglpncblaaaShbRef5
import Derived.Test.YthcnnglpncblaaaShaEq
namespace Go.Proofs.Ythcnnglpncblaaa.B
open Go.RowKit
set_option linter.unusedVariables false
set_option maxRecDepth 8192

theorem bytes_natS {zs : List Int} (h : ∀ n ∈ zs, 0 ≤ n ∧ n ≤ 255) : ∃ l : List Nat, zs = nI l ∧ ∀ x ∈ l, x < 256 := by
  refine ⟨zs.map Int.toNat, ?_, ?_⟩
  · unfold nI
    rw [List.map_map]
    have e : zs.map ((fun n : Nat => (n : Int)) ∘ Int.toNat) = zs.map id := by
      apply List.map_congr_left
      intro x hx
      have := h x hx
      simp
      omega
    rw [e, List.map_id]
  · intro x hx
    obtain ⟨y, hy, rfl⟩ := List.mem_map.1 hx
    have := h y hy
    omega
/-- An array that is carried as a row is. -/
def ArrS (w : World) (g : Nat) (T : TypeId) (k : IntKind) (zs : List Int) : Prop := Arr w g T k zs
theorem ArrS.below {w w' : World} {g B : Nat} {T : TypeId} {k : IntKind} {zs : List Int} (h : ArrS w g T k zs) (q : Below B w w') (hB : w.heap.size ≤ B) : ArrS w' g T k zs :=
  Arr.below h q (Nat.lt_of_lt_of_le (Arr.lt h) hB)
set_option maxHeartbeats 3200000 in
theorem walk_sums_gen (SM : List Nat → List Nat) (hSM : ∀ z, (SM z).length = 64)
    (c1 : ∀ (w : World) (c : Nat) (a : Option Addr) (len cap : Nat) (z : List Nat), c < w.heap.size → PartIn w c 0 a len cap z →
      Calls Try.prog 15 #[.slice (some ⟨c, 0, none⟩) 1 1] w fun e w' => e = .returned (.agg ((nI (SM z)).map (Value.int .u8)).toArray) ∧ Below w.heap.size w w')
    (cF : ∀ (z : List Nat) (a : Option Addr) (len cap : Nat) (w : World), Row .u8 w a len cap (nI z) → (∀ x ∈ z, x < 256) → len ≤ 1000 →
      Calls Try.prog 17 #[.slice a len cap] w fun e w' => e = .returned (.agg ((nI (SM z)).map (Value.int .u8)).toArray) ∧ Below w.heap.size w w')
    (z : List Nat) (a : Option Addr) (len cap : Nat) (w : World) (hr : Row .u8 w a len cap (nI z)) (hz : ∀ x ∈ z, x < 256) : Calls Try.prog 5 #[.slice a len cap] w fun e w' => e = .returned (.bool true) ∧ Below w.heap.size w w' := by
  obtain ⟨i0, hi0, hz0, hz1, hz2⟩ := info_parts Try.info5
  by_cases hbig : 1000 < len
  · go_enter Try.func5, Try.ntmps5
    go_wp2
    go_ret
    exact ⟨rfl, Below.refl _ _⟩
  have HLz : Hid (z.length = len) := by have := hr.hlen; rw [nI_length] at this; exact this
  have hown0 := World.ownsRow_lit (base := w.heap.size) (e := 5) (size := 1) w #[] 0 (Nat.le_refl _) (Nat.zero_le _) rfl
  have q1 := below_one w (.cells #[] 5)
  have hr1 := hr.below q1 (Nat.le_refl _)
  go_enter Try.func5, Try.ntmps5
  go_wp2_with (at_builtin; refine wpList_append_row _ rfl _ _ 29 rfl w.heap.size 5 i0 (.int .u8 0) 1 Try.underlying29 hi0 hz0 hz1 hz2 rfl _ 0 [] rfl hown0 .u8 a len cap _ rfl hr1 (by unfold maxLen; omega) (by omega) (by simp) ?_)
  intro v1 w1 own1 hg1
  replace q1 : Below w.heap.size w w1 := q1.grown hg1 (by simp) (fun k hk => (hown0.lt k hk).1)
  clear hg1 hown0 hr1
  try rw [List.nil_append, Nat.zero_add] at own1
  obtain ⟨ao, co, rfl, ro⟩ := row_of_owns own1
  clear own1
  have rd := hr.below q1 (Nat.le_refl _)
  have hsm : len ≤ 1000 := by omega
  have HL : Hid ((nI (SM z)).length = 64) := by show _ = _; rw [nI_length, hSM]
  have few : z.length ≤ 100000 := by rw [HLz.out]; omega
  have k1 := fun (w : World) (c : Nat) h p => c1 w c ao len co z h p
  have kF := fun (w : World) r => cF z a len cap w r hz hsm
  clear c1 cF hSM
  generalize SM z = sm at *
  go_wp2_with fail
  have qa := below_one w1 (.cells #[.slice ao len co] 29)
  have hc : (w1.alloc (.cells #[.slice ao len co] 29)).cell? ⟨w1.heap.size, 0, none⟩ = some (.slice ao len co) := by rw [World.cell?_alloc_at _ _ _ _ rfl]; rfl
  replace ro := ro.below qa (Nat.le_refl _)
  replace rd := rd.below qa (Nat.le_refl _)
  replace q1 := q1.trans (qa.mono q1.size)
  refine (k1 _ w1.heap.size (by simp) ⟨hc, ro, hz, few⟩).mono ?_
  rintro e w2 ⟨rfl, qb⟩
  replace ro := ro.below qb (Nat.le_refl _)
  replace rd := rd.below qb (Nat.le_refl _)
  replace q1 := q1.trans (qb.mono q1.size)
  clear qa qb hc k1 few
  have A2 := Arr.new w2 35 .u8 (nI (List.replicate 64 0)) _ rfl
  have s2 := q1.size
  go_wp2_with (refine wpList_storeA rfl 35 _ _ rfl w2.heap.size (nI sm) rfl rfl A2 Try.size35 (by decide +kernel) HL.out ?_)
  have rs : ArrS ((w2.alloc (.cells ((nI (List.replicate 64 0)).map (Value.int .u8)).toArray 35)).setRow w2.heap.size ((nI sm).map (Value.int .u8)).toArray) w2.heap.size 35 .u8 (nI sm) := A2.whole (nI sm)
  have qq : Below w2.heap.size w2 ((w2.alloc (.cells ((nI (List.replicate 64 0)).map (Value.int .u8)).toArray 35)).setRow w2.heap.size ((nI sm).map (Value.int .u8)).toArray) := below_setRow (below_one w2 _) (Nat.le_refl _) _
  replace ro := ro.below qq (Nat.le_refl _)
  replace rd := rd.below qq (Nat.le_refl _)
  replace q1 := btrans q1 qq
  clear qq A2 s2
  change Calls Try.prog _ _ ((w2.alloc (.cells ((nI (List.replicate 64 0)).map (Value.int .u8)).toArray 35)).setRow w2.heap.size ((nI sm).map (Value.int .u8)).toArray) _
  generalize (w2.alloc (.cells ((nI (List.replicate 64 0)).map (Value.int .u8)).toArray 35)).setRow w2.heap.size ((nI sm).map (Value.int .u8)).toArray = w3 at *
  generalize w2.heap.size = g4 at *
  refine (pad_any z ao len co _ ro (by omega)).mono ?_
  rintro e w4 ⟨v4, rfl, own4, qq⟩
  obtain ⟨ap, cp, rfl, rp⟩ := row_of_owns own4
  clear own4
  replace ro := ro.below qq (Nat.le_refl _)
  replace rd := rd.below qq (Nat.le_refl _)
  replace rs := rs.below qq (Nat.le_refl _)
  replace q1 := btrans q1 qq
  clear qq
  go_wp2_with fail
  refine held_begin (by kernel_rfl) ?_
  refine held_call (i := 0) (fuel := 22) (by kernel_rfl) rfl (by rfl) (fun K hK => ?_)
  go_simp
  have qd := Since.drew w4
  replace ro := ro.below qd (Nat.le_refl _)
  replace rd := rd.below qd (Nat.le_refl _)
  replace rs := rs.below qd (Nat.le_refl _)
  replace rp := rp.below qd (Nat.le_refl _)
  replace q1 := btrans q1 qd
  clear qd
  refine (awake14_any _).mono ?_
  rintro e w5 ⟨rfl, qq0⟩
  refine hK _ _ (Since.trans (Since.drew _) qq0) ?_
  have qq : Since _ _ := qq0
  clear hK K qq0
  replace ro := ro.below qq (Nat.le_refl _)
  replace rd := rd.below qq (Nat.le_refl _)
  replace rs := rs.below qq (Nat.le_refl _)
  replace rp := rp.below qq (Nat.le_refl _)
  replace q1 := btrans q1 qq
  clear qq
  refine held_reads (rs := [1, 2, 3, 4, 5, 6, 7, 8, 9, 10]) (fuel := 12) (by kernel_rfl) (fun c d v a w h => by cases d <;> exact h) (by kernel_rfl) (Since.refl _) (fun K hK => ?_)
  go_simp
  refine calm_move _ rfl (by rfl) rfl ?_
  go_simp
  refine calm_move _ rfl (by rfl) rfl ?_
  go_simp
  refine calm_do (.string (strOfNums (nI z))) rfl (by rfl) (fun w' hw' => ?_) ?_
  · have hcc := conv_row Try.underlying29 Try.underlying5 Try.underlying9 (ro.below hw' (Nat.le_refl _))
    go_simp
  go_simp
  refine calm_move _ rfl (by rfl) rfl ?_
  go_simp
  refine calm_do (.string (strOfNums (nI z))) rfl (by rfl) (fun w' hw' => ?_) ?_
  · have hcc := conv_row Try.underlying29 Try.underlying5 Try.underlying9 (rd.below hw' (Nat.le_refl _))
    go_simp
  go_simp
  refine calm_do (.bool true) rfl (by rfl) (fun w' hw' => ?_) ?_
  · go_simp
  go_simp
  refine calm_do (.bool true) rfl (by rfl) (fun w' hw' => ?_) ?_
  · go_simp
  go_simp
  refine calm_move _ rfl (by rfl) rfl ?_
  go_simp
  refine calm_do (.agg ((nI sm).map (Value.int .u8)).toArray) rfl (by rfl) (fun w' hw' => ?_) ?_
  · exact exec_loadA 35 _ rfl g4 rfl (rs.below hw' (Nat.le_refl _)) Try.underlying35 Try.size35 HL.out
  go_simp
  refine calm_move _ rfl (by rfl) rfl ?_
  go_simp
  refine calm_nil (hK.out _ ?_)
  clear hK K
  refine held_call (i := 11) (fuel := 11) (by kernel_rfl) rfl (by rfl) (fun K hK => ?_)
  go_simp
  refine (kF _ rd).mono ?_
  rintro e w6 ⟨rfl, qq0⟩
  refine hK _ _ (Since.trans (Since.refl _) qq0) ?_
  have qq : Since _ _ := qq0
  clear hK K qq0
  replace ro := ro.below qq (Nat.le_refl _)
  replace rd := rd.below qq (Nat.le_refl _)
  replace rs := rs.below qq (Nat.le_refl _)
  replace rp := rp.below qq (Nat.le_refl _)
  replace q1 := btrans q1 qq
  clear qq
  refine held_reads (rs := [12, 13, 14, 15, 16, 17]) (fuel := 5) (by kernel_rfl) (fun c d v a w h => by cases d <;> exact h) (by kernel_rfl) (Since.refl _) (fun K hK => ?_)
  go_simp
  refine calm_do (.bool true) rfl (by rfl) (fun w' hw' => ?_) ?_
  · exact exec_eqlA 35 35 _ _ rfl (nI sm) rfl rfl Try.eqGuardType35 Try.underlying35 Try.underlying5 Try.one5 HL.out
  go_simp
  refine calm_do (.bool true) rfl (by rfl) (fun w' hw' => ?_) ?_
  · go_simp
  go_simp
  refine calm_move _ rfl (by rfl) rfl ?_
  go_simp
  refine calm_move _ rfl (by rfl) rfl ?_
  go_simp
  refine calm_do (.string (strOfNums (nI (z ++ padL len)))) rfl (by rfl) (fun w' hw' => ?_) ?_
  · have hcc := conv_row Try.underlying29 Try.underlying5 Try.underlying9 (rp.below hw' (Nat.le_refl _))
    go_simp
  go_simp
  refine calm_move _ rfl (by rfl) rfl ?_
  go_simp
  refine calm_nil (hK.out _ ?_)
  clear hK K
  refine held_call (i := 18) (fuel := 4) (by kernel_rfl) rfl (by rfl) (fun K hK => ?_)
  go_simp
  refine (refPad14 z a len cap _ rd (by omega)).mono ?_
  rintro e w7 ⟨v7, rfl, own7, qq0⟩
  refine hK _ _ (Since.trans (Since.refl _) qq0) ?_
  have qq : Since _ _ := qq0
  clear hK K qq0
  replace ro := ro.below qq (Nat.le_refl _)
  replace rd := rd.below qq (Nat.le_refl _)
  replace rs := rs.below qq (Nat.le_refl _)
  replace rp := rp.below qq (Nat.le_refl _)
  replace q1 := btrans q1 qq
  clear qq
  obtain ⟨af, cf, rfl, rf⟩ := row_of_owns own7
  clear own7
  refine held_reads (rs := [19, 20, 21, 22]) (fuel := 0) (by kernel_rfl) (fun c d v a w h => by cases d <;> exact h) (by kernel_rfl) (Since.refl _) (fun K hK => ?_)
  go_simp
  refine calm_do (.string (strOfNums (nI (z ++ padL len)))) rfl (by rfl) (fun w' hw' => ?_) ?_
  · have hcc := conv_row Try.underlying29 Try.underlying5 Try.underlying9 (rf.below hw' (Nat.le_refl _))
    go_simp
  go_simp
  refine calm_do (.bool true) rfl (by rfl) (fun w' hw' => ?_) ?_
  · go_simp
  go_simp
  refine calm_do (.bool true) rfl (by rfl) (fun w' hw' => ?_) ?_
  · go_simp
  go_simp
  refine calm_assign _ rfl (by rfl) rfl ?_
  go_simp
  refine calm_nil (hK.out _ ?_)
  clear hK K
  refine wpAnyH_done (by kernel_rfl) ?_ _
  go_wp2
  go_ret
  exact ⟨rfl, q1⟩
theorem sumL_len (K : List Nat) (S : S8) (D : List Nat) : (sumL K S D).length = 64 := rfl
theorem walk_Sha512Sums (z : List Nat) (a : Option Addr) (len cap : Nat) (w : World) (hr : Row .u8 w a len cap (nI z)) (hz : ∀ x ∈ z, x < 256) : Calls Try.prog 5 #[.slice a len cap] w fun e w' => e = .returned (.bool true) ∧ Below w.heap.size w w' :=
  walk_sums_gen (sumL KL S0) (sumL_len KL S0) sum14_one refSum14 z a len cap w hr hz
end Go.Proofs.Ythcnnglpncblaaa.B
