/-
  Layer 14's laws: the walk of Sha512Parts.
-/
import Derived.Test.YthcnnglpncblaaaShbAwake
import Derived.Test.YthcnnglpncblaaaShaEq
namespace Go.Proofs.Ythcnnglpncblaaa.B
open Go.RowKit
set_option linter.unusedVariables false
set_option maxRecDepth 8192

theorem bytes_nat6 {zs : List Int} (h : ∀ n ∈ zs, 0 ≤ n ∧ n ≤ 255) : ∃ l : List Nat, zs = nI l ∧ ∀ x ∈ l, x < 256 := by
  refine ⟨zs.map Int.toNat, ?_, ?_⟩
  · unfold nI
    rw [List.map_map]
    have e : zs.map ((fun n : Nat => (n : Int)) ∘ Int.toNat) = zs.map id := by
      apply List.map_congr_left
      intro x hx
      have := h x hx
      simp
      omega
    rw [e, List.map_id]
  · intro x hx
    obtain ⟨y, hy, rfl⟩ := List.mem_map.1 hx
    have := h y hy
    omega
theorem cells3 (w : World) (v0 v1 v2 : Value) (T : TypeId) : (w.alloc (.cells #[v0, v1, v2] T)).cell? ⟨w.heap.size, 0, none⟩ = some v0 ∧ (w.alloc (.cells #[v0, v1, v2] T)).cell? ⟨w.heap.size, 1, none⟩ = some v1 ∧ (w.alloc (.cells #[v0, v1, v2] T)).cell? ⟨w.heap.size, 2, none⟩ = some v2 :=
  ⟨by rw [World.cell?_alloc_at _ _ _ _ rfl]; rfl, by rw [World.cell?_alloc_at _ _ _ _ rfl]; rfl, by rw [World.cell?_alloc_at _ _ _ _ rfl]; rfl⟩
theorem cells2 (w : World) (v0 v1 : Value) (T : TypeId) : (w.alloc (.cells #[v0, v1] T)).cell? ⟨w.heap.size, 0, none⟩ = some v0 ∧ (w.alloc (.cells #[v0, v1] T)).cell? ⟨w.heap.size, 1, none⟩ = some v1 :=
  ⟨by rw [World.cell?_alloc_at _ _ _ _ rfl]; rfl, by rw [World.cell?_alloc_at _ _ _ _ rfl]; rfl⟩
theorem cells1 (w : World) (v0 : Value) (T : TypeId) : (w.alloc (.cells #[v0] T)).cell? ⟨w.heap.size, 0, none⟩ = some v0 := by rw [World.cell?_alloc_at _ _ _ _ rfl]; rfl
theorem row_nil (w : World) : Row .u8 w none 0 0 (nI []) := ⟨rfl, Nat.le_refl _, Nat.zero_le _, fun _ => rfl, fun h => absurd h (by omega)⟩
set_option maxHeartbeats 3200000 in
theorem walk_parts_gen (SM : List Nat → List Nat) (hSM : ∀ z, (SM z).length = 64)
    (c0 : ∀ w, Calls Try.prog 15 #[.slice none 0 0] w fun e w' => e = .returned (.agg ((nI (SM [])).map (Value.int .u8)).toArray) ∧ Below w.heap.size w w')
    (c1 : ∀ (w : World) (c : Nat) (a : Option Addr) (len cap : Nat) (z : List Nat), c < w.heap.size → PartIn w c 0 a len cap z →
      Calls Try.prog 15 #[.slice (some ⟨c, 0, none⟩) 1 1] w fun e w' => e = .returned (.agg ((nI (SM z)).map (Value.int .u8)).toArray) ∧ Below w.heap.size w w')
    (c2 : ∀ (w : World) (c : Nat) (a a' : Option Addr) (len cap len' cap' : Nat) (z z' : List Nat), c < w.heap.size → PartIn w c 0 a len cap z → PartIn w c 1 a' len' cap' z' →
      Calls Try.prog 15 #[.slice (some ⟨c, 0, none⟩) 2 2] w fun e w' => e = .returned (.agg ((nI (SM (z ++ z'))).map (Value.int .u8)).toArray) ∧ Below w.heap.size w w')
    (c3 : ∀ (w : World) (c : Nat) (a a' a'' : Option Addr) (len cap len' cap' len'' cap'' : Nat) (z z' z'' : List Nat), c < w.heap.size → PartIn w c 0 a len cap z → PartIn w c 1 a' len' cap' z' → PartIn w c 2 a'' len'' cap'' z'' →
      Calls Try.prog 15 #[.slice (some ⟨c, 0, none⟩) 3 3] w fun e w' => e = .returned (.agg ((nI (SM (z ++ z' ++ z''))).map (Value.int .u8)).toArray) ∧ Below w.heap.size w w')
    (x y z : List Nat) (a0 a1 a2 : Option Addr) (l0 k0 l1 k1 l2 k2 : Nat) (w : World) (r0 : Row .u8 w a0 l0 k0 (nI x)) (r1 : Row .u8 w a1 l1 k1 (nI y)) (r2 : Row .u8 w a2 l2 k2 (nI z)) (hx : ∀ n ∈ x, n < 256) (hy : ∀ n ∈ y, n < 256) (hz : ∀ n ∈ z, n < 256) :
    Calls Try.prog 6 #[.slice a0 l0 k0, .slice a1 l1 k1, .slice a2 l2 k2] w fun e w' => e = .returned (.bool true) ∧ Below w.heap.size w w' := by
  obtain ⟨i0, hi0, hz0, hz1, hz2⟩ := info_parts Try.info5
  by_cases b0 : 1000 < l0
  · go_enter Try.func6, Try.ntmps6
    go_wp2
    go_ret
    exact ⟨rfl, Below.refl _ _⟩
  by_cases b1 : 1000 < l1
  · have b0' : ¬ (1000 : Int) < (l0 : Int) := by omega
    go_enter Try.func6, Try.ntmps6
    go_wp2
    go_ret
    exact ⟨rfl, Below.refl _ _⟩
  by_cases b2 : 1000 < l2
  · have b0' : ¬ (1000 : Int) < (l0 : Int) := by omega
    have b1' : ¬ (1000 : Int) < (l1 : Int) := by omega
    go_enter Try.func6, Try.ntmps6
    go_wp2
    go_ret
    exact ⟨rfl, Below.refl _ _⟩
  have b0' : ¬ (1000 : Int) < (l0 : Int) := by omega
  have b1' : ¬ (1000 : Int) < (l1 : Int) := by omega
  have b2' : ¬ (1000 : Int) < (l2 : Int) := by omega
  have HX : Hid (x.length = l0) := by have := r0.hlen; rw [nI_length] at this; exact this
  have HY : Hid (y.length = l1) := by have := r1.hlen; rw [nI_length] at this; exact this
  have HZ : Hid (z.length = l2) := by have := r2.hlen; rw [nI_length] at this; exact this
  have hown0 : w.ownsRow w.heap.size 5 1 (.slice none 0 0) 0 [] := World.ownsRow_nil _ _ _ _
  go_enter Try.func6, Try.ntmps6
  go_wp2_with (at_builtin; refine wpList_append_row _ rfl _ _ 29 rfl w.heap.size 5 i0 (.int .u8 0) 1 Try.underlying29 hi0 hz0 hz1 hz2 rfl _ 0 [] rfl hown0 .u8 a0 l0 k0 _ rfl r0 (by unfold maxLen; omega) (by omega) (Nat.le_refl _) ?_)
  intro v1 w1 own1 g1
  have q1 : Below w.heap.size w w1 := (Below.refl _ _).grown g1 (Nat.le_refl _) (fun k hk => (hown0.lt k hk).1)
  try rw [List.nil_append, Nat.zero_add] at own1
  have s1 := q1.size
  clear g1 hown0
  go_wp2_with (at_builtin; refine wpList_append_row _ rfl _ _ 29 rfl w.heap.size 5 i0 (.int .u8 0) 1 Try.underlying29 hi0 hz0 hz1 hz2 rfl _ _ _ rfl own1 .u8 a1 l1 k1 _ rfl (r1.below q1 (Nat.le_refl _)) (by unfold maxLen; omega) (by omega) s1 ?_)
  intro v2 w2 own2 g2
  have q2 : Below w.heap.size w w2 := q1.grown g2 s1 (fun k hk => (own1.lt k hk).1)
  rw [← List.map_append, ← nI_append] at own2
  have s2 := q2.size
  clear g2 own1 q1 s1 w1
  go_wp2_with (at_builtin; refine wpList_append_row _ rfl _ _ 29 rfl w.heap.size 5 i0 (.int .u8 0) 1 Try.underlying29 hi0 hz0 hz1 hz2 rfl _ _ _ rfl own2 .u8 a2 l2 k2 _ rfl (r2.below q2 (Nat.le_refl _)) (by unfold maxLen; omega) (by omega) s2 ?_)
  intro v3 w3 own3 g3
  have q3 : Below w.heap.size w w3 := q2.grown g3 s2 (fun k hk => (own2.lt k hk).1)
  rw [← List.map_append, ← nI_append] at own3
  have s3 := q3.size
  clear g3 own2 q2 s2 w2
  obtain ⟨aA, cA, rfl, rA⟩ := row_of_owns own3
  clear own3
  have hown0 : w3.ownsRow w3.heap.size 5 1 (.slice none 0 0) 0 [] := World.ownsRow_nil _ _ _ _
  go_wp2_with (at_builtin; refine wpList_append_row _ rfl _ _ 29 rfl w3.heap.size 5 i0 (.int .u8 0) 1 Try.underlying29 hi0 hz0 hz1 hz2 rfl _ 0 [] rfl hown0 .u8 a1 l1 k1 _ rfl (r1.below q3 (Nat.le_refl _)) (by unfold maxLen; omega) (by omega) (Nat.le_refl _) ?_)
  intro v4 w4 own4 g4
  have q4 : Below w3.heap.size w3 w4 := (Below.refl _ _).grown g4 (Nat.le_refl _) (fun k hk => (hown0.lt k hk).1)
  try rw [List.nil_append, Nat.zero_add] at own4
  have s4 := q4.size
  clear g4 hown0
  go_wp2_with (at_builtin; refine wpList_append_row _ rfl _ _ 29 rfl w3.heap.size 5 i0 (.int .u8 0) 1 Try.underlying29 hi0 hz0 hz1 hz2 rfl _ _ _ rfl own4 .u8 a2 l2 k2 _ rfl ((r2.below q3 (Nat.le_refl _)).below q4 (Nat.le_refl _)) (by unfold maxLen; omega) (by omega) s4 ?_)
  intro v5 w5 own5 g5
  have q5 : Below w3.heap.size w3 w5 := q4.grown g5 s4 (fun k hk => (own4.lt k hk).1)
  rw [← List.map_append, ← nI_append] at own5
  clear g5 own4 q4 s4 w4
  obtain ⟨aT, cT, rfl, rT⟩ := row_of_owns own5
  clear own5
  replace rA := rA.below q5 (Nat.le_refl _)
  replace r0 := (r0.below q3 (Nat.le_refl _)).below q5 (Nat.le_refl _)
  replace r1 := (r1.below q3 (Nat.le_refl _)).below q5 (Nat.le_refl _)
  replace r2 := (r2.below q3 (Nat.le_refl _)).below q5 (Nat.le_refl _)
  replace q5 : Below w.heap.size w w5 := q3.trans (q5.mono s3)
  clear q3 s3 w3
  have HA : Hid (∀ n ∈ x ++ y ++ z, n < 256) := fun n hn => by
    simp only [List.mem_append] at hn
    rcases hn with (h | h) | h
    · exact hx n h
    · exact hy n h
    · exact hz n h
  have HT : Hid (∀ n ∈ y ++ z, n < 256) := fun n hn => by
    simp only [List.mem_append] at hn
    rcases hn with h | h
    · exact hy n h
    · exact hz n h
  have f0 : Hid (x.length ≤ 100000) := by show _ ≤ _; rw [HX.out]; omega
  have f1 : Hid (y.length ≤ 100000) := by show _ ≤ _; rw [HY.out]; omega
  have f2 : Hid (z.length ≤ 100000) := by show _ ≤ _; rw [HZ.out]; omega
  have fA : Hid ((x ++ y ++ z).length ≤ 100000) := by show _ ≤ _; simp only [List.length_append, HX.out, HY.out, HZ.out]; omega
  have fT : Hid ((y ++ z).length ≤ 100000) := by show _ ≤ _; simp only [List.length_append, HY.out, HZ.out]; omega
  have k3 := fun (w : World) (c : Nat) h p0 p1 p2 => c3 w c a0 a1 a2 l0 k0 l1 k1 l2 k2 x y z h p0 p1 p2
  have k1' := fun (w : World) (c : Nat) h p => c1 w c aA (l0 + l1 + l2) cA (x ++ y ++ z) h p
  have k2' := fun (w : World) (c : Nat) h p p' => c2 w c a0 aT l0 k0 (l1 + l2) cT x (y ++ z) h p p'
  have kN := fun (w : World) (c : Nat) h p p' => c2 w c none none 0 0 0 0 [] [] h p p'
  rw [← List.append_assoc] at k2'
  rw [List.nil_append] at kN
  have HL : Hid ((nI (SM (x ++ y ++ z))).length = 64) := by show _ = _; rw [nI_length, hSM]
  have HN : Hid ((nI (SM [])).length = 64) := by show _ = _; rw [nI_length, hSM]
  clear c1 c2 c3 hSM
  generalize SM (x ++ y ++ z) = sm at *
  generalize SM [] = sn at *
  generalize x ++ y ++ z = al at *
  generalize y ++ z = tw at *
  go_wp2_with fail
  refine (awake14_any _).mono ?_
  rintro e w6 ⟨rfl, q6⟩
  replace rA := rA.below q6 (Nat.le_refl _)
  replace rT := rT.below q6 (Nat.le_refl _)
  replace r0 := r0.below q6 (Nat.le_refl _)
  replace r1 := r1.below q6 (Nat.le_refl _)
  replace r2 := r2.below q6 (Nat.le_refl _)
  replace q5 := q5.trans (q6.mono q5.size)
  clear q6
  go_wp2_with fail
  have qa := below_one w6 (.cells #[.slice a0 l0 k0, .slice a1 l1 k1, .slice a2 l2 k2] 29)
  have hc := cells3 w6 (.slice a0 l0 k0) (.slice a1 l1 k1) (.slice a2 l2 k2) 29
  replace r0 := r0.below qa (Nat.le_refl _)
  replace r1 := r1.below qa (Nat.le_refl _)
  replace r2 := r2.below qa (Nat.le_refl _)
  replace rA := rA.below qa (Nat.le_refl _)
  replace rT := rT.below qa (Nat.le_refl _)
  replace q5 := q5.trans (qa.mono q5.size)
  refine (k3 _ w6.heap.size (by simp) ⟨hc.1, r0, hx, f0.out⟩ ⟨hc.2.1, r1, hy, f1.out⟩ ⟨hc.2.2, r2, hz, f2.out⟩).mono ?_
  rintro e w7 ⟨rfl, qb⟩
  replace r0 := r0.below qb (Nat.le_refl _)
  replace r1 := r1.below qb (Nat.le_refl _)
  replace r2 := r2.below qb (Nat.le_refl _)
  replace rA := rA.below qb (Nat.le_refl _)
  replace rT := rT.below qb (Nat.le_refl _)
  replace q5 := q5.trans (qb.mono q5.size)
  clear qa qb hc k3
  go_wp2_with fail
  have qa := below_one w7 (.cells #[.slice aA (l0 + l1 + l2) cA] 29)
  have hc := cells1 w7 (.slice aA (l0 + l1 + l2) cA) 29
  replace r0 := r0.below qa (Nat.le_refl _)
  replace rA := rA.below qa (Nat.le_refl _)
  replace rT := rT.below qa (Nat.le_refl _)
  replace q5 := q5.trans (qa.mono q5.size)
  refine (k1' _ w7.heap.size (by simp) ⟨hc, rA, HA.out, fA.out⟩).mono ?_
  rintro e w8 ⟨rfl, qb⟩
  replace r0 := r0.below qb (Nat.le_refl _)
  replace rA := rA.below qb (Nat.le_refl _)
  replace rT := rT.below qb (Nat.le_refl _)
  replace q5 := q5.trans (qb.mono q5.size)
  clear qa qb hc
  go_wp2_with (refine wpList_exec (by rfl) (exec_eqlA 35 35 _ _ rfl (nI sm) rfl rfl Try.eqGuardType35 Try.underlying35 Try.underlying5 Try.one5 HL.out) ?_)
  have qa := below_one w8 (.cells #[.slice a0 l0 k0, .slice aT (l1 + l2) cT] 29)
  have hc := cells2 w8 (.slice a0 l0 k0) (.slice aT (l1 + l2) cT) 29
  replace r0 := r0.below qa (Nat.le_refl _)
  replace rA := rA.below qa (Nat.le_refl _)
  replace rT := rT.below qa (Nat.le_refl _)
  replace q5 := q5.trans (qa.mono q5.size)
  refine (k2' _ w8.heap.size (by simp) ⟨hc.1, r0, hx, f0.out⟩ ⟨hc.2, rT, HT.out, fT.out⟩).mono ?_
  rintro e w9 ⟨rfl, qb⟩
  replace r0 := r0.below qb (Nat.le_refl _)
  replace rA := rA.below qb (Nat.le_refl _)
  replace rT := rT.below qb (Nat.le_refl _)
  replace q5 := q5.trans (qb.mono q5.size)
  clear qa qb hc k2'
  go_wp2_with fail
  have qa := below_one w9 (.cells #[.slice aA (l0 + l1 + l2) cA] 29)
  have hc := cells1 w9 (.slice aA (l0 + l1 + l2) cA) 29
  replace rA := rA.below qa (Nat.le_refl _)
  replace q5 := q5.trans (qa.mono q5.size)
  refine (k1' _ w9.heap.size (by simp) ⟨hc, rA, HA.out, fA.out⟩).mono ?_
  rintro e w10 ⟨rfl, qb⟩
  replace rA := rA.below qb (Nat.le_refl _)
  replace q5 := q5.trans (qb.mono q5.size)
  clear qa qb hc k1'
  go_wp2_with (refine wpList_exec (by rfl) (exec_eqlA 35 35 _ _ rfl (nI sm) rfl rfl Try.eqGuardType35 Try.underlying35 Try.underlying5 Try.one5 HL.out) ?_)
  refine (c0 _).mono ?_
  rintro e w11 ⟨rfl, qb⟩
  replace q5 := q5.trans (qb.mono q5.size)
  clear qb c0
  go_wp2_with fail
  have qa := below_one w11 (.cells #[.slice none 0 0, .slice none 0 0] 29)
  have hc := cells2 w11 (.slice none 0 0) (.slice none 0 0) 29
  replace q5 := q5.trans (qa.mono q5.size)
  refine (kN _ w11.heap.size (by simp) ⟨hc.1, row_nil _, by simp, by simp⟩ ⟨hc.2, row_nil _, by simp, by simp⟩).mono ?_
  rintro e w12 ⟨rfl, qb⟩
  replace q5 := q5.trans (qb.mono q5.size)
  clear qa qb hc kN
  go_wp2_with (refine wpList_exec (by rfl) (exec_eqlA 35 35 _ _ rfl (nI sn) rfl rfl Try.eqGuardType35 Try.underlying35 Try.underlying5 Try.one5 HN.out) ?_)
  go_ret
  exact ⟨rfl, q5⟩
theorem sumL_length (K : List Nat) (S : S8) (D : List Nat) : (sumL K S D).length = 64 := rfl
theorem walk_Sha512Parts (x y z : List Nat) (a0 a1 a2 : Option Addr) (l0 k0 l1 k1 l2 k2 : Nat) (w : World) (r0 : Row .u8 w a0 l0 k0 (nI x)) (r1 : Row .u8 w a1 l1 k1 (nI y)) (r2 : Row .u8 w a2 l2 k2 (nI z)) (hx : ∀ n ∈ x, n < 256) (hy : ∀ n ∈ y, n < 256) (hz : ∀ n ∈ z, n < 256) :
    Calls Try.prog 6 #[.slice a0 l0 k0, .slice a1 l1 k1, .slice a2 l2 k2] w fun e w' => e = .returned (.bool true) ∧ Below w.heap.size w w' :=
  walk_parts_gen (sumL KL S0) (sumL_length KL S0) sum14_none sum14_one sum14_two sum14_three x y z a0 a1 a2 l0 k0 l1 k1 l2 k2 w r0 r1 r2 hx hy hz
end Go.Proofs.Ythcnnglpncblaaa.B
