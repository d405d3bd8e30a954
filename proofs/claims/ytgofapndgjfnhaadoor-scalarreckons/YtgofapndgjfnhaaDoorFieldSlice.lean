/-
  Arrays of 32 bytes in variables: as slices; a byte is read, a byte is written; one of a first byte.
-/
import Derived.Test.YtgofapndgjfnhaaDoorFieldCode
import Derived.Test.YtgofapndgjfnhaaDoorNumCode
namespace Go.Proofs.YtgofapndgjfnhaaDoor.N
open Go.RowKit
set_option linter.unusedVariables false
set_option maxRecDepth 8192

theorem run_sliceAll {P : Program} (t e : TypeId) (n : Nat) (hu : P.underlying t = some (.array n e)) (he : (P.info? e).map (·.size) = some 1) (b o : Nat) (h3 : 0 < n) (w : World) :
    (Instr.sliceAt t (.pointer (some ⟨b, o, none⟩)) none none none).run P w = .ok (.slice (some ⟨b, o, none⟩) n n) w := by
  have hal : P.arrayLen t = n := by simp [Program.arrayLen, hu]
  have hel : P.elem t = e := by simp [Program.elem, hu]
  obtain ⟨inf, hq, hs⟩ := Option.map_eq_some_iff.1 he
  rw [run_sliceAt_array_all w t ⟨b, o, none⟩ (by rw [hal, hel]; exact hu)]
  rw [hal, hel]
  simp [sizeOf, typeInfo, hq, hs, slicedAt, show ¬ n = 0 by omega, plain_add]
theorem row_bA {w : World} {g : Nat} {T : TypeId} {a : Nat} (h : w.heap[g]? = some (.cells (bA a) T (0, 0))) : Row .u8 w (some ⟨g, 0, none⟩) 32 32 (nI (digL a 32)) := by
  refine ⟨by rw [nI_length, digL_length], Nat.le_refl _, by unfold maxLen; omega, by simp, fun _ => ⟨g, 0, rfl, lt_of_heap h, fun i hi => ?_⟩⟩
  rw [cell_of_row w g _ _ _ _ h, Nat.zero_add, bA_get a i hi, nI_dg, dg_digL hi]
theorem vB {a : Nat} (h : a < 2 ^ 256) : vL (digL a 32) = a := vL_digL_lt (by rw [b256]; exact h)
theorem digL_set31 {v x : Nat} (hv : v < 2 ^ 256) (hx : x < 256) : (digL v 32).set 31 x = digL (v % 256 ^ 31 + x * 256 ^ 31) 32 := by
  have h1 := vL_set (l := digL v 32) (j := 31) (x := x) (by rw [digL_length]; decide)
  rw [vL_digL_lt (by rw [b256]; exact hv), dg_digL (by decide)] at h1
  have h2 : v / 256 ^ 31 % 256 = v / 256 ^ 31 := Nat.mod_eq_of_lt (Nat.div_lt_of_lt_mul (by rw [show 256 ^ 31 * 256 = 2 ^ 256 by decide]; exact hv))
  rw [h2] at h1
  have h3 := Nat.div_add_mod v (256 ^ 31)
  have h6 : v % 256 ^ 31 < 256 ^ 31 := Nat.mod_lt _ (Nat.pow_pos (by decide))
  have h4 : vL ((digL v 32).set 31 x) = v % 256 ^ 31 + x * 256 ^ 31 := by
    rw [Nat.mul_comm] at h3
    generalize 256 ^ 31 = A at *
    omega
  have h5 : v % 256 ^ 31 + x * 256 ^ 31 < 256 ^ 32 := by
    rw [show (256 : Nat) ^ 32 = 256 * 256 ^ 31 by decide]
    generalize 256 ^ 31 = A at *
    have : x * A ≤ 255 * A := Nat.mul_le_mul_right _ (by omega)
    omega
  refine ((digL_dig v 32).set 31 hx).ext (digL_dig _ _) (by rw [List.length_set, digL_length, digL_length]) ?_
  rw [h4, vL_digL_lt h5]
section
variable {P : Program} {ops : Array Oper} {rest : List Oper} {o : Oper} {a : Act} {w w0 : World} {Q : Exit → Act → World → Prop} {K : Act → World → Prop} {l : List AV}
theorem cell_byte (V : Vars w0 w l) (i : Nat) {g : Nat} {T : TypeId} {X : Array Value} (hi : l[i]? = some ⟨g, T, X⟩) (off : Nat) {z : Int} (hz : X[off]? = some (.int .u8 z)) : w.cell? ⟨g, off, none⟩ = some (.int .u8 z) := by
  rw [cell_of_row w g off X T (0, 0) (V.at i hi), hz]
/-- A byte of a number in a variable is written: the world behind it. -/
theorem Vars.setB (V : Vars w0 w l) (i : Nat) {g : Nat} {T : TypeId} {v : Nat} (hi : l[i]? = some ⟨g, T, bA v⟩) (j : Nat) (x v' : Nat) (hv : (digL v 32).set j x = digL v' 32) : Vars w0 (w.setCell ⟨g, j, none⟩ (.int .u8 (x : Int))) (l.set i ⟨g, T, bA v'⟩) := by
  have hi2 : l[i]? = some ⟨g, T, arr .u8 (digL v 32)⟩ := by rw [hi, bA_def]
  have V2 := V.setc i hi2 j x
  rw [hv, ← bA_def] at V2
  exact V2
end
theorem exec_sliceB {a : Act} {o : Oper} {w w0 : World} {l : List AV} (V : Vars w0 w l) (i : Nat) {g : Nat} {X : Array Value} (hi : l[i]? = some ⟨g, 23, X⟩) (x : Operand) (ho : o.op = .slice 23 x none none none) (hx : a.eval x = .pointer (some ⟨g, 0, none⟩)) :
    (execOp a.eval o).run Tryd.prog w = .ok (.value (.slice (some ⟨g, 0, none⟩) 32 32)) w := by
  unfold execOp
  simp only [ho, hx, Option.map_none, run_sliceAll 23 5 32 Tryd.underlying23 Tryd.sz8 g 0 (by decide) w, Sem.run_bind, Sem.run_pure, Result.andThen_ok]
theorem built_B (n : Nat) (hn : n < 256) : Tryd.prog.built 23 [(0, .int .u8 (n : Int))] = some (bA n) := by
  have e : bA n = arr .u8 (n :: List.replicate 31 0) := by
    rw [bA_def]
    congr 1
    refine (digL_dig _ _).ext (fun y hy => ?_) (by rw [digL_length]; rfl) ?_
    · rcases List.mem_cons.1 hy with rfl | h
      · exact hn
      · rw [(List.mem_replicate.1 h).2]; decide
    · rw [vL_digL_lt (Nat.lt_of_lt_of_le hn (by decide))]
      have h1 := vL_set (l := List.replicate 32 0) (j := 0) (x := n) (by decide)
      rw [vL_zero] at h1
      have h2 : (List.replicate 32 0).set 0 n = n :: List.replicate 31 0 := rfl
      have h3 : dg (List.replicate 32 0) 0 = 0 := rfl
      rw [h2, h3] at h1
      omega
  rw [e]
  rfl
end Go.Proofs.YtgofapndgjfnhaaDoor.N
