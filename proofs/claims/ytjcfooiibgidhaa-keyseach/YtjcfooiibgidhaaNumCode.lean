/-
  The code of layer 15 (nums), as it landed: trim, Norm.
-/
import Derived.Test.YtjcfooiibgidhaaNumPlain
import Derived.Test.YtjcfooiibgidhaaBits
import Derived.Test.YtjcfooiibgidhaaHeld
import Derived.Deep.MidRow
import Derived.Deep.WholeRow
import Derived.Laws.BitsAllLaws
namespace Go.Proofs.Ytjcfooiibgidhaa.N
open Go.RowKit
set_option linter.unusedVariables false
set_option maxRecDepth 8192

theorem belowN {B : Nat} {a w : World} (h : Below B a w) (n : Nat) : Below B a (w.drewN n) := ⟨h.os, h.tape, h.output, h.size, h.block⟩
theorem quiet_eq {P : Program} {f : FuncId} {args : Array Value} {w : World} {n : Nat} {v : Value}
    (h : Calls P f args (w.drewN n) fun e w' => e = .returned v ∧ w.drewN n = w') : Calls P f args (w.drewN n) fun e w'' => e = .returned v ∧ ∃ m, w'' = w.drewN m :=
  h.mono fun _ _ ⟨he, hm⟩ => ⟨he, n, hm.symm⟩
theorem quiet_eq2 {P : Program} {f : FuncId} {args : Array Value} {w : World} {m n : Nat} {v : Value}
    (h : Calls P f args (w.drewN (m + n)) fun e w' => e = .returned v ∧ w.drewN (m + n) = w') : Calls P f args (w.drewN (m + n)) fun e w'' => e = .returned v ∧ ∃ n, w'' = w.drewN (m + n) :=
  h.mono fun _ _ ⟨he, hm⟩ => ⟨he, n, hm.symm⟩
/-- A block of numbers, whole. -/
def Arr (w : World) (g : Nat) (T : TypeId) (k : IntKind) (zs : List Int) : Prop := w.heap[g]? = some (.cells (zs.map (Value.int k)).toArray T (0, 0))
theorem Arr.lt {w : World} {g : Nat} {T : TypeId} {k : IntKind} {zs : List Int} (h : Arr w g T k zs) : g < w.heap.size := by
  unfold Arr at h
  rcases Nat.lt_or_ge g w.heap.size with h' | h'
  · exact h'
  · rw [Array.getElem?_eq_none h'] at h; simp at h
theorem Arr.cell {w : World} {g : Nat} {T : TypeId} {k : IntKind} {zs : List Int} (h : Arr w g T k zs) (i : Nat) (hi : i < zs.length) : w.cell? ⟨g, i, none⟩ = some (.int k (zs[i]?.getD 0)) := by
  rw [cell_of_row w g i _ T (0, 0) h]
  simp [List.getElem?_map, List.getElem?_eq_getElem hi]
theorem Arr.unfrozen {w : World} {g : Nat} {T : TypeId} {k : IntKind} {zs : List Int} (h : Arr w g T k zs) (i : Nat) : w.frozen? ⟨g, i, none⟩ = false := by
  unfold Arr at h; simp [World.frozen?, h]
theorem Arr.below {w w' : World} {g B : Nat} {T : TypeId} {k : IntKind} {zs : List Int} (h : Arr w g T k zs) (hb : Below B w w') (hg : g < B) : Arr w' g T k zs := by
  unfold Arr; rw [hb.block g hg]; exact h
theorem Arr.own {w : World} {g : Nat} {T : TypeId} {k : IntKind} {zs : List Int} (h : Arr w g T k zs) (hm : zs.length ≤ maxLen) : w.ownsRow g T 1 (.slice (some ⟨g, 0, none⟩) zs.length zs.length) zs.length (zs.map (Value.int k)) :=
  owns_of_heap h (by simp) (Nat.le_refl _) hm
theorem Arr.set {w : World} {g : Nat} {T : TypeId} {k : IntKind} {zs : List Int} (h : Arr w g T k zs) (hm : zs.length ≤ maxLen) (i : Nat) (x : Int) : Arr (w.setCell ⟨g, i, none⟩ (.int k x)) g T k (zs.set i x) := by
  have h1 := ((h.own hm).stored i (.int k x)).1
  rw [← List.map_set] at h1
  exact heap_of_owns h1
/-- A part of a block reads as a row. -/
theorem Arr.win {w : World} {g : Nat} {T : TypeId} {k : IntKind} {zs : List Int} (h : Arr w g T k zs) (off len cap : Nat) (hl : off + len ≤ zs.length) (hc : len ≤ cap) (hm : cap ≤ maxLen) : Row k w (some ⟨g, off, none⟩) len cap ((zs.drop off).take len) := by
  refine ⟨by rw [List.length_take, List.length_drop]; omega, hc, hm, by simp, fun h0 => ⟨g, off, rfl, h.lt, fun i hi => ?_⟩⟩
  rw [h.cell (off + i) (by omega), List.getElem?_take, if_pos hi, List.getElem?_drop]
theorem row_take {k : IntKind} {w : World} {a : Option Addr} {len cap : Nat} {zs : List Int} (h : Row k w a len cap zs) (n : Nat) (hn : n ≤ len) : Row k w a n cap (zs.take n) := by
  have hl := h.hlen
  have hc := h.hcap
  refine ⟨by simp; omega, by omega, h.hmax, h.hnil, fun h0 => ?_⟩
  obtain ⟨b, off, rfl, hbs, hcell⟩ := h.hcell (by omega)
  refine ⟨b, off, rfl, hbs, fun i hi => ?_⟩
  rw [hcell i (by omega), List.getElem?_take, if_pos hi]
theorem row_drop {k : IntKind} {w : World} {b off len cap : Nat} {zs : List Int} (h : Row k w (some ⟨b, off, none⟩) len cap zs) (n : Nat) (hn : n ≤ len) : Row k w (some ⟨b, off + n, none⟩) (len - n) (cap - n) (zs.drop n) := by
  have hl := h.hlen
  have hc := h.hcap
  have hm := h.hmax
  refine ⟨by simp; omega, by omega, by omega, by simp, fun h0 => ?_⟩
  obtain ⟨b', off', he, hbs, hcell⟩ := h.hcell (by omega)
  simp only [Option.some.injEq, Addr.mk.injEq, and_true] at he
  obtain ⟨rfl, rfl⟩ := he
  refine ⟨b, off + n, rfl, hbs, fun i hi => ?_⟩
  rw [Nat.add_assoc, hcell (n + i) (by omega), List.getElem?_drop]
theorem row_nt {w : World} {a : Option Addr} {len cap : Nat} {z : List Nat} (h : Row .u8 w a len cap (nI z)) : Row .u8 w a (tl z) cap (nI (nt z)) := by
  have hl := h.hlen
  rw [nI_length] at hl
  have := row_take h (tl z) (by have := tl_le z; omega)
  rwa [nI_take] at this
/-- A call hands back the bytes z. -/
def Gives (w : World) (z : List Nat) (e : Ending) (w' : World) : Prop :=
  ∃ a cap, e = .returned (.slice a z.length cap) ∧ Row .u8 w' a z.length cap (nI z) ∧ Below w.heap.size w w'
/-- A call hands back the bytes z and the error number n. -/
def GivesE (w : World) (z : List Nat) (n : Int) (e : Ending) (w' : World) : Prop :=
  ∃ a cap, e = .returned (.tuple #[.slice a z.length cap, .int .i64 n]) ∧ Row .u8 w' a z.length cap (nI z) ∧ Below w.heap.size w w'
/-- 'copy(out, b)', out a longer row of noughts. -/
theorem copy_front {P : Program} {k : IntKind} {w0 w : World} {B g n len cap : Nat} {dT elem ty : TypeId} {a : Option Addr} {z : List Int} (hu : P.underlying dT = some (.slice elem)) (hsz : (P.info? elem).map (·.size) = some 1)
    (hg : w.heap[g]? = some (.cells ((List.replicate n (0 : Int)).map (Value.int k)).toArray elem (0, 0))) (hle : len ≤ n) (hr : Row k w a len cap z) (hb : Below B w0 w) (hB : B ≤ g) :
    ∃ w2, Sem.run P (Builtin.copy_ #[dT, dT] ty #[.slice (some ⟨g, 0, none⟩) n n, .slice a len cap]) w = .ok (.int .i64 len) w2 ∧ w2.heap[g]? = some (.cells ((z ++ List.replicate (n - len) 0).map (Value.int k)).toArray elem (0, 0)) ∧ Below B w0 w2 := by
  have hl := hr.hlen
  by_cases h0 : len = 0
  · subst h0
    have hz : z = [] := List.eq_nil_of_length_eq_zero hl
    refine ⟨w, ?_, ?_, hb⟩
    · exact run_copy_none (P := P) w dT dT ty elem _ a n n 0 cap hu hsz (by simp)
    · rw [hg, hz]
      simp
  · obtain ⟨b, off, rfl, hbs, hcell⟩ := hr.hcell (by omega)
    have hrun := run_copy_row (P := P) w dT dT ty elem g 0 n n ⟨b, off, none⟩ len cap ((List.replicate n (0 : Int)).map (Value.int k)).toArray elem (z.map (Value.int k)) hu hsz hg (by rw [List.length_map, hl]; exact (Nat.min_eq_left hle).symm) (cells_row hl hcell) (by simp; omega) (ints_oneCell _ _)
    have e1 : ((((List.replicate n (0 : Int)).map (Value.int k)).toArray.toList.take 0) ++ z.map (Value.int k) ++ ((List.replicate n (0 : Int)).map (Value.int k)).toArray.toList.drop (0 + (z.map (Value.int k)).length)) = (z ++ List.replicate (n - len) 0).map (Value.int k) := by
      simp [hl]
    rw [e1] at hrun
    refine ⟨_, ?_, setRow_heap w g _ _ elem _ hg, below_setRow hb hB _⟩
    rw [hrun]
    simp [goInt, hl]
theorem nI_front {z : List Nat} (h : Dig z) (n : Nat) : nI z ++ List.replicate n 0 = nI (digL (vL z) (z.length + n)) := by
  have e : z ++ List.replicate n 0 = digL (vL z) (z.length + n) := by
    apply list_dg
    · rw [List.length_append, List.length_replicate, digL_length]
    · intro i
      rcases Nat.lt_or_ge i z.length with h1 | h1
      · rw [dg_digL (by omega), ← dg_of h]
        unfold dg
        rw [List.getElem?_append_left h1]
      · have e1 : dg (z ++ List.replicate n 0) i = 0 := by
          unfold dg
          rw [List.getElem?_append_right h1, List.getElem?_replicate]
          split <;> rfl
        rw [e1]
        rcases Nat.lt_or_ge i (z.length + n) with h2 | h2
        · rw [dg_digL h2, ← dg_of h, dg_past h1]
        · rw [dg_past (by rw [digL_length]; exact h2)]
  rw [← e, nI_append]
  simp [nI]
/-- What 'make' lays. -/
theorem made_arr {w w1 : World} {T : TypeId} {n : Nat} (h1 : w1.ownsRow w.heap.size T 1 (.slice (some ⟨w.heap.size, 0, none⟩) n n) n (madeCells (Value.int IntKind.u8 0).cells (n * 1)).toList) (h2 : w.grownBy w1 none) :
    Arr w1 w.heap.size T .u8 (List.replicate n 0) ∧ Below w.heap.size w w1 := by
  refine ⟨?_, (Below.refl _ _).grown h2 (Nat.le_refl _) (by simp)⟩
  rw [made_ints] at h1
  exact heap_of_owns h1
theorem Arr.nb {w w1 : World} {g : Nat} {T : TypeId} {v n : Nat} (h : Arr w g T .u8 (nI (digL v n))) (hv : v < 256 ^ n) (hn : n ≤ 1000000) : Row .u8 w (some ⟨g, 0, none⟩) (nb v).length n (nI (nb v)) := by
  have := row_nt (z := digL v n) (by
    have := h.win 0 n n (by rw [nI_length, digL_length]; omega) (Nat.le_refl _) (by unfold maxLen; omega)
    rwa [List.drop_zero, List.take_of_length_le (by rw [nI_length, digL_length]; exact Nat.le_refl _)] at this)
  rwa [tl_digL hv, nt_digL hv] at this

end Go.Proofs.Ytjcfooiibgidhaa.N
