/-
  The code of layer 11 (store), as it landed: others: the whole blocks of a logical block that do not stand for it.
-/
import Derived.Test.YtbafkakhhelcmaaGreatStoreCode8
import Derived.Lib.SliceRun
import Derived.Deep.AppendLies
namespace Go.Proofs.YtbafkakhhelcmaaGreat
open Go.RowKit Go.Maps
set_option linter.unusedVariables false
set_option maxRecDepth 8192

def delB (st : List Int) (y : Int) : Bool := decide (y = -1) || decide (y ∈ st)
section
variable {d s g : Nat} {st : List Int} {nu : Int} {dn : Bool}
theorem del_any (y : Int) (bx : Nat) (w : World) (h : SBox w s d g st nu dn) (hc : w.cell? ⟨bx, 0, none⟩ = some (.pointer (some ⟨s, 0, none⟩))) :
    Calls Tryz.prog 70 #[.int .i64 y, .pointer (some ⟨bx, 0, none⟩)] w fun e w' => e = .returned (.bool (delB st y)) ∧ w = w' := by
  have hct := contI_any (some ⟨g, 0, none⟩) st.length st.length st y w h.ints (by have := h.len; omega)
  have c1 := h.c1
  clear h
  have HD : Hid (delB st y = (decide (y = -1) || decide (y ∈ st))) := rfl
  generalize decide (y ∈ st) = b at *
  generalize st.length = L at *
  by_cases h1 : y = -1
  · subst h1
    have HE : Hid (delB st (-1) = true) := by show _ = _; rw [HD.out]; rfl
    rw [HE.out]
    clear HD
    go_enter Tryz.func70, Tryz.ntmps70
    go_wp2_with fail
    go_ret
    exact ⟨rfl, rfl⟩
  · have hne : (y == -1) = false := by simp [h1]
    have HE : Hid (delB st y = b) := by show _ = _; rw [HD.out, decide_eq_false h1]; rfl
    rw [HE.out]
    clear HD h1
    go_enter Tryz.func70, Tryz.ntmps70
    go_wp2_with fail
    refine hct.mono ?_
    rintro e w1 ⟨rfl, rfl⟩
    go_wp2_with fail
    go_ret
    exact ⟨rfl, rfl⟩
set_option maxHeartbeats 800000 in
theorem idxF_last (Y : List Int) (x0 : Int) (g1 cap : Nat) (hn : Y.length ≤ 100000) (bx : Nat) (w : World) (h : SBox w s d g st nu dn) (hc : w.cell? ⟨bx, 0, none⟩ = some (.pointer (some ⟨s, 0, none⟩))) (hr : Row .i64 w (some ⟨g1, 0, none⟩) (Y.length + 1) cap (Y ++ [x0])) (hf : ∀ y ∈ Y, delB st y = false) (hx : delB st x0 = true) :
    Calls Tryz.prog 99 #[.slice (some ⟨g1, 0, none⟩) (Y.length + 1) cap, .func (.func 70) #[] #[.pointer (some ⟨bx, 0, none⟩)]] w fun e w' => e = .returned (.int .i64 (Y.length : Int)) ∧ w = w' := by
  obtain ⟨b, off, e, _, hcell⟩ := hr.hcell (by omega)
  simp only [Option.some.injEq, Addr.mk.injEq, and_true] at e
  obtain ⟨rfl, rfl⟩ := e
  have hdel := fun y => del_any y bx w h hc
  have HF : Hid (∀ k, k < Y.length → delB st ((Y ++ [x0])[k]?.getD 0) = false) := fun k hk => by
    rw [List.getElem?_append_left hk]
    exact hf _ (mem_getD Y k hk)
  have HX : Hid (delB st ((Y ++ [x0])[Y.length]?.getD 0) = true) := by
    show _ = _
    rw [List.getElem?_append_right (Nat.le_refl _), Nat.sub_self]
    exact hx
  clear h hc hr hf hx
  generalize Y ++ [x0] = Z at *
  generalize Y.length = n at *
  go_enter Tryz.func99, Tryz.ntmps99
  go_wp2_with fail
  go_loop [8] (fun i => ∃ k : Nat, k ≤ n ∧ i = .int .i64 (k : Int)) (fun i => n + 1 - (RowKit.intOf i).toNat)
  case atStart => exact ⟨0, Nat.zero_le _, rfl⟩
  case round =>
    obtain ⟨k, hk, rfl⟩ := hrel
    have hlt' : (k : Int) < ((n + 1 : Nat) : Int) := by omega
    have hck := hcell k (by omega)
    rw [Nat.zero_add] at hck
    have hd := hdel (Z[k]?.getD 0)
    by_cases hkn : k = n
    · subst hkn
      rw [HX.out] at hd
      clear hdel hcell HF HX
      generalize Z[k]?.getD 0 = y at *
      go_wp2_with fail
      refine hd.mono ?_
      rintro e w1 ⟨rfl, rfl⟩
      go_wp2_with fail
      go_ret
      exact ⟨rfl, rfl⟩
    · rw [HF.out k (by omega)] at hd
      clear hdel hcell HF HX
      generalize Z[k]?.getD 0 = y at *
      go_wp2_with fail
      refine hd.mono ?_
      rintro e w1 ⟨rfl, rfl⟩
      go_wp2_with fail
      go_round
      case rel => exact ⟨k + 1, by omega, by go_num⟩
      case measure => simp [RowKit.intOf]; omega
set_option maxHeartbeats 1600000 in
theorem delF_last (Y : List Int) (x0 : Int) (base g1 cap : Nat) (hn : Y.length ≤ 100000) (bx : Nat) (w : World) (h : SBox w s d g st nu dn) (hc : w.cell? ⟨bx, 0, none⟩ = some (.pointer (some ⟨s, 0, none⟩))) (own : w.ownsRow base 3 1 (.slice (some ⟨g1, 0, none⟩) (Y.length + 1) cap) (Y.length + 1) ((Y ++ [x0]).map (Value.int .i64))) (hf : ∀ y ∈ Y, delB st y = false) (hx : delB st x0 = true) :
    Calls Tryz.prog 69 #[.slice (some ⟨g1, 0, none⟩) (Y.length + 1) cap, .func (.func 70) #[] #[.pointer (some ⟨bx, 0, none⟩)]] w fun e w' => e = .returned (.slice (some ⟨g1, 0, none⟩) Y.length cap) ∧ w'.ownsRow base 3 1 (.slice (some ⟨g1, 0, none⟩) Y.length cap) Y.length (Y.map (Value.int .i64)) ∧ w.grownBy w' (some g1) := by
  obtain ⟨a1, c1, hv, hr⟩ := row_of_owns own
  simp only [Value.slice.injEq, true_and] at hv
  obtain ⟨rfl, rfl⟩ := hv
  have hidx := idxF_last Y x0 g1 cap hn bx w h hc hr hf hx
  have hcap := hr.hcap
  have hmx := hr.hmax
  unfold maxLen at hmx
  have hcn := owned_cell own Y.length (by omega)
  have hfz : w.frozen? ⟨g1, Y.length, none⟩ = false := by
    rcases own.2 with ⟨h', _⟩ | ⟨g', cap', cur, h', _, hg, _, _, _, _⟩
    · simp at h'
    · simp only [Value.slice.injEq, Option.some.injEq, Addr.mk.injEq, and_true, true_and] at h'
      obtain ⟨rfl, rfl⟩ := h'
      simp [World.frozen?, hg]
  have hcs : ∀ j, j < 1 → (w.cell? ⟨g1, Y.length + j, none⟩).isSome = true := fun j hj => by
    have e : j = 0 := by omega
    rw [e, Nat.add_zero, hcn]
    rfl
  have hfs : ∀ j, j < 1 → w.frozen? ⟨g1, Y.length + j, none⟩ = false := fun j hj => by
    have e : j = 0 := by omega
    rw [e, Nat.add_zero]
    exact hfz
  have hcl := Go.Lib.run_clear_slice (P := Tryz.prog) w 24 3 0 (.int .i64 0) Tryz.underlying24 (Tryz.zeroValue3) rfl rfl g1 Y.length 1 (cap - Y.length) (by omega) hcs hfs
  rw [show w.setCells g1 Y.length (List.replicate 1 (.int .i64 0)) = w.setCell ⟨g1, Y.length, none⟩ (.int .i64 0) from rfl] at hcl
  have HFIN : Hid ((w.setCell ⟨g1, Y.length, none⟩ (.int .i64 0)).ownsRow base 3 1 (.slice (some ⟨g1, 0, none⟩) Y.length cap) Y.length (Y.map (Value.int .i64)) ∧ w.grownBy (w.setCell ⟨g1, Y.length, none⟩ (.int .i64 0)) (some g1)) := by
    have o1 := (own.stored Y.length (.int .i64 0)).1
    rw [← List.map_set] at o1
    have o2 := owns_take o1 (m := Y.length) (by omega)
    have e : ((Y ++ [x0]).set Y.length 0).take Y.length = Y := by
      rw [List.set_append_right _ _ (Nat.le_refl _), List.take_left]
    rw [e] at o2
    exact ⟨o2, (own.stored Y.length (.int .i64 0)).2⟩
  clear h hc own hr hf hx hcn hfz hcs hfs
  generalize hnn : Y.length = n at *
  have hne : ((n : Int) == -1) = false := by simp
  have hcap' : n + 1 ≤ cap := hcap
  have hnc : ¬ cap = n := by omega
  clear hcap
  go_enter Tryz.func69, Tryz.ntmps69
  go_wp2_with fail
  refine hidx.mono ?_
  rintro e w1 ⟨rfl, rfl⟩
  clear hidx
  go_wp2_with fail
  go_loop [5, 6] (fun i k => i = .int .i64 (n : Int) ∧ k = .int .i64 ((n : Int) + 1)) (fun _ _ => 0)
  case atStart => exact ⟨rfl, rfl⟩
  case round =>
    obtain ⟨rfl, rfl⟩ := hrel
    go_wp2_with fail
    go_ret
    exact ⟨rfl, HFIN.out⟩
end
end Go.Proofs.YtbafkakhhelcmaaGreat
