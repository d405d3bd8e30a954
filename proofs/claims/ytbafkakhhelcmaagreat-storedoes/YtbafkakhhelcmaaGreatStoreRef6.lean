/-
 Layer 11's laws: places; bits that are read wrongly beside a store.
-/
import Derived.Test.YtbafkakhhelcmaaGreatStoreCut2
import Derived.Test.YtbafkakhhelcmaaGreatStoreRef5
namespace Go.Proofs.YtbafkakhhelcmaaGreat
open Go.RowKit Go.Maps
set_option linter.unusedVariables false
set_option maxRecDepth 8192

set_option maxHeartbeats 1600000 in
theorem places11_any (G : Geo) (from_ : Int) (hf : I64 from_) (w : World) : Calls Tryz.prog 27 #[.agg #[.int .i64 G.b, .int .i64 G.p, .int .i64 ((G.s : Nat)), .int .i64 ((G.n : Nat)), .int .i64 ((G.f : Nat))], .int .i64 from_] w fun e w' => ∃ v, ∃ ps : List Int, (ps.length ≤ G.f ∧ ∀ q ∈ ps, 0 ≤ q ∧ q < ((8 * G.n + 13 * G.f : Nat) : Int)) ∧ e = .returned v ∧ w'.ownsRow w.heap.size 3 1 v ps.length (ps.map (Value.int .i64)) ∧ Below w.heap.size w w' := by
 have gk := G.ok
 obtain ⟨iq, hiq, hiq0, hiq1, hiq2⟩ := info_parts Tryz.info3
 have Q0 : Hid (Below w.heap.size w (w.alloc (.cells #[.int .i64 G.b, .int .i64 G.p, .int .i64 (G.s : Nat), .int .i64 (G.n : Nat), .int .i64 (G.f : Nat)] 23))) := below_one _ _
 have hgb := gbox_new w 23 G.b G.p G.s G.n G.f
 have hs0 : (w.alloc (.cells #[.int .i64 G.b, .int .i64 G.p, .int .i64 (G.s : Nat), .int .i64 (G.n : Nat), .int .i64 (G.f : Nat)] 23)).heap.size = w.heap.size + 1 := by simp
 have HS0 : Hid _ := hs0
 clear hs0
 have hn := gk.hn
 have hff := gk.hf
 clear gk
 generalize G.b = b at *
 generalize G.p = p at *
 generalize G.s = s at *
 generalize G.n = n at *
 generalize G.f = f at *
 obtain ⟨N, hN⟩ : ∃ N : Int, N = 8 * (n : Int) + 13 * (f : Int) := ⟨_, rfl⟩
 have HN : Hid (N = ((8 * n + 13 * f : Nat) : Int)) := by show _ = _; omega
 rw [← HN.out]
 have hN1 : 1 ≤ N ∧ N ≤ 10000 := by omega
 have HNE : Hid (8 * (n : Int) + 13 * (f : Int) = N) := hN.symm
 clear hN HN
 obtain ⟨_, c0, c1, c2, c3, c4⟩ := hgb
 have hgb := gbox_new w 23 b p s n f
 go_enter Tryz.func27, Tryz.ntmps27
 go_wp2_with fail
 all_goals rw [HNE.out]
 ·rw [decide_eq_true (show from_ < 0 by assumption)]
  generalize w.alloc (.cells #[.int .i64 b, .int .i64 p, .int .i64 (s : Nat), .int .i64 (n : Nat), .int .i64 (f : Nat)] 23) = w0 at *
  clear c0 c1 c2 c3 c4
  go_loopw [5, 7] (fun u i wr => ∃ k : Nat, ∃ ps : List Int, k ≤ f ∧ i = .int .i64 (k : Int) ∧ Hid (ps.length = k ∧ ∀ q ∈ ps, 0 ≤ q ∧ q < N) ∧ Hid (wr.ownsRow w0.heap.size 3 1 u ps.length (ps.map (Value.int .i64))) ∧ Hid (Below w0.heap.size w0 wr)) (fun _ i _ => f - (RowKit.intOf i).toNat)
  case atStart => exact ⟨0, [], by omega, rfl, ⟨rfl, fun q hq => by simp at hq⟩, World.ownsRow_nil _ _ _ _, Below.refl _ _⟩
  case round =>
   obtain ⟨k, ps, hk, rfl, HP, OW, Q⟩ := hrel
   have hsz := Q.out.size
   obtain ⟨_, c0, c1, c2, c3, c4⟩ := hgb.below Q.out (Nat.le_refl _)
   clear c0 c1 c2 c3
   by_cases hlt : k < f
   ·have hlt' : (k : Int) < (f : Int) := by omega
    have hNz : ¬ N = 0 := by omega
    have hm0 := Int.emod_nonneg from_ hNz
    have hm1 := Int.emod_lt_of_pos from_ (show 0 < N by omega)
    have HPL : Hid (ps.length = k) := HP.out.1
    have hpb : ps.length ≤ 8 := by have := HP.out.1; omega
    have OWB : Hid _ := OW.out.alloc (.cells #[.int .i64 ((k : Int) % N)] 3)
    go_wp2_with (at_builtin; refine wpList_append_own _ rfl _ _ 24 rfl w0.heap.size 3 iq (.int .i64 0) 1 8 Tryz.underlying24 hiq hiq0 hiq1 hiq2 rfl (by decide) _ ps.length _ rfl OWB.out ⟨wr.heap.size, 0, none⟩ 1 1 [.int .i64 ((k : Int) % N)] rfl rfl ?c1 ?c2 ?c3 ?c4 ?c5 ?_)
    case c1 => exact cell_one_new wr (.int .i64 ((k : Int) % N)) 3
    case c2 => intro u hu; simp at hu; subst hu; rfl
    case c3 => unfold maxLen; omega
    case c4 => omega
    case c5 => simp; omega
    intro u' w3 own3 grow3 _
    have Q3 : Hid (Below w0.heap.size w0 w3) := (Q.out.alloc hsz (.cells #[.int .i64 ((k : Int) % N)] 3)).grown grow3 (by simp; omega) (fun i hi => (owns_lt OW.out hi).1)
    have HO : Hid (w3.ownsRow w0.heap.size 3 1 u' (ps ++ [(k : Int) % N]).length ((ps ++ [(k : Int) % N]).map (Value.int .i64))) := by
     show World.ownsRow _ _ _ _ _ _ _
     rw [List.length_append, List.map_append]
     exact own3
    have HP2 : Hid ((ps ++ [(k : Int) % N]).length = k + 1 ∧ ∀ q ∈ ps ++ [(k : Int) % N], 0 ≤ q ∧ q < N) := by
     refine ⟨by simp [HPL.out], fun q hq => ?_⟩
     rw [List.mem_append, List.mem_singleton] at hq
     rcases hq with hq | rfl
     ·exact HP.out.2 q hq
     ·exact ⟨Int.emod_nonneg _ (by omega), Int.emod_lt_of_pos _ (by omega)⟩
    clear own3 grow3 OWB OW Q c4 HP
    go_wp2_with fail
    go_roundw
    case rel => exact ⟨k + 1, ps ++ [(k : Int) % N], by omega, by go_num, HP2, HO, Q3⟩
    case measure => simp [RowKit.intOf]; omega
   ·obtain rfl : k = f := by omega
    have hge : ¬ (k : Int) < (k : Int) := by omega
    have HO : Hid _ := owns_base OW.out (show w.heap.size ≤ w0.heap.size from Q0.out.size)
    have HB : Hid (Below w.heap.size w wr) := btrans Q0.out Q.out
    go_wp2_with fail
    go_ret
    exact ⟨_, ps, ⟨by have := HP.out.1; omega, HP.out.2⟩, rfl, HO.out, HB.out⟩
 ·have hfr : 0 ≤ from_ := by omega
  obtain ⟨_, _⟩ := hf
  generalize w.alloc (.cells #[.int .i64 b, .int .i64 p, .int .i64 (s : Nat), .int .i64 (n : Nat), .int .i64 (f : Nat)] 23) = w0 at *
  clear c0 c1 c2 c3 c4
  go_loopw [5, 7] (fun u i wr => ∃ k : Nat, ∃ ps : List Int, k ≤ f ∧ i = .int .i64 (k : Int) ∧ Hid (ps.length = k ∧ ∀ q ∈ ps, 0 ≤ q ∧ q < N) ∧ Hid (wr.ownsRow w0.heap.size 3 1 u ps.length (ps.map (Value.int .i64))) ∧ Hid (Below w0.heap.size w0 wr)) (fun _ i _ => f - (RowKit.intOf i).toNat)
  case atStart => exact ⟨0, [], by omega, rfl, ⟨rfl, fun q hq => by simp at hq⟩, World.ownsRow_nil _ _ _ _, Below.refl _ _⟩
  case round =>
   obtain ⟨k, ps, hk, rfl, HP, OW, Q⟩ := hrel
   have hsz := Q.out.size
   obtain ⟨_, c0, c1, c2, c3, c4⟩ := hgb.below Q.out (Nat.le_refl _)
   clear c0 c1 c2 c3
   by_cases hlt : k < f
   ·have hlt' : (k : Int) < (f : Int) := by omega
    have hNz : ¬ N = 0 := by omega
    have hm0 := Int.emod_nonneg from_ hNz
    have hm1 := Int.emod_lt_of_pos from_ (show 0 < N by omega)
    have HPL : Hid (ps.length = k) := HP.out.1
    have hpb : ps.length ≤ 8 := by have := HP.out.1; omega
    have OWB : Hid _ := OW.out.alloc (.cells #[.int .i64 ((from_ + (k : Int)) % N)] 3)
    go_wp2_with (at_builtin; refine wpList_append_own _ rfl _ _ 24 rfl w0.heap.size 3 iq (.int .i64 0) 1 8 Tryz.underlying24 hiq hiq0 hiq1 hiq2 rfl (by decide) _ ps.length _ rfl OWB.out ⟨wr.heap.size, 0, none⟩ 1 1 [.int .i64 ((from_ + (k : Int)) % N)] rfl rfl ?c1 ?c2 ?c3 ?c4 ?c5 ?_)
    case c1 => exact cell_one_new wr (.int .i64 ((from_ + (k : Int)) % N)) 3
    case c2 => intro u hu; simp at hu; subst hu; rfl
    case c3 => unfold maxLen; omega
    case c4 => omega
    case c5 => simp; omega
    intro u' w3 own3 grow3 _
    have Q3 : Hid (Below w0.heap.size w0 w3) := (Q.out.alloc hsz (.cells #[.int .i64 ((from_ + (k : Int)) % N)] 3)).grown grow3 (by simp; omega) (fun i hi => (owns_lt OW.out hi).1)
    have HO : Hid (w3.ownsRow w0.heap.size 3 1 u' (ps ++ [(from_ + (k : Int)) % N]).length ((ps ++ [(from_ + (k : Int)) % N]).map (Value.int .i64))) := by
     show World.ownsRow _ _ _ _ _ _ _
     rw [List.length_append, List.map_append]
     exact own3
    have HP2 : Hid ((ps ++ [(from_ + (k : Int)) % N]).length = k + 1 ∧ ∀ q ∈ ps ++ [(from_ + (k : Int)) % N], 0 ≤ q ∧ q < N) := by
     refine ⟨by simp [HPL.out], fun q hq => ?_⟩
     rw [List.mem_append, List.mem_singleton] at hq
     rcases hq with hq | rfl
     ·exact HP.out.2 q hq
     ·exact ⟨Int.emod_nonneg _ (by omega), Int.emod_lt_of_pos _ (by omega)⟩
    clear own3 grow3 OWB OW Q c4 HP
    go_wp2_with fail
    go_roundw
    case rel => exact ⟨k + 1, ps ++ [(from_ + (k : Int)) % N], by omega, by go_num, HP2, HO, Q3⟩
    case measure => simp [RowKit.intOf]; omega
   ·obtain rfl : k = f := by omega
    have hge : ¬ (k : Int) < (k : Int) := by omega
    have HO : Hid _ := owns_base OW.out (show w.heap.size ≤ w0.heap.size from Q0.out.size)
    have HB : Hid (Below w.heap.size w wr) := btrans Q0.out Q.out
    go_wp2_with fail
    go_ret
    exact ⟨_, ps, ⟨by have := HP.out.1; omega, HP.out.2⟩, rfl, HO.out, HB.out⟩
end Go.Proofs.YtbafkakhhelcmaaGreat
