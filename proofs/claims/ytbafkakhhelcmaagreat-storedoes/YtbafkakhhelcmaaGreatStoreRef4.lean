/-
 Layer 11's laws: all; a map beside a store.
-/
import Derived.Test.YtbafkakhhelcmaaGreatStoreRef3
namespace Go.Proofs.YtbafkakhhelcmaaGreat
open Go.RowKit Go.Maps
set_option linter.unusedVariables false
set_option maxRecDepth 8192

/-- Do the first L logical blocks have the same? -/
def sameM (L : Nat) (M M' : Int → Option (List Int)) : Bool := decide (∀ j : Nat, j < L → M j = M' j)
section
variable {W w w' : World} {G : Geo} {B : CB} {F F' : Nat → Prop} {N N' : Nat} {S S' : CS} {K K' : Int → BK} {M M' : Int → Option (List Int)} {c : Int} {d s g : Nat} {st st' : List Int} {nu nu' : Int}
set_option maxHeartbeats 3200000 in
theorem all11_any (h : LS W G B F N S K M c d s g st nu w) (hb db c1 c2 : Nat) (hm : MapAt w hb db st.length M') (hB : ∀ (i : Nat) D, M' i = some D → IsB D) :
  Calls Tryz.prog 29 #[.pointer (some ⟨s, 0, none⟩), mapV hb db st.length c1 c2] w fun e w' => e = .returned (.bool (sameM st.length M M')) ∧ Below w.heap.size w w' := by
 have hlen := h.len
 have q0 := below_one w (.cells #[.slice (some ⟨hb, 0, none⟩) st.length c1, .slice (some ⟨db, 0, none⟩) st.length c2] 40)
 have v0 := vrow_box w 40 (.slice (some ⟨hb, 0, none⟩) st.length c1) (.slice (some ⟨db, 0, none⟩) st.length c2)
 have hrd := fun w' (q : Below w.heap.size w w') j hj => reads11_any (h.below q) hb db c1 c2 (hm.below q) hB j hj
 have HNO : Hid (∀ j : Nat, j < st.length → ¬ M j = M' j → sameM st.length M M' = false) := fun j hj hn => by unfold sameM; rw [decide_eq_false_iff_not]; exact fun hh => hn (hh j hj)
 have HYES : Hid ((∀ j : Nat, j < st.length → M j = M' j) → sameM st.length M M' = true) := fun hh => by unfold sameM; rw [decide_eq_true_iff]; exact hh
 clear h hm
 generalize sameM st.length M M' = R at *
 generalize st.length = L at *
 have HQ0 : Hid (Below w.heap.size w (w.alloc (.cells #[.slice (some ⟨hb, 0, none⟩) L c1, .slice (some ⟨db, 0, none⟩) L c2] 40))) := q0
 clear q0
 unfold mapV at *
 go_enter Tryz.func29, Tryz.ntmps29
 go_wp2_with fail
 generalize w.alloc (.cells #[.slice (some ⟨hb, 0, none⟩) L c1, .slice (some ⟨db, 0, none⟩) L c2] 40) = w0 at *
 go_loopw [5] (fun i wr => ∃ k : Nat, k ≤ L ∧ i = .int .i64 (k : Int) ∧ Hid (∀ j : Nat, j < k → M j = M' j) ∧ Hid (Below w0.heap.size w0 wr)) (fun i _ => L - (RowKit.intOf i).toNat)
 case atStart => exact ⟨0, by omega, rfl, fun j hj => absurd hj (by omega), Below.refl _ _⟩
 case round =>
  obtain ⟨k, hk, rfl, HK, HQ⟩ := hrel
  have v1 := v0.below HQ.out
  have b0 := v1.at 0 (by omega)
  have b1 := v1.at 1 (by omega)
  simp only [show ¬ (1 : Nat) = 0 by decide, if_false, if_true] at b0 b1
  clear v1
  by_cases hlt : k < L
  ·have hlt' : (k : Int) < (L : Int) := by omega
   have hr := hrd wr (btrans HQ0.out HQ.out) k hlt
   by_cases he : M k = M' k
   ·have HK2 : Hid (∀ j : Nat, j < k + 1 → M j = M' j) := fun j hj => by
     rcases Nat.lt_or_ge j k with hh | hh
     ·exact HK.out j hh
     ·rw [show j = k by omega]; exact he
    rw [decide_eq_true he] at hr
    clear he
    go_wp2_with fail
    refine hr.mono ?_
    rintro e w2 ⟨rfl, q2⟩
    have HQ2 : Hid (Below w0.heap.size w0 w2) := btrans HQ.out q2
    clear hr q2 b0 b1
    go_wp2_with fail
    go_roundw
    case rel => exact ⟨k + 1, by omega, by go_num, HK2, HQ2⟩
    case measure => simp [RowKit.intOf]; omega
   ·have HR : Hid (R = false) := HNO.out k hlt he
    rw [decide_eq_false he] at hr
    clear he
    go_wp2_with fail
    refine hr.mono ?_
    rintro e w2 ⟨rfl, q2⟩
    have HQ2 : Hid (Below w.heap.size w w2) := btrans HQ0.out (btrans HQ.out q2)
    clear hr q2 b0 b1
    go_wp2_with fail
    go_ret
    exact ⟨ret_bool HR.out.symm, HQ2.out⟩
  ·obtain rfl : k = L := by omega
   have hge : ¬ (k : Int) < (k : Int) := by omega
   have HR : Hid (R = true) := HYES.out HK.out
   have HQ2 : Hid (Below w.heap.size w wr) := btrans HQ0.out HQ.out
   go_wp2_with fail
   go_ret
   exact ⟨ret_bool HR.out.symm, HQ2.out⟩
/-- A store, where other blocks turned. -/
theorem LS.turned {X : Nat → Prop} (h : LS W G B F N S K M c d s g st nu w) (t : Turned X w w') (hF : ∀ x, F x → ¬ X x) (hd : ¬ X d) (hs : ¬ X s) (hg : ¬ X g) (hW : ∀ x, X x → W.heap.size ≤ x) : LS W G B F N S K M c d s g st nu w' :=
 ⟨⟨h.at_.chip.turned t hF, h.at_.db.turned t hd, h.at_.sb.turned t hs hg, h.at_.fd, h.at_.fs, h.at_.fg, h.at_.sd, h.at_.gd⟩,
  ⟨h.cl.chip.turned t hF, h.cl.lim, h.cl.inv, h.cl.hold, h.cl.le, h.cl.nn, h.cl.low, h.cl.bel.trans (t.below h.cl.bel.size hW)⟩, h.up, h.stok, h.num, h.nu1, h.rest, h.lows, h.lowg⟩
/-- A block that is the store's in no way. -/
structure Free (W : World) (F : Nat → Prop) (d s g x : Nat) (w : World) : Prop where
 f : ¬ F x
 d : x ≠ d
 s : x ≠ s
 g : x ≠ g
 lo : W.heap.size ≤ x
 lt : x < w.heap.size
theorem Free.step {x : Nat} (h : Free W F d s g x w) (q : SDoes F s g w F' w') : Free W F' d s g x w' :=
 ⟨fun hf => (q.nw x hf).elim h.f (fun e => by have := h.lt; omega), h.d, h.s, h.g, h.lo, Nat.lt_of_lt_of_le h.lt q.tn.size⟩
theorem Free.set {x : Nat} (h : Free W F d s g x w) : ¬ SetF F s g x := fun hh => by
 rcases hh with hh | hh | hh
 ·exact h.f hh
 ·exact h.s hh
 ·exact h.g hh
theorem LS.free (h : LS W G B F N S K M c d s g st nu w) {x : Nat} (hx : w.heap.size ≤ x) (hlt : x < w'.heap.size) : Free W F d s g x w' := by
 have h1 := h.at_.chip.fresh
 have h2 := h.at_.db.lt
 have h3 := h.at_.sb.slt
 have h4 := h.at_.sb.glt
 have h5 := h.bel.size
 exact ⟨fun hf => by have := h1 x hf; omega, by omega, by omega, by omega, by omega, hlt⟩
end
end Go.Proofs.YtbafkakhhelcmaaGreat
