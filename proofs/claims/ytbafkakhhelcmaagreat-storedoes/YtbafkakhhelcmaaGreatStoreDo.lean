/-
  Layer 11's laws: what StoreDoes wants: bits that are read wrongly beside a store; where Change is full, blocks are short.
-/
import Derived.Test.YtbafkakhhelcmaaGreatStoreRef6
namespace Go.Proofs.YtbafkakhhelcmaaGreat
open Go.RowKit Go.Maps
set_option linter.unusedVariables false
set_option maxRecDepth 8192

/-- Two operations may come up, in either order; each only adds to the world. -/
theorem held_pair {P : Program} {ops : Array Oper} {Q : Exit → Act → World → Prop} {md : Region.Mode} {w0 : World} {i j : Nat} {oi oj : Oper} {fuel : Nat} {listed : Array Bool} {a : Act} {w : World} (vi vj : Value) (hs : Since w0 w)
    (hr : Region.ready md ops listed = [i, j]) (hri : Region.ready md ops (listed.setIfInBounds i true) = [j]) (hrj : Region.ready md ops (listed.setIfInBounds j true) = [i])
    (hl : (listed.setIfInBounds j true).setIfInBounds i true = (listed.setIfInBounds i true).setIfInBounds j true)
    (hoi : ops[i]? = some oi) (hwi : Region.wanted oi (yielded ops a.tmps) = true) (hwi' : Region.wanted oi (yielded ops (a.put oj.dst vj).tmps) = true)
    (hoj : ops[j]? = some oj) (hwj : Region.wanted oj (yielded ops a.tmps) = true) (hwj' : Region.wanted oj (yielded ops (a.put oi.dst vi).tmps) = true)
    (hc : (a.put oj.dst vj).put oi.dst vi = (a.put oi.dst vi).put oj.dst vj)
    (ci : ∀ w', Since w0 w' → ∀ K' : Act → World → Prop, (∀ w2, Since w' w2 → K' (a.put oi.dst vi) w2) → Oper.wp P oi a w' K' Q)
    (ci' : ∀ w', Since w0 w' → ∀ K' : Act → World → Prop, (∀ w2, Since w' w2 → K' ((a.put oj.dst vj).put oi.dst vi) w2) → Oper.wp P oi (a.put oj.dst vj) w' K' Q)
    (cj : ∀ w', Since w0 w' → ∀ K' : Act → World → Prop, (∀ w2, Since w' w2 → K' (a.put oj.dst vj) w2) → Oper.wp P oj a w' K' Q)
    (cj' : ∀ w', Since w0 w' → ∀ K' : Act → World → Prop, (∀ w2, Since w' w2 → K' ((a.put oi.dst vi).put oj.dst vj) w2) → Oper.wp P oj (a.put oi.dst vi) w' K' Q)
    (hn : ∀ w2, Since w0 w2 → wpAnyH P md ops Q (Since w2) fuel ((listed.setIfInBounds i true).setIfInBounds j true) ((a.put oi.dst vi).put oj.dst vj) w2) :
    wpAnyH P md ops Q (Since w0) (fuel + 2) listed a w := by
  refine wpAnyH_all hr (by simp) fun k hk => ?_
  simp only [List.mem_cons, List.not_mem_nil, or_false] at hk
  rcases hk with rfl | rfl
  · refine wpOp_step hoi fun K' hK => ?_
    rw [if_pos hwi]
    refine ci w hs K' fun w1 q1 => hK _ w1 ⟨hs.trans q1, ?_⟩
    have s1 : Since w0 w1 := hs.trans q1
    refine held_strong (fun _ h' => s1.trans h') _ _ _ _ (held_call hri hoj hwj' fun K2 hK2 => ?_)
    exact cj' w1 s1 K2 fun w2 q2 => hK2 _ w2 q2 (hn w2 (s1.trans q2))
  · refine wpOp_step hoj fun K' hK => ?_
    rw [if_pos hwj]
    refine cj w hs K' fun w1 q1 => hK _ w1 ⟨hs.trans q1, ?_⟩
    have s1 : Since w0 w1 := hs.trans q1
    refine held_strong (fun _ h' => s1.trans h') _ _ _ _ (held_call hrj hoi hwi' fun K2 hK2 => ?_)
    refine ci' w1 s1 K2 fun w2 q2 => hK2 _ w2 q2 ?_
    rw [hc, hl]
    exact hn w2 (s1.trans q2)
theorem cntB_filter (f : Nat → Bool) (k : Nat) : cntB f k = ((List.range k).filter f).length := by
  induction k with
  | zero => rfl
  | succ k ih =>
    unfold cntB
    rw [ih, List.range_succ, List.filter_append, List.length_append]
    cases h : f k <;> simp [h]
section
variable {W w w' : World} {G : Geo} {B : CB} {F F' : Nat → Prop} {N N' : Nat} {S S' : CS} {K K' : Int → BK} {M M' : Int → Option (List Int)} {c : Int} {d s g : Nat} {st st' : List Int} {nu nu' : Int}
/-- The blocks that are well are at most as many as the logical blocks that have bytes, if each of them stands for one. -/
theorem LS.short (h : LS W G B F N S K M c d s g st nu w) (b : Nat) (ill : Nat → Bool) (hi : ∀ y : Nat, y < b → ill y = false → (y : Int) ∈ st) : cntB (fun i => !ill i) b ≤ cntB (fun i => (M i).isSome) st.length := by
  rw [cntB_filter, cntB_filter]
  have := nodup_len (l := ((List.range b).filter fun i => !ill i).map fun i : Nat => (i : Int)) (m := ((List.range st.length).filter fun i : Nat => (M i).isSome).map fun i : Nat => st[i]?.getD 0) (by
    rw [List.nodup_iff_pairwise_ne, List.pairwise_map]
    exact (List.nodup_range.filter _).imp (fun h e => h (by omega))) (fun y hy => by
      rw [List.mem_map] at hy
      obtain ⟨i, hi', rfl⟩ := hy
      rw [List.mem_filter, List.mem_range] at hi'
      have hm := hi i hi'.1 (by simpa using hi'.2)
      obtain ⟨j, hj, e⟩ := List.mem_iff_getElem.1 hm
      have ej : st[j]?.getD 0 = (i : Int) := by simp [hj, e]
      rw [List.mem_map]
      refine ⟨j, ?_, ej⟩
      rw [List.mem_filter, List.mem_range]
      refine ⟨hj, ?_⟩
      rcases h.stands hj with ⟨_, e2⟩ | ⟨D, n, e2, _⟩
      · rw [ej] at e2; omega
      · simp [e2])
  simpa using this
theorem LS.flip (h : LS W G B F N S K M c d s g st nu w) (x y : Int) (hx : I64 x) (hy : I64 y) (a : Option Addr) (len cap : Nat) (ps : List Int) (hr : Row .i64 w a len cap ps) (hdis : 0 < len → ∀ x, a = some x → ¬ F x.block) (hps : ps.length ≤ G.f ∧ ∀ q ∈ ps, 0 ≤ q ∧ q < ((8 * G.n + 13 * G.f : Nat) : Int)) (hN : N < 1000000) :
    Calls Tryz.prog 26 #[.pointer (some ⟨B.c, 0, none⟩), .int .i64 x, .int .i64 y, .slice a len cap] w fun e w' => (∃ r, e = .returned r) ∧ ∃ F', LS W G B F' (N + 2) (S.doFlip G x y ps) K M c d s g st nu w' ∧ SDoes F s g w F' w' := by
  have gk := G.ok
  have hn := gk.hn
  have hf := gk.hf
  have hl := hr.hlen
  refine (chipFlip_any x y hx hy a len cap ps w h.at_.chip hr hdis (fun q hq => by have := hps.2 q hq; exact (show I64 q from ⟨by omega, by omega⟩).wf) (by omega) hN h.cl.lim).mono ?_
  rintro e w' ⟨hr', dd⟩
  obtain ⟨F', hst, hsd, t⟩ := h.at_.does dd
  refine ⟨hr', F', ?_, hsd⟩
  have hbd : (S.doFlip G x y ps).bd = S.bd := by unfold CS.doFlip; split <;> rfl
  have hup : (S.doFlip G x y ps).up = S.up := by unfold CS.doFlip; split <;> rfl
  have hpg : (S.doFlip G x y ps).pg = S.pg := by unfold CS.doFlip; split <;> rfl
  have hinv : CInv G (S.doFlip G x y ps) K := fun z z0 z1 => by
    rw [hpg]
    refine (h.cl.inv z z0 z1).flip fun p hp => ?_
    unfold CS.doFlip
    split
    · show FewW G ((S.flipped x y (flipW G.L ps ps.length)).wr z p)
      unfold CS.flipped
      dsimp only
      split
      · exact fewW_flip G hps.1 hps.2
      · exact hp
    · exact hp
  exact ⟨hst, ⟨hst.chip, h.cl.lim, hinv, by rw [hbd]; exact h.cl.hold, h.cl.le, h.cl.nn, fun x hx => (hsd.nw x hx).elim (h.cl.low x) (fun e => Nat.le_trans h.bel.size e), h.bel.trans (t.below h.bel.size h.cl.low)⟩, by rw [hup]; exact h.up, by rw [hbd]; exact h.stok, by rw [hbd]; exact h.num, h.nu1, h.rest, h.lows, h.lowg⟩
end
end Go.Proofs.YtbafkakhhelcmaaGreat
