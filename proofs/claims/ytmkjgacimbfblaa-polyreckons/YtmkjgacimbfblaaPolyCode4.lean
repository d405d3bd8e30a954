/-
  The code of layer 3 (poly), as it landed: quotient, and from it Div return what the face asks.
-/
import Derived.Test.YtmkjgacimbfblaaPolyCode3
namespace Go.Proofs.Ytmkjgacimbfblaa
open Go.RowKit
set_option linter.unusedVariables false

theorem Boxed1.other {bx B rb : Nat} {w w' : World} {a : Option Addr} {len cap : Nat} {p : List Nat} (h : Boxed1 bx B w a len cap p) (hg : w.grownBy w' (some rb)) (h1 : bx ≠ rb) (h2 : ∀ x, a = some x → 0 < len → x.block ≠ rb) : Boxed1 bx B w' a len cap p := by
  refine ⟨hg.cell h.box (by simpa using h1), ⟨⟨h.lrow.row.hlen, h.lrow.row.hcap, h.lrow.row.hmax, h.lrow.row.hnil, fun h0 => ?_⟩, h.lrow.low⟩⟩
  obtain ⟨b, off, rfl, hbs, hcell⟩ := h.lrow.row.hcell h0
  exact ⟨b, off, rfl, by have := hg.size; omega, fun i hi => hg.cell (hcell i hi) (by simpa using h2 _ rfl h0)⟩

/-- What quotient's inner function lives on: the rest in its own block rb, the divisor, the number of its last place, the inverse of its last. -/
structure QInv (T : TypeId) (b2 b5 b6 b3 rb B len cap : Nat) (c : Option Addr) (len' cap' : Nat) (q : List Nat) (inv : Nat) (r : List Nat) (w : World) : Prop where
  box : w.cell? ⟨b2, 0, none⟩ = some (.slice (some ⟨rb, 0, none⟩) len cap)
  top : w.cell? ⟨b5, 0, none⟩ = some (.int .i64 ((len' : Int) - 1))
  inv : w.cell? ⟨b6, 0, none⟩ = some (.int .i64 inv)
  div : Boxed1 b3 B w c len' cap' q
  own : w.ownsRow 0 T 1 (.slice (some ⟨rb, 0, none⟩) len cap) len ((ints r).map (Value.int .i64))
structure QApart (b2 b5 b6 b3 rb B : Nat) (c : Option Addr) (len' : Nat) : Prop where
  l2 : b2 < B
  l5 : b5 < B
  l6 : b6 < B
  l3 : b3 < B
  lr : rb < B
  n2 : b2 ≠ rb
  n5 : b5 ≠ rb
  n6 : b6 ≠ rb
  n3 : b3 ≠ rb
  nc : ∀ x, c = some x → 0 < len' → x.block ≠ rb
theorem QInv.other {T : TypeId} {b2 b5 b6 b3 rb B len cap : Nat} {c : Option Addr} {len' cap' : Nat} {q : List Nat} {inv : Nat} {r r' : List Nat} {w w' : World} (h : QInv T b2 b5 b6 b3 rb B len cap c len' cap' q inv r w) (ha : QApart b2 b5 b6 b3 rb B c len') (hg : w.grownBy w' (some rb))
    (ho : w'.ownsRow 0 T 1 (.slice (some ⟨rb, 0, none⟩) len cap) len ((ints r').map (Value.int .i64))) : QInv T b2 b5 b6 b3 rb B len cap c len' cap' q inv r' w' :=
  ⟨hg.cell h.box (by simpa using ha.n2), hg.cell h.top (by simpa using ha.n5), hg.cell h.inv (by simpa using ha.n6), h.div.other hg ha.n3 ha.nc, ho⟩
theorem owns_below {w w' : World} {base rb n cap : Nat} {e : TypeId} {xs : List Value} {B : Nat} (h : w.ownsRow base e 1 (.slice (some ⟨rb, 0, none⟩) n cap) n xs) (hb : Below B w w') (hr : rb < B) : w'.ownsRow base e 1 (.slice (some ⟨rb, 0, none⟩) n cap) n xs := by
  refine ⟨h.1, ?_⟩
  rcases h.2 with ⟨h2, _⟩ | ⟨g, cap, cur, hv, hb', hh, r⟩
  · simp at h2
  · refine .inr ⟨g, cap, cur, hv, hb', ?_, r⟩
    simp only [Value.slice.injEq, Option.some.injEq, Addr.mk.injEq, and_true, true_and] at hv
    rw [hb.block g (by omega)]
    exact hh
theorem QInv.below {T : TypeId} {b2 b5 b6 b3 rb B len cap : Nat} {c : Option Addr} {len' cap' : Nat} {q : List Nat} {inv : Nat} {r : List Nat} {w w' : World} (h : QInv T b2 b5 b6 b3 rb B len cap c len' cap' q inv r w) (ha : QApart b2 b5 b6 b3 rb B c len') (hb : Below B w w') : QInv T b2 b5 b6 b3 rb B len cap c len' cap' q inv r w' :=
  ⟨by rw [hb.cell ha.l2]; exact h.box, by rw [hb.cell ha.l5]; exact h.top, by rw [hb.cell ha.l6]; exact h.inv, h.div.below hb ha.l3, owns_below h.own hb ha.lr⟩
/-- A store into the rest. -/
theorem QInv.store {T : TypeId} {b2 b5 b6 b3 rb B len cap : Nat} {c : Option Addr} {len' cap' : Nat} {q : List Nat} {inv : Nat} {r : List Nat} {w0 w : World} (h : QInv T b2 b5 b6 b3 rb B len cap c len' cap' q inv r w) (ha : QApart b2 b5 b6 b3 rb B c len') (hg : w0.grownBy w (some rb)) (j x : Nat) :
    QInv T b2 b5 b6 b3 rb B len cap c len' cap' q inv (r.set j x) (w.setCell ⟨rb, j, none⟩ (.int .i64 (x : Nat))).drew ∧ w0.grownBy (w.setCell ⟨rb, j, none⟩ (.int .i64 (x : Nat))).drew (some rb) := by
  have hs : w.grownBy (w.setCell ⟨rb, j, none⟩ (.int .i64 (x : Nat))).drew (some rb) := (grown_set w ⟨rb, j, none⟩ (.int .i64 (x : Nat))).trans (grown_drewN _ 1 _)
  have R := owned_set (q := j) (x := (x : Int)) (Nat.zero_le rb) h.own (Below.refl 0 w)
  rw [ints_set] at R
  exact ⟨h.other ha hs R.1, hg.trans hs⟩

set_option maxHeartbeats 3200000 in
set_option maxRecDepth 100000 in
theorem quotAt_any (b2 b5 b6 b3 rb B len cap : Nat) (c : Option Addr) (len' cap' : Nat) (q : List Nat) (inv : Nat) (r : List Nat) (k : Nat) (w : World) (hr : IsP r) (hq : IsP q) (hinv : inv < 8192) (hl' : 0 < len') (hk : k + len' ≤ len) (hsm : len ≤ 100000)
    (h : QInv 3 b2 b5 b6 b3 rb B len cap c len' cap' q inv r w) (ha : QApart b2 b5 b6 b3 rb B c len') :
    Calls Try.prog 44 #[.int .i64 k, .pointer (some ⟨b2, 0, none⟩), .pointer (some ⟨b5, 0, none⟩), .pointer (some ⟨b6, 0, none⟩), .pointer (some ⟨b3, 0, none⟩)] w fun e w' =>
      e = .returned (.int .i64 (gmul (cf r (k + (len' - 1))) inv : Nat)) ∧ QInv 3 b2 b5 b6 b3 rb B len cap c len' cap' q inv (takeOut r q k (gmul (cf r (k + (len' - 1))) inv) len') w' ∧ w.grownBy w' (some rb) := by
  have HL' : Hid (q.length = len') := by have := h.div.lrow.row.hlen; rwa [length_ints] at this
  have HLr : Hid (r.length = len) := by have := h.own.1; show _ = _; simpa [length_ints] using this
  have hbox := h.box
  have htop := h.top
  have hinvc := h.inv
  have hdiv := h.div.box
  have hcl := owned_cell h.own (k + (len' - 1)) (by omega)
  rw [ints_get] at hcl
  have c1 := cf_lt hr (k + (len' - 1))
  have c3 := gmul_lt (cf r (k + (len' - 1))) inv c1
  have HT0 : Hid (takeOut r q k (gmul (cf r (k + (len' - 1))) inv) 0 = r) := takeOut_zero _ _ _ _
  have e1 : IntKind.i64.wrap ((k : Int) + ((len' : Int) - 1)) = (k : Int) + ((len' : Int) - 1) := by rw [IntKind.wrap_i64]; omega
  have e2 : ((k : Int) + ((len' : Int) - 1)).toNat = k + (len' - 1) := by omega
  have e3 : (0 : Int) ≤ (k : Int) + ((len' : Int) - 1) := by omega
  have e4 : (k : Int) + ((len' : Int) - 1) < (len : Int) := by omega
  generalize hx0 : cf r (k + (len' - 1)) = x0 at *
  clear hx0
  generalize hfac : gmul x0 inv = f at *
  have HF : Hid (gmul x0 inv = f) := hfac
  go_enter Try.func44, Try.ntmps44
  go_wp2
  go_quiet (first | (go_at_call 36; with_reducible exact quiet_eq (times_any x0 inv _ c1 hinv)))
  rw [hfac]
  have h1 : QInv 3 b2 b5 b6 b3 rb B len cap c len' cap' q inv r (w.drewN nq) := h.other ha (grown_drewN w nq _) (owns_drewN h.own nq)
  have g1 := grown_drewN w nq (some rb)
  generalize w.drewN nq = w1 at *
  clear hbox htop hinvc hdiv hcl h hfac
  by_cases hf0 : f = 0
  · have hq0 : ((f : Int) == 0) = true := by simp [hf0]
    have HTO : Hid (takeOut r q k f len' = r) := by show _ = _; rw [hf0]; exact takeOut_none r q k len' hq
    have HF0 : Hid (f = 0) := hf0
    clear hf0
    go_wp2
    go_ret
    exact ⟨ret_int (by rw [HF0.out]; rfl), by rw [HTO.out]; exact h1, g1⟩
  · have hq0 : ((f : Int) == 0) = false := by simp [hf0]
    have hdiv := h1.div.box
    go_wp2
    go_loopw [22] (fun y wr => ∃ i : Nat, i ≤ len' ∧ y = .int .i64 i ∧ QInv 3 b2 b5 b6 b3 rb B len cap c len' cap' q inv (takeOut r q k f i) wr ∧ w.grownBy wr (some rb)) (fun y _ => len' - (intOf y).toNat)
    case atStart => exact ⟨0, Nat.zero_le _, rfl, by rw [HT0.out]; exact h1, g1⟩
    case round =>
      clear hdiv h1 g1
      obtain ⟨i, hi, rfl, hQ, hg⟩ := hrel
      by_cases hlt : i < len'
      · obtain ⟨b, off, hcc, hbs, hcell⟩ := hQ.div.lrow.row.hcell (by omega)
        have hc2 := hcell i hlt
        rw [ints_get] at hc2
        have hbox := hQ.box
        have hcl := owned_cell hQ.own (k + i) (by omega)
        have hfz := hQ.own.frozenAt (k + i)
        rw [ints_get] at hcl
        have c2 := cf_lt hq i
        have c4 := cf_lt (isP_takeOut (q := q) hr k f i c3) (k + i)
        have c5 := gmul_lt f (cf q i) c3
        have HE : Hid ((takeOut r q k f i).set (k + i) (cf (takeOut r q k f i) (k + i) ^^^ gmul f (cf q i)) = takeOut r q k f (i + 1)) := (takeOut_succ r q k f i (by have := HLr.out; omega)).symm
        have R := hQ.store ha hg (k + i) (cf (takeOut r q k f i) (k + i) ^^^ gmul f (cf q i))
        rw [HE.out] at R
        have HRR : Hid _ := R
        clear R HE hcell hQ hg
        generalize cf (takeOut r q k f i) (k + i) = x at *
        have hxor := xor_i64 x (gmul f (cf q i)) (by omega) (by omega)
        have u1 : IntKind.i64.wrap ((k : Int) + (i : Int)) = (k : Int) + (i : Int) := by rw [IntKind.wrap_i64]; omega
        have u2 : ((k : Int) + (i : Int)).toNat = k + i := by omega
        have u3 : (0 : Int) ≤ (k : Int) + (i : Int) := by omega
        have u4 : (k : Int) + (i : Int) < (len : Int) := by omega
        have u5' : (i : Int) < (len' : Int) := by omega
        subst hcc
        go_wp2
        go_region_with (first
          | (go_at_call 36; refine (times_any f (cf q i) _ c3 c2).mono ?_; rintro e w' ⟨rfl, rfl⟩))
        all_goals
          go_wp2
          go_roundw
          case rel => exact ⟨i + 1, by omega, by go_num, HRR.out.1, HRR.out.2⟩
          case measure => simp [intOf]; omega
      · have e : i = len' := by omega
        subst e
        go_wp2
        go_ret
        exact ⟨rfl, hQ, hg⟩

end Go.Proofs.Ytmkjgacimbfblaa
