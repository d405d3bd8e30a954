/-
  The code of layer 3 (poly), as it landed: elements, times, laid, and from them Norm, Add, Mul, Div, Eval, Derive return what the face asks.
-/
import Derived.Test.YtjiaomkjebbkpabPolyFace
import Derived.Test.YtjiaomkjebbkpabPolyCodePlain
import Derived.Test.YtjiaomkjebbkpabGfCode
import Derived.Maps.Range
import Derived.Maps.RangeWalk
namespace Go.Proofs.Ytjiaomkjebbkpab
open Go.RowKit
set_option linter.unusedVariables false

theorem Try.makeF (fn : Fn) (first cap : Array Value) (w : World) : (Instr.makeFunc fn first cap).run Try.prog w = .ok (.func fn first cap) w := rfl

set_option maxHeartbeats 400000 in
theorem elements_any (a : Option Addr) (len cap : Nat) (zs : List Int) (w : World) (hr : Row .i64 w a len cap zs) :
    Calls Try.prog 43 #[.slice a len cap] w fun e w' => e = .returned (.bool (allE zs)) ∧ w = w' := by
  have hm := hr.hmax
  have hc := hr.hcap
  have HL : Hid (zs.length = len) := hr.hlen
  unfold maxLen at hm
  go_enter Try.func43, Try.ntmps43
  go_wp2
  go_loop [7] (fun y => ∃ i : Nat, i ≤ len ∧ y = .int .i64 i ∧ ∀ j, j < i → isE (zs[j]?.getD 0) = true) (fun y => len - (intOf y).toNat)
  case atStart => exact ⟨0, Nat.zero_le _, rfl, fun j hj => absurd hj (by omega)⟩
  case round =>
    obtain ⟨i, hi, rfl, hall0⟩ := hrel
    have hall : Hid (∀ j, j < i → isE (zs[j]?.getD 0) = true) := hall0
    clear hall0
    by_cases hlt : i < len
    · obtain ⟨b, off, rfl, hbs, hcell⟩ := hr.hcell (by omega)
      have hc1 := hcell i hlt
      clear hcell
      have hfn : Hid (isE (zs[i]?.getD 0) = false → allE zs = false) := fun hh => allE_false zs i (by have := HL.out; omega) hh
      generalize hp : zs[i]?.getD 0 = p at *
      have HP : Hid (zs[i]?.getD 0 = p) := hp
      clear hp
      have hE : Hid (isE p = decide (0 ≤ p ∧ p < 8192)) := rfl
      by_cases h1 : p < 0
      · have hf : Hid (allE zs = false) := hfn.out (by rw [hE.out, decide_eq_false_iff_not]; omega)
        go_wp2
        go_ret
        exact ⟨ret_bool hf.out.symm, rfl⟩
      · by_cases h2 : p < 8192
        · have ht : Hid (isE p = true) := by show _ = _; rw [hE.out, decide_eq_true_iff]; omega
          go_wp2
          go_round
          case rel =>
            refine ⟨i + 1, by omega, by go_num, fun j hj => ?_⟩
            by_cases e : j = i
            · subst e; rw [HP.out]; exact ht.out
            · exact hall.out j (by omega)
          case measure => simp [intOf]; omega
        · have hf : Hid (allE zs = false) := hfn.out (by rw [hE.out, decide_eq_false_iff_not]; omega)
          go_wp2
          go_ret
          exact ⟨ret_bool hf.out.symm, rfl⟩
    · have hf : Hid (allE zs = true) := allE_of zs fun j hj => hall.out j (by have := HL.out; omega)
      go_wp2
      go_ret
      exact ⟨ret_bool hf.out.symm, rfl⟩

set_option maxHeartbeats 800000 in
set_option maxRecDepth 100000 in
theorem gfMul_same (a b : Nat) (w : World) (ha : a < 8192) (hb : b < 8192) :
    Calls Try.prog 49 #[.int .i64 a, .int .i64 b] w fun e w' => e = .returned (.tuple #[.int .i64 (gmul a b : Nat), .int .i64 0]) ∧ w = w' := by
  go_enter Try.func49, Try.ntmps49
  go_wp2_with fail
  refine (element_any a _).mono ?_
  rintro e w' ⟨rfl, rfl⟩
  rw [isE_of a ha]
  go_wp2_with fail
  refine (element_any b _).mono ?_
  rintro e w' ⟨rfl, rfl⟩
  rw [isE_of b hb]
  go_wp2_with fail
  refine (product_any a b _ ha hb).mono ?_
  rintro e w' ⟨rfl, rfl⟩
  go_wp2_with fail
  go_ret2
  exact ⟨rfl, rfl⟩
set_option maxHeartbeats 400000 in
theorem times_any (a b : Nat) (w : World) (ha : a < 8192) (hb : b < 8192) :
    Calls Try.prog 48 #[.int .i64 a, .int .i64 b] w fun e w' => e = .returned (.int .i64 (gmul a b : Nat)) ∧ w = w' := by
  go_enter Try.func48, Try.ntmps48
  go_wp2_with fail
  refine (gfMul_same a b _ ha hb).mono ?_
  rintro e w' ⟨rfl, rfl⟩
  go_wp2_with fail
  go_ret
  exact ⟨rfl, rfl⟩

/-- The same world, but for what was drawn. -/
theorem grown_drewN (w : World) (n : Nat) (rb : Option Nat) : w.grownBy (w.drewN n) rb := ⟨rfl, rfl, rfl, Nat.le_refl _, fun _ _ _ => rfl⟩

/-- What laid asks of the function that it is handed: at the places from n - 1 down it answers g, keeps I, and turns no block but rb; and I lies below B. -/
structure Asks (f : Nat) (caps : Array Value) (n : Nat) (g : Nat → Nat) (B : Nat) (rb : Option Nat) (I : Nat → World → Prop) : Prop where
  body : ∀ args w, Sem.run Try.prog (callFunc f args) w = .ok (.enter f args) w
  call : ∀ k w, k < n → B ≤ w.heap.size → I (k + 1) w → Calls Try.prog f (#[.int .i64 (k : Nat)] ++ caps) w fun e w' => e = .returned (.int .i64 (g k : Nat)) ∧ I k w' ∧ w.grownBy w' rb
  keep : ∀ k w w', I k w → Below B w w' → I k w'
  low : ∀ b, rb = some b → b < B

/-- A row as it was, where another block alone was turned. -/
theorem owns_other {w w' : World} {base n : Nat} {e : TypeId} {v : Value} {xs : List Value} {rb : Option Nat} (h : w.ownsRow base e 1 v n xs) (hg : w.grownBy w' rb) (hr : ∀ b, rb = some b → b < base) : w'.ownsRow base e 1 v n xs := by
  refine ⟨h.1, ?_⟩
  rcases h.2 with h2 | ⟨g, cap, cur, hv, hb, hh, r⟩
  · exact .inl h2
  · refine .inr ⟨g, cap, cur, hv, hb, ?_, r⟩
    rw [hg.block g (lt_of_block hh) (fun e => by have := hr g e.symm; omega)]
    exact hh
theorem ints_set (p : List Nat) (k x : Nat) : (ints p).set k (x : Int) = ints (p.set k x) := by simp [ints, List.map_set]
theorem ints_replicate (n : Nat) : ints (List.replicate n 0) = List.replicate n 0 := by simp [ints]

/-- What laid holds when the places from k on are asked. -/
structure LaidAt (g : Nat → Nat) (n B : Nat) (T : TypeId) (rb : Option Nat) (I : Nat → World → Prop) (w : World) (k : Nat) (v : Value) (wr : World) : Prop where
  own : wr.ownsRow B T 1 v (outTo g n k).length ((ints (outTo g n k)).map (Value.int .i64))
  nil : outTo g n k = [] → v = .slice none 0 0
  inv : I k wr
  grown : w.grownBy wr rb

theorem below_of_grown {B : Nat} {w w' : World} {row : Option Nat} (hg : w.grownBy w' row) (hB : B ≤ w.heap.size) (hr : ∀ b, row = some b → B ≤ b) : Below B w w' := (Below.refl _ _).grown hg hB hr
theorem grown_set (w : World) (a : Addr) (u : Value) : w.grownBy (w.setCell a u) (some a.block) :=
  ⟨rfl, rfl, rfl, by simp, fun k _ h => Below.heap_setCell w a u k (fun e => h (by rw [e]))⟩
/-- A store of what was asked. -/
theorem laid_store {g : Nat → Nat} {n B : Nat} {T : TypeId} {rb : Option Nat} {I : Nat → World → Prop} {w w1 : World} {k gb L cap : Nat} {ps : List Nat} (hB : w.heap.size = B) (hkeep : ∀ k w w', I k w → Below B w w' → I k w')
    (hown : w1.ownsRow B T 1 (.slice (some ⟨gb, 0, none⟩) L cap) L ((ints ps).map (Value.int .i64))) (hgb : B ≤ gb) (hinv : I k w1) (hgr : w.grownBy w1 rb) (hps : outTo g n k = ps.set k (g k)) (hne : 0 < ps.length) :
    LaidAt g n B T rb I w k (.slice (some ⟨gb, 0, none⟩) L cap) (w1.setCell ⟨gb, k, none⟩ (.int .i64 (g k : Nat))) := by
  have hl : ps.length = L := by have := hown.1; simpa [length_ints] using this
  have R := owned_set (q := k) (x := ((g k : Nat) : Int)) hgb hown (Below.refl B w1)
  rw [ints_set, ← hps] at R
  have hlen : (outTo g n k).length = L := by rw [hps]; simpa using hl
  refine ⟨by rw [hlen]; exact R.1, fun h => ?_, hkeep k _ _ hinv R.2, hgr.andThen (grown_set w1 ⟨gb, k, none⟩ _) (fun j hj => ?_)⟩
  · rw [h] at hlen; simp at hlen; omega
  · simp at hj; left; omega

theorem nil_nil (w : World) : Sem.run Try.prog (binOp .eql 30 (.slice none 0 0) (.slice none 0 0)) w = .ok (.bool true) w := rfl
theorem some_nil (g n c : Nat) (w : World) : Sem.run Try.prog (binOp .eql 30 (.slice (some ⟨g, 0, none⟩) n c) (.slice none 0 0)) w = .ok (.bool false) w := rfl
set_option maxHeartbeats 1600000 in
set_option maxRecDepth 100000 in
theorem laid_any (f : Nat) (caps : Array Value) (z : Int) (g : Nat → Nat) (B : Nat) (rb : Option Nat) (I : Nat → World → Prop) (w : World) (hA : Asks f caps z.toNat g B rb I) (hI : I z.toNat w) (hB : w.heap.size = B) (hz : -100000 ≤ z) (hz' : z ≤ 100000) :
    Calls Try.prog 44 #[.int .i64 z, .func (.func f) #[] caps] w fun e w' => ∃ v, e = .returned v ∧ w'.ownsRow B 3 1 v (norm (tabL g z.toNat)).length ((ints (norm (tabL g z.toNat))).map (Value.int .i64)) ∧ I 0 w' ∧ w.grownBy w' rb := by
  obtain ⟨i0, hi0, hz0, hz1, hz2⟩ := info_parts Try.info3
  generalize hn : z.toNat = n at *
  have HN : Hid (z.toNat = n) := hn
  clear hn
  go_enter Try.func44, Try.ntmps44
  go_wp2
  go_loopw [5, 6] (fun v y wr => ∃ p : Int, -100001 ≤ p ∧ p < z ∧ y = .int .i64 p ∧ LaidAt g n B 3 rb I w (p + 1).toNat v wr) (fun _ y _ => (intOf y + 1).toNat)
  case atStart =>
    refine ⟨z - 1, by omega, by omega, rfl, ?_⟩
    rw [show (z - 1 + 1).toNat = n from by have := HN.out; omega]
    have e := outTo_top g n n (Nat.le_refl _)
    exact ⟨by rw [e]; exact World.ownsRow_nil _ _ _ _, fun _ => rfl, hI, World.grownBy.refl _ _⟩
  case round =>
    obtain ⟨p, hp1, hp2, rfl, hL⟩ := hrel
    by_cases h0 : 0 ≤ p
    · obtain ⟨k, rfl⟩ := Int.eq_ofNat_of_zero_le h0
      have hkn : k < n := by have := HN.out; omega
      rw [show ((k : Int) + 1).toNat = k + 1 from by omega] at hL
      obtain ⟨hown, hnil, hinv, hgr⟩ := hL
      have hsz := hgr.size
      have hBs : B ≤ wr.heap.size := by omega
      have hbody := hA.body
      go_wp2_with fail
      refine (hA.call k _ hkn hBs hinv).mono ?_
      rintro e w1 ⟨rfl, hinv1, hgr1⟩
      replace hown := owns_other hown hgr1 (fun b hb => hA.low b hb)
      replace hgr := hgr.trans hgr1
      have hsz1 := hgr.size
      clear hbody hinv hgr1 hsz hBs
      by_cases hg0 : g k = 0
      · have HS : Hid (outTo g n k = outTo g n (k + 1)) := outTo_skip g n k hg0
        rw [hg0]
        go_wp2
        go_roundw
        case rel =>
          refine ⟨(k : Int) - 1, by omega, by omega, by go_num, ?_⟩
          rw [show ((k : Int) - 1 + 1).toNat = k from by omega]
          exact ⟨by rw [HS.out]; exact hown, by rw [HS.out]; exact hnil, hinv1, hgr⟩
        case measure => simp [intOf]
      · have hq : (((g k : Nat) : Int) == 0) = false := by simp [hg0]
        by_cases hout : outTo g n (k + 1) = []
        · obtain rfl := hnil hout
          have hnn := nil_nil w1
          have HS : Hid (outTo g n k = (List.replicate (k + 1) 0).set k (g k)) := outTo_first g n k hkn hg0 hout
          have hmx : k + 1 ≤ maxLen := by unfold maxLen; omega
          have hmk : ∀ w2 : World, w2.ownsRow B 3 1 (.slice (some ⟨w1.heap.size, 0, none⟩) (k + 1) (k + 1)) (k + 1) (madeCells (Value.int IntKind.i64 0).cells ((k + 1) * 1)).toList → w1.grownBy w2 none →
              w2.cell? ⟨w1.heap.size, k, none⟩ = some (.int .i64 0) ∧ w2.frozen? ⟨w1.heap.size, k, none⟩ = false ∧ Hid (LaidAt g n B 3 rb I w k (.slice (some ⟨w1.heap.size, 0, none⟩) (k + 1) (k + 1)) (w2.setCell ⟨w1.heap.size, k, none⟩ (.int .i64 (g k : Nat)))) := fun w2 h1 h2 => by
            rw [made_ints, ← ints_replicate] at h1
            have hc := owned_cell h1 k (by omega)
            refine ⟨?_, h1.frozenAt k, ?_⟩
            · rw [hc, ints_get]; simp [cf]
            · exact laid_store hB hA.keep h1 (by omega) (hA.keep k _ _ hinv1 (below_of_grown h2 (by omega) (by simp))) (hgr.andThen h2 (by simp)) HS.out (by simp)
          clear hown hnil hinv1 hgr
          go_wp2_with (at_make; refine wpList_make_full _ rfl _ _ 30 rfl B 3 i0 (.int .i64 0) 1 Try.underlying30 hi0 hz0 hz1 _ _ _ _ (k + 1) rfl rfl (by omega) (by omega) (by rw [hz2]; omega) hmx (by omega) ?_; intro w2 hown2 hgrow2; obtain ⟨hcl, hfz, HR⟩ := hmk w2 hown2 hgrow2; clear hown2 hgrow2 hmk)
          go_roundw
          case rel =>
            refine ⟨(k : Int) - 1, by omega, by omega, by go_num, ?_⟩
            rw [show ((k : Int) - 1 + 1).toNat = k from by omega]
            assumption
          case measure => simp [intOf]
        · have HS : Hid (outTo g n k = (outTo g n (k + 1)).set k (g k)) := outTo_next g n k hkn hout
          have hlt := outTo_lt g n (k + 1) hout
          have hln := outTo_len g n (k + 1)
          have HO : Hid (outTo g n (k + 1) ≠ []) := hout
          clear hout
          generalize hol : (outTo g n (k + 1)).length = L at *
          have HOL : Hid ((outTo g n (k + 1)).length = L) := hol
          clear hol
          obtain ⟨a, cap, rfl, hrow⟩ := row_of_owns hown
          obtain ⟨gb, hgb, rfl⟩ := owns_head hown (by omega)
          have hnn := some_nil gb L cap w1
          have hcl := owned_cell hown k (by omega)
          have hfz := hown.frozenAt k
          rw [ints_get] at hcl
          have HR : Hid (LaidAt g n B 3 rb I w k (.slice (some ⟨gb, 0, none⟩) L cap) (w1.setCell ⟨gb, k, none⟩ (.int .i64 (g k : Nat)))) :=
            laid_store hB hA.keep hown hgb hinv1 hgr HS.out (by have := HOL.out; omega)
          have hkL : (k : Int) < (L : Int) := by omega
          clear hown hnil hinv1 hgr hrow
          go_wp2
          go_roundw
          case rel =>
            refine ⟨(k : Int) - 1, by omega, by omega, by go_num, ?_⟩
            rw [show ((k : Int) - 1 + 1).toNat = k from by omega]
            exact HR.out
          case measure => simp [intOf]
    · have HZ : Hid (outTo g n (p + 1).toNat = norm (tabL g n)) := by
        show _ = _
        rw [show (p + 1).toNat = 0 from by omega, outTo_zero]
      obtain ⟨hown, hnil, hinv, hgr⟩ := hL
      rw [HZ.out] at hown
      rw [show (p + 1).toNat = 0 from by omega] at hinv
      clear hnil
      go_wp2
      go_ret
      exact ⟨_, rfl, hown, hinv, hgr⟩

end Go.Proofs.Ytjiaomkjebbkpab
