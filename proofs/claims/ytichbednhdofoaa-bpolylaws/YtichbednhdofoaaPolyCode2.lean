/-
  The code of layer 3 (poly), as it landed: normal, coefficient, and from them Norm, Add, Derive, Eval return what the face asks.
-/
import Derived.Test.YtichbednhdofoaaPolyCode
namespace Go.Proofs.Ytichbednhdofoaa
open Go.RowKit
set_option linter.unusedVariables false

/-- A row that lies below block B. -/
structure LRow (B : Nat) (k : IntKind) (w : World) (a : Option Addr) (len cap : Nat) (zs : List Int) : Prop where
  row : Row k w a len cap zs
  low : ∀ x, a = some x → 0 < len → x.block < B
theorem LRow.below {B : Nat} {k : IntKind} {w w' : World} {a : Option Addr} {len cap : Nat} {zs : List Int} (h : LRow B k w a len cap zs) (hb : Below B w w') : LRow B k w' a len cap zs := by
  refine ⟨⟨h.row.hlen, h.row.hcap, h.row.hmax, h.row.hnil, fun h0 => ?_⟩, h.low⟩
  obtain ⟨b, off, rfl, hbs, hcell⟩ := h.row.hcell h0
  refine ⟨b, off, rfl, by have := hb.size; omega, fun i hi => ?_⟩
  rw [hb.cell (p := ⟨b, off + i, none⟩) (h.low ⟨b, off, none⟩ rfl h0)]
  exact hcell i hi
theorem Row.lt {k : IntKind} {w : World} {a : Option Addr} {len cap : Nat} {zs : List Int} (h : Row k w a len cap zs) : ∀ x, a = some x → 0 < len → x.block < w.heap.size := fun x hx h0 => by
  obtain ⟨b, off, rfl, hbs, hcell⟩ := h.hcell h0
  simp only [Option.some.injEq] at hx
  subst hx
  exact hbs
theorem Row.lrow {k : IntKind} {w w' : World} {a : Option Addr} {len cap : Nat} {zs : List Int} {B : Nat} (h : Row k w a len cap zs) (hb : Below w.heap.size w w') (hB : w.heap.size ≤ B) : LRow B k w' a len cap zs :=
  ⟨h.below hb (Nat.le_refl _), fun x hx h0 => by have := h.lt x hx h0; omega⟩
theorem Row.grown {k : IntKind} {w w' : World} {a : Option Addr} {len cap : Nat} {zs : List Int} (h : Row k w a len cap zs) (hg : w.grownBy w' none) : Row k w' a len cap zs :=
  h.below (below_of_grown hg (Nat.le_refl _) (by simp)) (Nat.le_refl _)

theorem Row.drewN {k : IntKind} {w : World} {a : Option Addr} {len cap : Nat} {zs : List Int} (h : Row k w a len cap zs) (n : Nat) : Row k (w.drewN n) a len cap zs := h.grown (grown_drewN w n none)

/-- The box of a slice, and the slice in it. -/
structure Boxed1 (bx : Nat) (B : Nat) (w : World) (a : Option Addr) (len cap : Nat) (p : List Nat) : Prop where
  box : w.cell? ⟨bx, 0, none⟩ = some (.slice a len cap)
  lrow : LRow B .i64 w a len cap (ints p)
theorem Boxed1.below {bx B : Nat} {w w' : World} {a : Option Addr} {len cap : Nat} {p : List Nat} (h : Boxed1 bx B w a len cap p) (hb : Below B w w') (hbx : bx < B) : Boxed1 bx B w' a len cap p :=
  ⟨by rw [hb.cell hbx]; exact h.box, h.lrow.below hb⟩
theorem Boxed1.grown {bx B : Nat} {w w' : World} {a : Option Addr} {len cap : Nat} {p : List Nat} (h : Boxed1 bx B w a len cap p) (hg : w.grownBy w' none) : Boxed1 bx B w' a len cap p :=
  ⟨hg.cell h.box (by simp), ⟨h.lrow.row.grown hg, h.lrow.low⟩⟩

set_option maxHeartbeats 400000 in
theorem normalAt_any (bx B : Nat) (a : Option Addr) (len cap : Nat) (p : List Nat) (k : Nat) (w : World) (hk : k < len) (h : Boxed1 bx B w a len cap p) (hsm : len ≤ 100000) :
    Calls Try.prog 56 #[.int .i64 k, .pointer (some ⟨bx, 0, none⟩)] w fun e w' => e = .returned (.int .i64 (cf p k : Nat)) ∧ w = w' := by
  have hbox := h.box
  obtain ⟨b, off, rfl, hbs, hcell⟩ := h.lrow.row.hcell (by omega)
  have hc1 := hcell k hk
  rw [ints_get] at hc1
  clear hcell h
  have hkk : (k : Int) < (len : Int) := by omega
  go_enter Try.func56, Try.ntmps56
  go_wp2
  go_ret
  exact ⟨rfl, rfl⟩
theorem normal_asks (bx B : Nat) (a : Option Addr) (len cap : Nat) (p : List Nat) (hbx : bx < B) (hsm : len ≤ 100000) :
    Asks 56 #[.pointer (some ⟨bx, 0, none⟩)] len (cf p) B none (fun _ w => Boxed1 bx B w a len cap p) where
  body := fun _ _ => rfl
  call := fun k w hk hB hI => (normalAt_any bx B a len cap p k w hk hI hsm).mono fun e w' ⟨h1, h2⟩ => ⟨h1, h2 ▸ hI, h2 ▸ World.grownBy.refl _ _⟩
  keep := fun k w w' hI hb => hI.below hb hbx
  low := by simp

set_option maxHeartbeats 800000 in
set_option maxRecDepth 100000 in
theorem normal_any (a : Option Addr) (len cap : Nat) (p : List Nat) (w : World) (hr : Row .i64 w a len cap (ints p)) (hsm : len ≤ 100000) :
    Calls Try.prog 47 #[.slice a len cap] w fun e w' => ∃ v, e = .returned v ∧ w'.ownsRow w.heap.size 3 1 v (norm p).length ((ints (norm p)).map (Value.int .i64)) ∧ Below w.heap.size w w' := by
  have HL : Hid (p.length = len) := by have := hr.hlen; rwa [length_ints] at this
  have HB : Hid (Boxed1 w.heap.size (w.heap.size + 1) (w.alloc (.cells #[.slice a len cap] 30)) a len cap p) :=
    ⟨by rw [World.cell?_alloc_at _ _ _ _ rfl]; rfl, hr.lrow (below_one _ _) (by omega)⟩
  go_enter Try.func47, Try.ntmps47
  go_wp2_with fail
  refine (laid_any _ _ (len : Int) (cf p) (w.heap.size + 1) none _ _ (normal_asks w.heap.size (w.heap.size + 1) a len cap p (by omega) hsm) HB.out (by simp) (by omega) (by omega)).mono ?_
  rintro e w1 ⟨v, rfl, hown, _, hgr⟩
  rw [show tabL (cf p) ((len : Int)).toNat = p from by rw [Int.toNat_natCast, ← HL.out]; exact tabL_cf p] at hown
  go_wp2
  go_ret
  refine ⟨_, rfl, owns_base hown (by omega), btrans (below_one w _) (below_of_grown hgr (Nat.le_refl _) (by simp))⟩

theorem hands_nil (w w' : World) (n : Int) (hb : Below w.heap.size w w') : Hands w [] n (.returned (.tuple #[.slice none 0 0, .int .i64 n])) w' :=
  ⟨none, 0, rfl, ⟨rfl, Nat.le_refl _, Nat.zero_le _, fun _ => rfl, fun h => absurd h (by simp)⟩, hb⟩
theorem hands_own {w w' : World} {e : TypeId} {B : Nat} {v : Value} {r : List Nat} (n : Int) (hown : w'.ownsRow B e 1 v r.length ((ints r).map (Value.int .i64))) (hb : Below w.heap.size w w') : Hands w r n (.returned (.tuple #[v, .int .i64 n])) w' := by
  obtain ⟨a, cap, rfl, hrow⟩ := row_of_owns hown
  exact ⟨a, cap, rfl, hrow, hb⟩

theorem boxes (w : World) (T : TypeId) (a c : Option Addr) (len cap len' cap' : Nat) (p q : List Nat) (hr : Row .i64 w a len cap (ints p)) (hr' : Row .i64 w c len' cap' (ints q)) :
    Boxed1 w.heap.size (w.heap.size + 2) ((w.alloc (.cells #[.slice a len cap] T)).alloc (.cells #[.slice c len' cap'] T)) a len cap p ∧
    Boxed1 (w.heap.size + 1) (w.heap.size + 2) ((w.alloc (.cells #[.slice a len cap] T)).alloc (.cells #[.slice c len' cap'] T)) c len' cap' q := by
  refine ⟨⟨?_, hr.lrow (below_two _ _ _) (by omega)⟩, ⟨?_, hr'.lrow (below_two _ _ _) (by omega)⟩⟩
  · rw [World.cell?_alloc_past _ _ _ (by simp), World.cell?_alloc_at _ _ _ _ rfl]; rfl
  · rw [World.cell?_alloc_at _ _ _ _ (by simp)]; rfl
theorem evl_drop (p : List Nat) (x k : Nat) (hk : k < p.length) : evl (p.drop k) x = cf p k ^^^ gmul x (evl (p.drop (k + 1)) x) := by
  rw [List.drop_eq_getElem_cons hk]
  show p[k] ^^^ _ = _
  unfold cf
  rw [List.getElem?_eq_getElem hk]; rfl
theorem isP_drop {p : List Nat} (h : IsP p) (k : Nat) : IsP (p.drop k) := fun x hx => h x (List.mem_of_mem_drop hx)

end Go.Proofs.Ytichbednhdofoaa
