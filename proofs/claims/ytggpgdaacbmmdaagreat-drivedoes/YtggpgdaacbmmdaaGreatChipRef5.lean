/-
  The document's answer of layer 7 (casemateref07): Force, Flip. (Written by tools/gen/chip_ref5.py.)
-/
import Derived.Test.YtggpgdaacbmmdaaGreatChipRef4
namespace Go.Proofs.YtggpgdaacbmmdaaGreat
open Go Go.RowKit Go.Maps
set_option linter.unusedVariables false
set_option maxRecDepth 8192

section
variable {G : Geo} {R : RB} {F : Nat → Prop} {S : CS}
theorem Row.lens {k : IntKind} {w : World} {a : Option Addr} {len len' cap : Nat} {z : List Int} (h : Row k w a len cap z) (e : len = len') : Row k w a len' cap z := e ▸ h
/-- A row of one's own, where it lies. -/
theorem owns_form {k : IntKind} {e : TypeId} {w : World} {base : Nat} {v : Value} {n : Nat} {z : List Int} (h : w.ownsRow base e 1 v n (z.map (Value.int k))) (hn : 0 < n) :
    ∃ g cap, v = .slice (some ⟨g, 0, none⟩) n cap ∧ base ≤ g ∧ g < w.heap.size ∧ Row k w (some ⟨g, 0, none⟩) n cap z := by
  have hlt := h.lt
  obtain ⟨a, cap, rfl, hr⟩ := row_of_owns h
  obtain ⟨g, hg, rfl⟩ := owns_head h hn
  exact ⟨g, cap, rfl, hg, (hlt g rfl).2, hr⟩
theorem owns_since {e : TypeId} {w w' : World} {base n : Nat} {v : Value} {xs : List Value} (h : w.ownsRow base e 1 v n xs) (q : Below w.heap.size w w') : w'.ownsRow base e 1 v n xs :=
  h.kept (row := none) ⟨q.os, q.tape, q.output, q.size, fun k hk _ => q.block k hk⟩ (by cases hv : v.ownBlock <;> simp)
theorem padF_all {L : Nat} {z : List Int} (h : z.length = L) : padF L z = z := by unfold padF; rw [h, Nat.sub_self]; simp
theorem setPage_force (S : CS) (x y : Int) (z : List Int) : ({ S.setPage x y z (fun _ => false) with nx := fun b => if b = x then max (S.nx x) (y + 1) else (S.setPage x y z (fun _ => false)).nx b } : CS) = (S.lay x y z).right x y := rfl

set_option maxHeartbeats 3200000 in
theorem ref7Force_any (x y : Int) (a : Option Addr) (len cap : Nat) (z : List Int) (w : World) (h : RefAt G R F S w) (hr : Row .u8 w a len cap z) (hz : IsB z) :
    Calls Tryz.prog 43 #[.pointer (some ⟨R.c, 0, none⟩), .int .i64 x, .int .i64 y, .slice a len cap] w fun e w' => e = .returned (.int .i64 (S.doForce G x y z).1) ∧ RDoes G R F w (S.doForce G x y z).2 w' := by
  have hzl := hr.hlen
  have hlm : len ≤ maxLen := Nat.le_trans hr.hcap hr.hmax
  unfold maxLen at hlm
  subst hzl
  obtain ⟨i0, hi0, hz0, hz1, hz2⟩ := info_parts Tryz.info5
  cases hp : hasP G x y
  · have hf : fitsP G x y z.length = false := by unfold fitsP; rw [hp]; rfl
    have HR : Hid (S.doForce G x y z = (1, S)) := by show _ = _; unfold CS.doForce; rw [if_pos hf]
    rw [HR.out]
    clear HR
    go_enter Tryz.func43, Tryz.ntmps43
    go_wp2_with fail
    refine (ref7Page_any x y _ h.cell).mono ?_
    rw [hp]
    rintro e w1 ⟨rfl, rfl⟩
    go_wp2_with fail
    go_ret
    exact ⟨rfl, RDoes.of w h (Turned.refl _ _)⟩
  have hL := G.ok.L2
  by_cases hzL : z.length = G.L
  case neg =>
    have hf : fitsP G x y z.length = false := by unfold fitsP; rw [hp, decide_eq_false hzL]; rfl
    have HR : Hid (S.doForce G x y z = (1, S)) := by show _ = _; unfold CS.doForce; rw [if_pos hf]
    rw [HR.out]
    clear HR hf
    have hne : (((z.length : Nat) : Int) != ((G.L : Nat) : Int)) = true := by simp; omega
    clear hzL
    go_enter Tryz.func43, Tryz.ntmps43
    go_wp2_with fail
    refine (ref7Page_any x y _ h.cell).mono ?_
    rw [hp]
    rintro e w1 ⟨rfl, rfl⟩
    obtain ⟨c0, c1, c2, c3, c4, _⟩ := h.cell.cells
    go_wp2_with fail
    clear c0 c1 c2 c3 c4
    refine (refRaw_any G.ok _).mono ?_
    rintro e w2 ⟨rfl, q2⟩
    replace hr := hr.below q2 (Nat.le_refl _)
    have t2 : Turned F w w2 := Turned.of_below F q2
    replace h := h.below q2
    go_wp2_with fail
    go_ret
    exact ⟨rfl, RDoes.of w h t2⟩
  have hf : fitsP G x y z.length = true := by unfold fitsP; rw [hp, decide_eq_true hzL]; rfl
  have HZL : Hid (z.length = G.L) := hzL
  have hzl2 : z.length ≤ 1000 := by omega
  have hz1' : 0 < z.length := by omega
  have hnl : (((z.length : Nat) : Int) != ((G.L : Nat) : Int)) = false := by rw [hzL]; simp
  clear hzL
  obtain ⟨i, j, rfl, rfl, hi, hj⟩ := hasP_nat hp
  have hj64 : (j : Int) < 64 := by have := G.ok.hp; omega
  have hiI : (i : Int) < ((G.b.toNat : Nat) : Int) := by omega
  have hjI : (j : Int) < ((G.p.toNat : Nat) : Int) := by omega
  have HR : Hid (S.doForce G (i : Int) (j : Int) z = (0, (S.lay (i : Int) (j : Int) z).right (i : Int) (j : Int))) := by show _ = _; unfold CS.doForce; rw [if_neg (by rw [hf]; simp), padF_all HZL.out]
  rw [HR.out]
  clear HR
  go_enter Tryz.func43, Tryz.ntmps43
  go_wp2_with fail
  refine (ref7Page_any (i : Int) (j : Int) _ h.cell).mono ?_
  rw [hp]
  rintro e w1 ⟨rfl, rfl⟩
  obtain ⟨c0, c1, c2, c3, c4, _⟩ := h.cell.cells
  go_wp2_with fail
  clear c0 c1 c2 c3 c4
  refine (refRaw_any G.ok _).mono ?_
  rintro e w2 ⟨rfl, q2⟩
  replace hr := hr.below q2 (Nat.le_refl _)
  have t2 : Turned F w w2 := Turned.of_below F q2
  replace h := h.below q2
  go_wp2_with (at_builtin; refine wpList_append_row _ rfl _ _ 38 rfl w2.heap.size 5 i0 (.int .u8 0) 1 Tryz.underlying38 hi0 hz0 hz1 hz2 rfl _ 0 [] rfl (World.ownsRow_nil _ _ _ _) .u8 a z.length cap _ rfl hr (by unfold maxLen; omega) (by omega) (Nat.le_refl _) ?_)
  intro v' w3 hown hgrow
  have q3 : Below w2.heap.size w2 w3 := (Below.refl _ _).grown hgrow (Nat.le_refl _) (fun j hj => by simp [Value.ownBlock] at hj)
  clear hgrow hr
  obtain ⟨q, cp, rfl, hq, hql, hrow⟩ := owns_form hown hz1'
  have h3 := h.below q3
  have t3 := t2.trans (Turned.of_below F q3)
  have hqF : ¬ F q := fun hf => by have := h.fresh q hf; omega
  have hqw : w.heap.size ≤ q := Nat.le_trans q2.size hq
  have h4 := h3.putPage hi hj q cp z hqF hql (hrow.lens HZL.out) hz none 0 0 [] (row_none _ _) (fun hh => by omega) List.nodup_nil (fun _ hv => by cases hv) (fun _ => false) (by simp)
  obtain ⟨_, _, _, _, _, _, y0, y1, _⟩ := h3.pages i hi j hj
  have g0f := h3.pfr i hi (j * 2)
  have g1f := h3.pfr i hi (j * 2 + 1)
  have d0 := (h3.blocks i hi).c0
  have c5 := h3.cell.cells.c5
  have hnn := (h3.blocks i hi).nx
  have hpF := h3.inF _ (.inr (.inr ⟨i, hi, rfl⟩))
  have hbF := h3.inF R.bb (.inr (.inl rfl))
  have t4 := (t3.setCell (p := ⟨R.pb i, j * 2, none⟩) (.inl hpF) (.slice (some ⟨q, 0, none⟩) G.L cp)).setCell (p := ⟨R.pb i, j * 2 + 1, none⟩) (.inl hpF) (.slice none 0 0)
  have k0 := (h4.blocks i hi).c0
  have k1 := (h4.blocks i hi).c1
  have kf := h4.bfr (i * 4 + 1)
  have hv : ∃ v, v = max (S.nx (i : Int)) ((j : Int) + 1) := ⟨_, rfl⟩
  obtain ⟨v, hv⟩ := hv
  have h5 := h4.set_nx (x := (i : Int)) rfl hi v (by omega)
  rw [hv, setPage_force, ← hv] at h5
  have t5 := t4.setCell (p := ⟨R.bb, i * 4 + 1, none⟩) (.inl hbF) (.int .i64 v)
  have HD : Hid (∀ u, u = max (S.nx (i : Int)) ((j : Int) + 1) → RDoes G R F w ((S.lay (i : Int) (j : Int) z).right (i : Int) (j : Int)) (((w3.setCell ⟨R.pb i, j * 2, none⟩ (.slice (some ⟨q, 0, none⟩) G.L cp)).setCell ⟨R.pb i, j * 2 + 1, none⟩ (.slice none 0 0)).setCell ⟨R.bb, i * 4 + 1, none⟩ (.int .i64 u))) := fun u hu => by
    rw [hu, ← hv]
    exact ⟨_, h5, t5, fun k hk => hk.imp id (fun e => by rw [e]; exact hqw)⟩
  have HD2 : Hid (z.length = G.L) := HZL
  have k1' : ((w3.setCell ⟨R.pb i, j * 2, none⟩ (.slice (some ⟨q, 0, none⟩) G.L cp)).setCell ⟨R.pb i, j * 2 + 1, none⟩ (.slice none 0 0)).cell? ⟨R.bb, i * 4 + 1, none⟩ = some (.int .i64 (S.nx (i : Int))) := k1
  clear k1 hv h5 t5 h4 t4 h3 t3 h t2 hrow hown q3 q2
  rw [← HZL.out] at HD
  clear v
  generalize S.nx (i : Int) = nx at *
  generalize hBN : G.b.toNat = Bn at *
  generalize hPN : G.p.toNat = Pn at *
  have HBN : Hid (G.b.toNat = Bn ∧ G.p.toNat = Pn) := ⟨hBN, hPN⟩
  clear hBN hPN
  rw [← HZL.out] at k1' k0 kf
  by_cases hmx : (j : Int) + 1 ≤ nx
  · go_wp2_with fail
    all_goals (go_ret; exact ⟨rfl, HD.out _ (by omega)⟩)
  · go_wp2_with fail
    all_goals (go_ret; exact ⟨rfl, HD.out _ (by omega)⟩)
end
end Go.Proofs.YtggpgdaacbmmdaaGreat
