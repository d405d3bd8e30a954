/-
  The document's answer of layer 7 (casemateref07): Flip. (Written by tools/gen/chip_ref6.py.)
-/
import Derived.Test.YtjagnpljhedfjaaChipRef5
namespace Go.Proofs.Ytjagnpljhedfjaa
open Go Go.RowKit Go.Maps
set_option linter.unusedVariables false
set_option maxRecDepth 8192

/-- Is x new, and a bit? -/
def okB (L : Nat) (x : Int) (l : List Int) : Bool := inB0 x (8 * (L : Int)) && decide (x ∉ l)
/-- The first k places, each once, those alone that are bits. -/
def ddTo (L : Nat) (ps : List Int) : Nat → List Int
  | 0 => []
  | k + 1 => if okB L (ps[k]?.getD 0) (ddTo L ps k) = true then ddTo L ps k ++ [ps[k]?.getD 0] else ddTo L ps k
theorem ddTo_yes {L : Nat} {ps : List Int} {k : Nat} (h : okB L (ps[k]?.getD 0) (ddTo L ps k) = true) : ddTo L ps (k + 1) = ddTo L ps k ++ [ps[k]?.getD 0] := by show (if _ then _ else _) = _; rw [if_pos h]
theorem ddTo_no {L : Nat} {ps : List Int} {k : Nat} (h : okB L (ps[k]?.getD 0) (ddTo L ps k) = false) : ddTo L ps (k + 1) = ddTo L ps k := by show (if _ then _ else _) = _; rw [if_neg (by rw [h]; simp)]
theorem ddTo_len (L : Nat) (ps : List Int) : ∀ k, (ddTo L ps k).length ≤ k
  | 0 => Nat.le_refl _
  | k + 1 => by
    have := ddTo_len L ps k
    cases h : okB L (ps[k]?.getD 0) (ddTo L ps k)
    · rw [ddTo_no h]; omega
    · rw [ddTo_yes h]; simp; omega
theorem ddTo_nodup (L : Nat) (ps : List Int) : ∀ k, (ddTo L ps k).Nodup
  | 0 => List.nodup_nil
  | k + 1 => by
    have ih := ddTo_nodup L ps k
    cases h : okB L (ps[k]?.getD 0) (ddTo L ps k)
    · rw [ddTo_no h]; exact ih
    · rw [ddTo_yes h]
      unfold okB at h
      rw [Bool.and_eq_true] at h
      have hn := of_decide_eq_true h.2
      rw [List.nodup_append]
      exact ⟨ih, by simp, fun a ha b hb e => by rw [List.mem_singleton] at hb; subst hb; exact hn (e ▸ ha)⟩
theorem ddTo_mem {L : Nat} {ps : List Int} : ∀ k, k ≤ ps.length → ∀ x, x ∈ ddTo L ps k ↔ flipW L ps k x = true
  | 0, _, x => by simp [ddTo, flipW]
  | k + 1, hk, x => by
    have ih := ddTo_mem (L := L) (ps := ps) k (by omega) x
    cases hb : inB0 (ps[k]?.getD 0) (8 * (L : Int))
    · have h : okB L (ps[k]?.getD 0) (ddTo L ps k) = false := by unfold okB; rw [hb]; rfl
      rw [ddTo_no h, ← flipW_miss (by omega) hb]; exact ih
    · rw [← flipW_hit (by omega) hb]
      by_cases hm : ps[k]?.getD 0 ∈ ddTo L ps k
      · have h : okB L (ps[k]?.getD 0) (ddTo L ps k) = false := by unfold okB; rw [decide_eq_false (by simpa using hm)]; simp
        rw [ddTo_no h]
        by_cases hx : x = ps[k]?.getD 0
        · subst hx; simp [hm]
        · simp [hx, ih]
      · have h : okB L (ps[k]?.getD 0) (ddTo L ps k) = true := by unfold okB; rw [hb, decide_eq_true (by simpa using hm)]; rfl
        rw [ddTo_yes h, List.mem_append, List.mem_singleton, ih]
        by_cases hx : x = ps[k]?.getD 0
        · simp [hx]
        · simp [hx]
theorem ddTo_in {L : Nat} {ps : List Int} {k : Nat} (hk : k ≤ ps.length) : inAll L (ddTo L ps k) := fun x hx => by
  have := (ddTo_mem k hk x).1 hx
  unfold flipW at this
  exact (of_decide_eq_true this).2
/-- What the inner loop has found. -/
def foundB (c : Bool) (x : Int) (l : List Int) (m : Nat) : Bool := c && decide (x ∉ l.take m)
theorem foundB_zero (c : Bool) (x : Int) (l : List Int) : foundB c x l 0 = c := by unfold foundB; simp
theorem foundB_step {c : Bool} {x : Int} {l : List Int} {m : Nat} (h : m < l.length) : foundB c x l (m + 1) = (foundB c x l m && (l[m]?.getD 0 != x)) := by
  unfold foundB
  rw [take_snocB l m h, Bool.and_assoc]
  congr 1
  rw [Bool.eq_iff_iff]
  simp only [List.mem_append, List.mem_singleton, not_or, decide_eq_true_eq, Bool.and_eq_true, bne_iff_ne, ne_eq]
  exact ⟨fun ⟨h1, h2⟩ => ⟨h1, fun e => h2 e.symm⟩, fun ⟨h1, h2⟩ => ⟨h1, fun e => h2 e.symm⟩⟩
theorem foundB_all (L : Nat) (x : Int) (l : List Int) : foundB (inB0 x (8 * (L : Int))) x l l.length = okB L x l := by unfold foundB okB; rw [List.take_length]

section
variable {G : Geo} {R : RB} {F : Nat → Prop} {S : CS}
theorem setPage_flip (S : CS) (x y : Int) (f : Int → Bool) : S.setPage x y (S.pg x y) f = S.flipped x y f := by
  unfold CS.setPage CS.flipped
  simp only [CS.mk.injEq, and_true]
  funext b p
  by_cases h : b = x ∧ p = y
  · rw [if_pos h, h.1, h.2]
  · rw [if_neg h]
/-- The wrong bits of a page are stored. -/
theorem RefAt.putWrong {w : World} (h : RefAt G R F S w) {i j : Nat} (hi : i < G.b.toNat) (hj : j < G.p.toNat) (a : Option Addr) (len c : Nat) (l : List Int) (rl : Row .i64 w a len c l) (fl : 0 < len → ∀ x, a = some x → ¬ F x.block) (nd : l.Nodup) (ia : inAll G.L l) (wr : Int → Bool) (me : ∀ x, x ∈ l ↔ wr x = true) :
    RefAt G R (fun k => F k ∨ (0 < len ∧ ∃ x, a = some x ∧ k = x.block)) (S.flipped (i : Int) (j : Int) wr) (w.setCell ⟨R.pb i, j * 2 + 1, none⟩ (.slice a len c)) := by
  have hpF : F (R.pb i) := h.inF _ (.inr (.inr ⟨i, hi, rfl⟩))
  obtain ⟨g0, cap0, a0, len0, c0, l0, e0, e1, ⟨f0, n0⟩, r0, zb, _⟩ := h.pages i hi j hj
  have hg : w.grownBy (w.setCell ⟨R.pb i, j * 2 + 1, none⟩ (.slice a len c)) (some (R.pb i)) := setCell_grown w ⟨R.pb i, j * 2 + 1, none⟩ _
  rw [← setPage_flip]
  refine h.setP rfl rfl hi hj hg (fun k => by rw [World.frozen?_setCell]; exact h.pfr i hi k) (fun k hk hn => ⟨cell_set_other (by omega), cell_set_other (by omega)⟩) (fun _ hk => .inl hk) (fun k hk => ?_) _ wr ⟨g0, cap0, a, len, c, l, (cell_set_other (by omega)).trans e0, cell_set_same e1, ⟨.inl f0, n0⟩, r0.same hg.size (hg.block g0 (h.fresh g0 f0) (fun e => n0 (.inr (.inr ⟨i, hi, by first | exact Option.some.inj e | exact (Option.some.inj e).symm⟩)))), zb, rl.same' hg.size (fun p x hx => ?_), fun p x hx => ⟨.inr ⟨p, x, hx, rfl⟩, fun hc => fl p x hx (h.inF _ hc)⟩, nd, ia, me⟩
  · rcases hk with hk | ⟨p, x, hx, rfl⟩
    · exact Nat.lt_of_lt_of_le (h.fresh k hk) hg.size
    · exact Nat.lt_of_lt_of_le (rl.lt p x hx) hg.size
  · exact hg.block _ (rl.lt p x hx) (fun e => fl p x hx (by rw [show x.block = R.pb i by first | exact Option.some.inj e | exact (Option.some.inj e).symm]; exact hpF))

set_option maxHeartbeats 6400000 in
theorem ref7Flip_any (x y : Int) (a : Option Addr) (len cap : Nat) (ps : List Int) (w : World) (h : RefAt G R F S w) (hr : Row .i64 w a len cap ps) (hlen : len ≤ 100000) :
    Calls Try.prog 46 #[.pointer (some ⟨R.c, 0, none⟩), .int .i64 x, .int .i64 y, .slice a len cap] w fun e w' => (∃ r, e = .returned r) ∧ RDoes G R F w (S.doFlip G x y ps) w' := by
  cases hp : hasP G x y
  · have HR : Hid (S.doFlip G x y ps = S) := by show _ = _; unfold CS.doFlip; rw [if_neg (by rw [hp]; simp)]
    rw [HR.out]
    clear HR
    go_enter Try.func46, Try.ntmps46
    go_wp2_with fail
    refine (ref7Page_any x y _ h.cell).mono ?_
    rw [hp]
    rintro e w1 ⟨rfl, rfl⟩
    go_wp2_with fail
    refine bodyPost_ret (results_none rfl _ _ _) rfl ?_
    exact ⟨⟨_, rfl⟩, RDoes.of w h (Turned.refl _ _)⟩
  have HR : Hid (S.doFlip G x y ps = S.flipped x y (flipW G.L ps ps.length)) := by show _ = _; unfold CS.doFlip; rw [if_pos hp]
  rw [HR.out]
  clear HR
  have hL := G.ok.L2
  have HL : Hid (ps.length = len) := hr.hlen
  obtain ⟨i0, hi0, hz0, hz1, hz2⟩ := info_parts Try.info3
  obtain ⟨i, j, rfl, rfl, hi, hj⟩ := hasP_nat hp
  have hiI : (i : Int) < ((G.b.toNat : Nat) : Int) := by omega
  have hjI : (j : Int) < ((G.p.toNat : Nat) : Int) := by omega
  go_enter Try.func46, Try.ntmps46
  go_wp2_with fail
  refine (ref7Page_any (i : Int) (j : Int) _ h.cell).mono ?_
  rw [hp]
  rintro e w1 ⟨rfl, rfl⟩
  go_wp2_with fail
  have HH : Hid (RefAt G R F S w ∧ Row .i64 w a len cap ps) := ⟨h, hr⟩
  clear h hr
  go_loopw [8, 9] (fun v y' wr => ∃ n : Nat, n ≤ len ∧ y' = .int .i64 (n : Int) ∧ Hid (wr.ownsRow w.heap.size 3 1 v (ddTo G.L ps n).length ((ddTo G.L ps n).map (Value.int .i64))) ∧ Hid (Below w.heap.size w wr)) (fun _ y' _ => len - (RowKit.intOf y').toNat)
  case atStart => exact ⟨0, Nat.zero_le _, rfl, World.ownsRow_nil _ _ _ _, Below.refl _ _⟩
  case round =>
    obtain ⟨n, hn, rfl, hown, hnx⟩ := hrel
    by_cases hlt : n < len
    · have hlt' : (n : Int) < (len : Int) := by omega
      have hrr := HH.out.2.below hnx.out (Nat.le_refl _)
      have hh := HH.out.1.below hnx.out
      have hdl := ddTo_len G.L ps n
      have HC : Hid (∀ w', Since wr w' → w'.cell? ⟨R.c, 0, none⟩ = some (.int .i64 G.b) ∧ w'.cell? ⟨R.c, 1, none⟩ = some (.int .i64 G.p) ∧ w'.cell? ⟨R.c, 2, none⟩ = some (.int .i64 G.s) ∧ w'.cell? ⟨R.c, 3, none⟩ = some (.int .i64 G.n) ∧ w'.cell? ⟨R.c, 4, none⟩ = some (.int .i64 G.f)) := fun w' hw' => by
        have cc := (hh.below hw').cell.cells
        exact ⟨cc.c0, cc.c1, cc.c2, cc.c3, cc.c4⟩
      obtain ⟨rb, ro, rfl, hrb, hrc⟩ := hrr.hcell (by omega)
      have HX : Hid (∀ w', Since wr w' → w'.cell? ⟨rb, ro + n, none⟩ = some (.int .i64 (ps[n]?.getD 0))) := fun w' hw' => (cell_same (hw'.block rb hrb) _).trans (hrc n hlt)
      have HY : Hid (∀ b, okB G.L (ps[n]?.getD 0) (ddTo G.L ps n) = b → ∀ (v : Value) (w1 : World), (b = true → w1.ownsRow w.heap.size 3 1 v ((ddTo G.L ps n).length + 1) (((ddTo G.L ps n) ++ [ps[n]?.getD 0]).map (Value.int .i64))) → (b = false → w1.ownsRow w.heap.size 3 1 v (ddTo G.L ps n).length ((ddTo G.L ps n).map (Value.int .i64))) → w1.ownsRow w.heap.size 3 1 v (ddTo G.L ps (n + 1)).length ((ddTo G.L ps (n + 1)).map (Value.int .i64))) := fun b hb v w1 h1 h2 => by
        cases b
        · rw [ddTo_no hb]; exact h2 rfl
        · rw [ddTo_yes hb, List.length_append]; exact h1 rfl
      have HOK : Hid (foundB (inB0 (ps[n]?.getD 0) (8 * (G.L : Int))) (ps[n]?.getD 0) (ddTo G.L ps n) (ddTo G.L ps n).length = okB G.L (ps[n]?.getD 0) (ddTo G.L ps n)) := foundB_all _ _ _
      clear hrc hh hrr
      generalize ps[n]?.getD 0 = xx at *
      generalize hld : ddTo G.L ps n = l at *
      have HLD : Hid (ddTo G.L ps n = l) := hld
      clear hld
      obtain ⟨c0, hc0⟩ : ∃ c, inB0 xx (8 * (G.L : Int)) = c := ⟨_, rfl⟩
      rw [hc0] at HOK
      by_cases hx0 : 0 ≤ xx
      · have hcx : decide (xx < 8 * (G.L : Int)) = c0 := by rw [← hc0]; unfold inB0; rw [decide_eq_decide]; omega
        have HC0 : Hid (inB0 xx (8 * (G.L : Int)) = c0) := hc0
        clear hc0
        go_wp2_with fail
        refine held_open (Since wr) (by kernel_rfl) ?_
        refine held_reads (rs := [0, 1, 2, 3, 4, 5, 6, 7, 8, 9, 10, 11, 12, 13]) (fuel := 5) (by kernel_rfl) (fun c d v a w h => by cases d <;> exact h) (by kernel_rfl) (Since.drew _) (fun K hK => ?_)
        refine calm_move _ rfl (by rfl) rfl ?_
        go_simp
        refine calm_move _ rfl (by rfl) rfl ?_
        go_simp
        refine calm_do (.pointer (some ⟨rb, ro + n, none⟩)) rfl (by rfl) (fun w' hw' => ?_) ?_
        · skip
          go_simp
        go_simp
        refine calm_do (.int .i64 xx) rfl (by rfl) (fun w' hw' => ?_) ?_
        · have cx := HX.out w' hw'
          go_simp
        go_simp
        refine calm_do (.bool true) rfl (by rfl) (fun w' hw' => ?_) ?_
        · go_simp
        go_simp
        refine calm_move _ rfl (by rfl) rfl ?_
        go_simp
        refine calm_move _ rfl (by rfl) rfl ?_
        go_simp
        refine calm_move _ rfl (by rfl) rfl ?_
        go_simp
        refine calm_do (.pointer (some ⟨rb, ro + n, none⟩)) rfl (by rfl) (fun w' hw' => ?_) ?_
        · skip
          go_simp
        go_simp
        refine calm_do (.int .i64 xx) rfl (by rfl) (fun w' hw' => ?_) ?_
        · have cx := HX.out w' hw'
          go_simp
        go_simp
        refine calm_move _ rfl (by rfl) rfl ?_
        go_simp
        refine calm_do (.pointer (some ⟨R.c, 0, none⟩)) rfl (by rfl) (fun w' hw' => ?_) ?_
        · go_simp
        go_simp
        refine calm_do (.pointer (some ⟨R.c, 0, none⟩)) rfl (by rfl) (fun w' hw' => ?_) ?_
        · go_simp
        go_simp
        refine calm_do (.agg #[.int .i64 G.b, .int .i64 G.p, .int .i64 ((G.s : Nat)), .int .i64 ((G.n : Nat)), .int .i64 ((G.f : Nat))]) rfl (by rfl) (fun w' hw' => ?_) ?_
        · obtain ⟨c0, c1, c2, c3, c4⟩ := HC.out w' hw'
          go_simp
        go_simp
        refine calm_nil (hK.out _ ?_)
        clear hK K
        refine held_op (i := 14) (fuel := 4) (by kernel_rfl) rfl (by rfl) (fun K hK => ?_)
        go_simp
        refine (refRaw_any G.ok _).mono ?_
        rintro e wv ⟨rfl, q2⟩
        have s2 : Since wr wv := Since.trans (Since.drew _) q2
        refine hK _ _ s2 ?_
        clear hK K q2
        refine held_reads (rs := [15, 16, 17, 18]) (fuel := 0) (by kernel_rfl) (fun c d v a w h => by cases d <;> exact h) (by kernel_rfl) (s2) (fun K hK => ?_)
        go_simp
        refine calm_do (.int .i64 (8 * (G.L : Int))) rfl (by rfl) (fun w' hw' => ?_) ?_
        · skip
          go_simp
          all_goals (rw [IntKind.wrap_i64]; omega)
        go_simp
        refine calm_do (.bool c0) rfl (by rfl) (fun w' hw' => ?_) ?_
        · skip
          go_simp
          all_goals (first | done | rw [hcx] | exact hcx | simpa using hcx)
        go_simp
        refine calm_do (.bool c0) rfl (by rfl) (fun w' hw' => ?_) ?_
        · skip
          go_simp
        go_simp
        refine calm_assign _ rfl (by rfl) rfl ?_
        go_simp
        refine calm_nil (hK.out _ ?_)
        clear hK K
        refine wpAnyH_done (by kernel_rfl) ?_ _
        clear HC
        have own2 := owns_since hown.out s2
        have nx2 : Below w.heap.size w wv := btrans hnx.out s2
        obtain ⟨al, cl, rfl, rl⟩ := row_of_owns own2
        have HO2 : Hid (wv.ownsRow w.heap.size 3 1 (.slice al l.length cl) l.length (l.map (Value.int .i64))) := own2
        have HS2 : Hid (Since wr wv) := s2
        clear own2 s2 hown hnx
        go_wp2_with fail
        go_loopw [10, 11] (fun ok m' wr => ∃ m : Nat, m ≤ l.length ∧ ok = .bool (foundB c0 xx l m) ∧ m' = .int .i64 (m : Int) ∧ Hid (Since wv wr)) (fun _ m' _ => l.length - (RowKit.intOf m').toNat)
        case atStart => exact ⟨0, Nat.zero_le _, by rw [foundB_zero], rfl, Since.refl _⟩
        case round =>
          obtain ⟨m, hm, rfl, rfl, hs5⟩ := hrel
          by_cases hml : m < l.length
          · have hml' : (m : Int) < (l.length : Int) := by omega
            have HF : Hid (foundB c0 xx l (m + 1) = (foundB c0 xx l m && (l[m]?.getD 0 != xx))) := foundB_step hml
            have rl5 := rl.below hs5.out (Nat.le_refl _)
            obtain ⟨lb, lo, rfl, _, hlc⟩ := rl5.hcell (by omega)
            have cl5 := hlc m hml
            have cx5 := HX.out _ (HS2.out.trans hs5.out)
            have HS6 : Hid (∀ k, Since wv (wr.drewN k)) := fun k => hs5.out.trans (below_drews wr k)
            clear hlc rl5 hs5
            generalize foundB c0 xx l m = fb at *
            generalize l[m]?.getD 0 = lm at *
            generalize l.length = ll at *
            cases fb
            · go_wp2_with fail
              go_quiet (fail)
              go_wp2_with fail
              go_roundw
              case rel => exact ⟨m + 1, by omega, by rw [HF.out]; rfl, by go_num, HS6.out _⟩
              case measure => simp [RowKit.intOf]; omega
            · go_wp2_with fail
              go_quiet (fail)
              go_wp2_with fail
              go_roundw
              case rel => exact ⟨m + 1, by omega, by rw [HF.out]; rfl, by go_num, HS6.out _⟩
              case measure => simp [RowKit.intOf]; omega
          · have e : m = l.length := by omega
            have hge : ¬ (m : Int) < (l.length : Int) := by omega
            have own6 := owns_since HO2.out hs5.out
            have nx6 : Below w.heap.size w wr := btrans nx2 hs5.out
            have cx6 := HX.out _ (HS2.out.trans hs5.out)
            rw [e, HOK.out]
            have HE : Hid (m = l.length) := e
            clear e
            cases hok : okB G.L xx l
            · have HR : Hid (wr.ownsRow w.heap.size 3 1 (.slice al l.length cl) (ddTo G.L ps (n + 1)).length ((ddTo G.L ps (n + 1)).map (Value.int .i64))) := HY.out _ hok _ _ (fun h => by cases h) (fun _ => own6)
              clear own6 HY HX
              generalize l.length = ll at *
              go_wp2_with fail
              go_roundw
              case rel => exact ⟨n + 1, by omega, by go_num, HR, nx6⟩
              case measure => simp [RowKit.intOf]; omega
            · have hsz6 := nx6.size
              clear HX rl
              go_wp2_with (at_builtin; refine wpList_append_own _ rfl _ _ 24 rfl w.heap.size 3 i0 (.int .i64 0) 1 8 Try.underlying24 hi0 hz0 hz1 hz2 rfl (by decide) _ _ _ rfl (own6.alloc _) ⟨wr.heap.size, 0, none⟩ 1 1 [.int .i64 xx] rfl rfl (cell_one_new _ _ _) ?c2 ?c3 ?c4 ?c5 ?_)
              case c2 => first | rfl | (intro u hu; simp at hu; subst hu; rfl)
              case c3 => unfold maxLen; omega
              case c4 => omega
              case c5 => first | omega | (simp; omega)
              intro v' w7 hown' hgrow _
              have RR := rel_push hsz6 own6 nx6 hown' hgrow
              have HR : Hid (w7.ownsRow w.heap.size 3 1 v' (ddTo G.L ps (n + 1)).length ((ddTo G.L ps (n + 1)).map (Value.int .i64))) := HY.out _ hok _ _ (fun _ => RR.1) (fun h => by cases h)
              have HN : Hid (Below w.heap.size w w7) := RR.2
              clear hown' hgrow own6 RR HY
              generalize l.length = ll at *
              go_wp2_with fail
              go_roundw
              case rel => exact ⟨n + 1, by omega, by go_num, HR, HN⟩
              case measure => simp [RowKit.intOf]; omega
      · have hcx : c0 = false := by rw [← hc0]; unfold inB0; rw [decide_eq_false_iff_not]; omega
        subst hcx
        have hx1 : decide (0 ≤ xx) = false := by rw [decide_eq_false_iff_not]; exact hx0
        have HC0 : Hid (inB0 xx (8 * (G.L : Int)) = false) := hc0
        clear hc0
        go_wp2_with fail
        refine held_open (Since wr) (by kernel_rfl) ?_
        refine held_reads (rs := [0, 1, 2, 3, 4, 5, 6, 7, 8, 9, 10, 11, 12, 13, 14, 15, 16, 17, 18]) (fuel := 0) (by kernel_rfl) (fun c d v a w h => by cases d <;> exact h) (by kernel_rfl) (Since.drew _) (fun K hK => ?_)
        refine calm_move _ rfl (by rfl) rfl ?_
        go_simp
        refine calm_move _ rfl (by rfl) rfl ?_
        go_simp
        refine calm_do (.pointer (some ⟨rb, ro + n, none⟩)) rfl (by rfl) (fun w' hw' => ?_) ?_
        · skip
          go_simp
        go_simp
        refine calm_do (.int .i64 xx) rfl (by rfl) (fun w' hw' => ?_) ?_
        · have cx := HX.out w' hw'
          go_simp
        go_simp
        refine calm_do (.bool false) rfl (by rfl) (fun w' hw' => ?_) ?_
        · skip
          go_simp
        go_simp
        refine calm_move _ rfl (by rfl) rfl ?_
        go_simp
        refine calm_skip rfl (by rfl) ?_
        go_simp
        refine calm_skip rfl (by rfl) ?_
        go_simp
        refine calm_skip rfl (by rfl) ?_
        go_simp
        refine calm_skip rfl (by rfl) ?_
        go_simp
        refine calm_skip rfl (by rfl) ?_
        go_simp
        refine calm_skip rfl (by rfl) ?_
        go_simp
        refine calm_skip rfl (by rfl) ?_
        go_simp
        refine calm_skip rfl (by rfl) ?_
        go_simp
        refine calm_skip rfl (by rfl) ?_
        go_simp
        refine calm_skip rfl (by rfl) ?_
        go_simp
        refine calm_skip rfl (by rfl) ?_
        go_simp
        refine calm_do (.bool false) rfl (by rfl) (fun w' hw' => ?_) ?_
        · go_simp
        go_simp
        refine calm_assign _ rfl (by rfl) rfl ?_
        go_simp
        refine calm_nil (hK.out _ ?_)
        clear hK K
        have s2 : Since wr wr.drew := Since.drew _
        generalize wr.drew = wv at *
        refine wpAnyH_done (by kernel_rfl) ?_ _
        clear HC
        have own2 := owns_since hown.out s2
        have nx2 : Below w.heap.size w wv := btrans hnx.out s2
        obtain ⟨al, cl, rfl, rl⟩ := row_of_owns own2
        have HO2 : Hid (wv.ownsRow w.heap.size 3 1 (.slice al l.length cl) l.length (l.map (Value.int .i64))) := own2
        have HS2 : Hid (Since wr wv) := s2
        clear own2 s2 hown hnx
        go_wp2_with fail
        go_loopw [10, 11] (fun ok m' wr => ∃ m : Nat, m ≤ l.length ∧ ok = .bool (foundB false xx l m) ∧ m' = .int .i64 (m : Int) ∧ Hid (Since wv wr)) (fun _ m' _ => l.length - (RowKit.intOf m').toNat)
        case atStart => exact ⟨0, Nat.zero_le _, by rw [foundB_zero], rfl, Since.refl _⟩
        case round =>
          obtain ⟨m, hm, rfl, rfl, hs5⟩ := hrel
          by_cases hml : m < l.length
          · have hml' : (m : Int) < (l.length : Int) := by omega
            have HF : Hid (foundB false xx l (m + 1) = (foundB false xx l m && (l[m]?.getD 0 != xx))) := foundB_step hml
            have rl5 := rl.below hs5.out (Nat.le_refl _)
            obtain ⟨lb, lo, rfl, _, hlc⟩ := rl5.hcell (by omega)
            have cl5 := hlc m hml
            have cx5 := HX.out _ (HS2.out.trans hs5.out)
            have HS6 : Hid (∀ k, Since wv (wr.drewN k)) := fun k => hs5.out.trans (below_drews wr k)
            clear hlc rl5 hs5
            generalize foundB false xx l m = fb at *
            generalize l[m]?.getD 0 = lm at *
            generalize l.length = ll at *
            cases fb
            · go_wp2_with fail
              go_quiet (fail)
              go_wp2_with fail
              go_roundw
              case rel => exact ⟨m + 1, by omega, by rw [HF.out]; rfl, by go_num, HS6.out _⟩
              case measure => simp [RowKit.intOf]; omega
            · go_wp2_with fail
              go_quiet (fail)
              go_wp2_with fail
              go_roundw
              case rel => exact ⟨m + 1, by omega, by rw [HF.out]; rfl, by go_num, HS6.out _⟩
              case measure => simp [RowKit.intOf]; omega
          · have e : m = l.length := by omega
            have hge : ¬ (m : Int) < (l.length : Int) := by omega
            have own6 := owns_since HO2.out hs5.out
            have nx6 : Below w.heap.size w wr := btrans nx2 hs5.out
            have cx6 := HX.out _ (HS2.out.trans hs5.out)
            rw [e, HOK.out]
            have HE : Hid (m = l.length) := e
            clear e
            cases hok : okB G.L xx l
            · have HR : Hid (wr.ownsRow w.heap.size 3 1 (.slice al l.length cl) (ddTo G.L ps (n + 1)).length ((ddTo G.L ps (n + 1)).map (Value.int .i64))) := HY.out _ hok _ _ (fun h => by cases h) (fun _ => own6)
              clear own6 HY HX
              generalize l.length = ll at *
              go_wp2_with fail
              go_roundw
              case rel => exact ⟨n + 1, by omega, by go_num, HR, nx6⟩
              case measure => simp [RowKit.intOf]; omega
            · exfalso
              have hh := HOK.out
              rw [hok] at hh
              unfold foundB at hh
              simp at hh
    · have e : n = len := by omega
      have hge : ¬ (n : Int) < (len : Int) := by omega
      have h5 := HH.out.1.below hnx.out
      have hlo := hown.out.lt
      obtain ⟨al, cl, rfl, rl⟩ := row_of_owns hown.out
      have hnl : n ≤ ps.length := by have := HL.out; omega
      have h6 := h5.putWrong hi hj al _ cl (ddTo G.L ps n) rl (fun h0 x hx hF => by have := (hlo x.block (by rw [hx]; rfl)).1; have := HH.out.1.fresh _ hF; omega) (ddTo_nodup _ _ _) (ddTo_in hnl) (flipW G.L ps n) (ddTo_mem n hnl)
      have hpF := h5.inF _ (.inr (.inr ⟨i, hi, rfl⟩))
      have t6 : Turned F w (wr.setCell ⟨R.pb i, j * 2 + 1, none⟩ (.slice al (ddTo G.L ps n).length cl)) := (Turned.of_below F hnx.out).setCell (p := ⟨R.pb i, j * 2 + 1, none⟩) (.inl hpF) _
      have HD : Hid (RDoes G R F w (S.flipped (i : Int) (j : Int) (flipW G.L ps ps.length)) (wr.setCell ⟨R.pb i, j * 2 + 1, none⟩ (.slice al (ddTo G.L ps n).length cl))) := by
        show RDoes _ _ _ _ _ _
        rw [HL.out, ← e]
        exact ⟨_, h6, t6, fun k hk => hk.imp id (fun ⟨h0, x, hx, e⟩ => by rw [e]; exact (hlo x.block (by rw [hx]; rfl)).1)⟩
      obtain ⟨_, _, _, _, _, _, y0, y1, _⟩ := h5.pages i hi j hj
      have g1f := h5.pfr i hi (j * 2 + 1)
      have d0 := (h5.blocks i hi).c0
      have c5 := h5.cell.cells.c5
      clear h6 t6 h5 hlo rl hown hnx e
      generalize (ddTo G.L ps n).length = ld at *
      generalize G.b.toNat = Bn at *
      generalize G.p.toNat = Pn at *
      go_wp2_with fail
      go_end0
      exact ⟨⟨_, rfl⟩, HD.out⟩
end
end Go.Proofs.Ytjagnpljhedfjaa
