/-
  The code of layer 3 (poly), as it landed: quotient, and from it Div returns what the face asks.
-/
import Derived.Test.YtmkjgacimbfblaaPolyCode4
namespace Go.Proofs.Ytmkjgacimbfblaa
open Go.RowKit
set_option linter.unusedVariables false

theorem quot_asks (b2 b5 b6 b3 rb B len cap : Nat) (c : Option Addr) (len' cap' : Nat) (p q : List Nat) (inv n : Nat) (hp : IsP p) (hq : IsP q) (hinv : inv < 8192) (hl' : 0 < len') (hql : q.length = len') (hn : n + (len' - 1) ≤ len) (hsm : len ≤ 100000) (ha : QApart b2 b5 b6 b3 rb B c len') :
    Asks 44 #[.pointer (some ⟨b2, 0, none⟩), .pointer (some ⟨b5, 0, none⟩), .pointer (some ⟨b6, 0, none⟩), .pointer (some ⟨b3, 0, none⟩)] n (facAt p q n inv) B (some rb)
      (fun k w => QInv 3 b2 b5 b6 b3 rb B len cap c len' cap' q inv (restTo p q n inv k) w) where
  body := fun _ _ => rfl
  call := fun k w hk hB hI => by
    have h := quotAt_any b2 b5 b6 b3 rb B len cap c len' cap' q inv (restTo p q n inv (k + 1)) k w (isP_restTo hp _ _ _) hq hinv hl' (by omega) hsm hI ha
    rw [show gmul (cf (restTo p q n inv (k + 1)) (k + (len' - 1))) inv = facAt p q n inv k from by unfold facAt; rw [hql],
      show takeOut (restTo p q n inv (k + 1)) q k (facAt p q n inv k) len' = restTo p q n inv k from by rw [restTo_step p q n inv k hk, hql]] at h
    exact h
  keep := fun k w w' hI hb => hI.below ha hb
  low := fun b hb => by simp at hb; rw [← hb]; exact ha.lr

theorem owns_rebase {w : World} {base base' g n cap : Nat} {e : TypeId} {xs : List Value} (h : w.ownsRow base e 1 (.slice (some ⟨g, 0, none⟩) n cap) n xs) (hb : base' ≤ g) : w.ownsRow base' e 1 (.slice (some ⟨g, 0, none⟩) n cap) n xs := by
  refine ⟨h.1, ?_⟩
  rcases h.2 with ⟨h2, _⟩ | ⟨g', cap', cur, hv, hb', r⟩
  · simp at h2
  · simp only [Value.slice.injEq, Option.some.injEq, Addr.mk.injEq, and_true, true_and] at hv
    obtain ⟨rfl, rfl⟩ := hv
    exact .inr ⟨_, _, cur, rfl, hb, r⟩
theorem owns_kept {w w' : World} {base n : Nat} {e : TypeId} {v : Value} {xs : List Value} (h : w.ownsRow base e 1 v n xs) (hb : Below w.heap.size w w') : w'.ownsRow base e 1 v n xs := by
  refine ⟨h.1, ?_⟩
  rcases h.2 with h2 | ⟨g, cap, cur, hv, hb', hh, r⟩
  · exact .inl h2
  · exact .inr ⟨g, cap, cur, hv, hb', by rw [hb.block g (lt_of_block hh)]; exact hh, r⟩

set_option maxHeartbeats 1600000 in
set_option maxRecDepth 100000 in
theorem quot_any (base : Nat) (ao c : Option Addr) (len cap len' cap' : Nat) (p q : List Nat) (w : World) (hown : w.ownsRow base 3 1 (.slice ao len cap) len ((ints p).map (Value.int .i64))) (hr' : LRow base .i64 w c len' cap' (ints q)) (hbase : base ≤ w.heap.size)
    (hp : IsP p) (hq : IsP q) (hq0 : 0 < len') (hlast : cf q (len' - 1) ≠ 0) (hsm : len ≤ 10000) (hsm' : len' ≤ 10000) :
    Calls Try.prog 39 #[.slice ao len cap, .slice c len' cap'] w fun e w' => ∃ v, e = .returned v ∧
      w'.ownsRow w.heap.size 3 1 v (norm (tabL (facAt p q (len - (len' - 1)) (ginv (cf q (len' - 1)))) (len - (len' - 1)))).length ((ints (norm (tabL (facAt p q (len - (len' - 1)) (ginv (cf q (len' - 1)))) (len - (len' - 1))))).map (Value.int .i64)) ∧
      w'.ownsRow base 3 1 (.slice ao len cap) len ((ints (restTo p q (len - (len' - 1)) (ginv (cf q (len' - 1))) 0)).map (Value.int .i64)) ∧ Below base w w' := by
  have HL' : Hid (q.length = len') := by have := hr'.row.hlen; rwa [length_ints] at this
  have HLp : Hid (p.length = len) := by have := hown.1; show _ = _; simpa [length_ints] using this
  have c1 := cf_lt hq (len' - 1)
  have hinv := ginv_lt _ c1
  obtain ⟨b, off, hcc, hbs, hcell⟩ := hr'.row.hcell hq0
  have hc0 := hcell (len' - 1) (by omega)
  rw [ints_get] at hc0
  clear hcell
  subst hcc
  have hbb : b < base := hr'.low _ rfl hq0
  generalize hx : cf q (len' - 1) = x at *
  have HX : Hid (cf q (len' - 1) = x) := hx
  clear hx
  have e1 : IntKind.i64.wrap ((len' : Int) - 1) = (len' : Int) - 1 := by rw [IntKind.wrap_i64]; omega
  have e2 : ((len' : Int) - 1).toNat = len' - 1 := by omega
  have e3 : (0 : Int) ≤ (len' : Int) - 1 := by omega
  have HBW := below_three w (.cells #[.slice ao len cap] 22) (.cells #[.slice (some ⟨b, off, none⟩) len' cap'] 22) (.cells #[.int .i64 ((len' : Int) - 1)] 3)
  have hcW := hr'.row.below HBW (Nat.le_refl _)
  obtain ⟨b', off', hcc', _, hcW'⟩ := hcW.hcell hq0
  have hcW2 := hcW' (len' - 1) (by omega)
  simp only [Option.some.injEq, Addr.mk.injEq, and_true] at hcc'
  obtain ⟨rfl, rfl⟩ := hcc'
  rw [ints_get, HX.out] at hcW2
  clear hcW hcW'
  have k2 : (((w.alloc (.cells #[.slice ao len cap] 22)).alloc (.cells #[.slice (some ⟨b, off, none⟩) len' cap'] 22)).alloc (.cells #[.int .i64 ((len' : Int) - 1)] 3)).cell? ⟨w.heap.size, 0, none⟩ = some (.slice ao len cap) := by
    rw [World.cell?_alloc_past _ _ _ (by simp; omega), World.cell?_alloc_past _ _ _ (by simp), World.cell?_alloc_at _ _ _ _ rfl]; rfl
  have k3 : (((w.alloc (.cells #[.slice ao len cap] 22)).alloc (.cells #[.slice (some ⟨b, off, none⟩) len' cap'] 22)).alloc (.cells #[.int .i64 ((len' : Int) - 1)] 3)).cell? ⟨w.heap.size + 1, 0, none⟩ = some (.slice (some ⟨b, off, none⟩) len' cap') := by
    rw [World.cell?_alloc_past _ _ _ (by simp), World.cell?_alloc_at _ _ _ _ (by simp)]; rfl
  have k5 : (((w.alloc (.cells #[.slice ao len cap] 22)).alloc (.cells #[.slice (some ⟨b, off, none⟩) len' cap'] 22)).alloc (.cells #[.int .i64 ((len' : Int) - 1)] 3)).cell? ⟨w.heap.size + 1 + 1, 0, none⟩ = some (.int .i64 ((len' : Int) - 1)) := by
    rw [World.cell?_alloc_at _ _ _ _ (by simp)]; rfl
  have hsW : (((w.alloc (.cells #[.slice ao len cap] 22)).alloc (.cells #[.slice (some ⟨b, off, none⟩) len' cap'] 22)).alloc (.cells #[.int .i64 ((len' : Int) - 1)] 3)).heap.size = w.heap.size + 3 := by simp
  have HW : Hid _ := And.intro HBW (And.intro k2 (And.intro k3 (And.intro k5 hsW)))
  clear HBW k2 k3 k5 hsW
  go_enter Try.func39, Try.ntmps39
  go_wp2_with fail
  refine (invC.yes x _ c1 hlast).mono ?_
  rintro e w1 ⟨rfl, q1⟩
  obtain ⟨HBW, k2, k3, k5, hsW⟩ := HW.out
  clear HW hcW2
  have q2 := HBW.trans (q1.mono (by rw [hsW]; omega))
  have hs1 : w.heap.size + 3 ≤ w1.heap.size := by rw [← hsW]; exact q1.size
  have q3 : Below w.heap.size w (w1.alloc (.cells #[.int .i64 (ginv x : Nat)] 3)) := q2.alloc (by omega) _
  have q4 : Below (w.heap.size + 3) (((w.alloc (.cells #[.slice ao len cap] 22)).alloc (.cells #[.slice (some ⟨b, off, none⟩) len' cap'] 22)).alloc (.cells #[.int .i64 ((len' : Int) - 1)] 3)) (w1.alloc (.cells #[.int .i64 (ginv x : Nat)] 3)) := (q1.mono (by rw [hsW]; exact Nat.le_refl _)).alloc (by omega) _
  rw [← q4.cell (by show w.heap.size < _; omega)] at k2
  rw [← q4.cell (by show w.heap.size + 1 < _; omega)] at k3
  rw [← q4.cell (by show w.heap.size + 1 + 1 < _; omega)] at k5
  have k6 : (w1.alloc (.cells #[.int .i64 (ginv x : Nat)] 3)).cell? ⟨w1.heap.size, 0, none⟩ = some (.int .i64 (ginv x : Nat)) := by rw [World.cell?_alloc_at _ _ _ _ rfl]; rfl
  clear q1 q2 q4 HBW hsW
  have f1 : IntKind.i64.wrap ((len : Int) - ((len' : Int) - 1)) = (len : Int) - ((len' : Int) - 1) := by rw [IntKind.wrap_i64]; omega
  have HZ : Hid (((len : Int) - ((len' : Int) - 1)).toNat = len - (len' - 1)) := by show _ = _; omega
  go_wp2_with fail
  clear hc0 e1 e2 e3 f1
  by_cases hll : len' ≤ len
  · obtain ⟨g, hbg, rfl⟩ := owns_head hown (by omega)
    have hgl : g < w.heap.size := (hown.lt g rfl).2
    have ha : QApart w.heap.size (w.heap.size + 1 + 1) w1.heap.size (w.heap.size + 1) g (w1.heap.size + 1) (some ⟨b, off, none⟩) len' :=
      ⟨by omega, by omega, by omega, by omega, by omega, by omega, by omega, by omega, by omega, fun y hy _ => by simp only [Option.some.injEq] at hy; subst hy; show b ≠ g; omega⟩
    have hA := quot_asks w.heap.size (w.heap.size + 1 + 1) w1.heap.size (w.heap.size + 1) g (w1.heap.size + 1) len cap (some ⟨b, off, none⟩) len' cap' p q (ginv x) (len - (len' - 1)) hp hq hinv hq0 HL'.out (by omega) (by omega) ha
    have hI : QInv 3 w.heap.size (w.heap.size + 1 + 1) w1.heap.size (w.heap.size + 1) g (w1.heap.size + 1) len cap (some ⟨b, off, none⟩) len' cap' q (ginv x) (restTo p q (len - (len' - 1)) (ginv x) (len - (len' - 1))) (w1.alloc (.cells #[.int .i64 (ginv x : Nat)] 3)) :=
      ⟨k2, k5, k6, ⟨k3, hr'.row.lrow q3 (by omega)⟩, by rw [restTo_top]; exact owns_base (owns_below hown q3 hgl) (Nat.zero_le _)⟩
    refine (laid_any _ _ _ _ (w1.heap.size + 1) _ _ _ (by rw [HZ.out]; exact hA) (by rw [HZ.out]; exact hI) (by simp) (by omega) (by omega)).mono ?_
    rintro e w2 ⟨v, rfl, hown2, hI0, hgr⟩
    rw [HZ.out] at hown2
    have hrest := owns_rebase hI0.own hbg
    have hbel : Below base w w2 := (q3.mono hbase).trans (below_of_grown hgr (by simp; omega) (fun j hj => by simp at hj; omega))
    clear hA hI hI0 hgr
    go_wp2
    go_ret
    exact ⟨_, rfl, owns_base hown2 (by omega), hrest, hbel⟩
  · have h0 : len - (len' - 1) = 0 := by omega
    have hA : Asks 44 #[.pointer (some ⟨w.heap.size, 0, none⟩), .pointer (some ⟨w.heap.size + 1 + 1, 0, none⟩), .pointer (some ⟨w1.heap.size, 0, none⟩), .pointer (some ⟨w.heap.size + 1, 0, none⟩)] ((len : Int) - ((len' : Int) - 1)).toNat
        (facAt p q (len - (len' - 1)) (ginv x)) (w1.heap.size + 1) none (fun _ _ => True) :=
      ⟨fun _ _ => rfl, fun k w hk => absurd hk (by rw [HZ.out, h0]; omega), fun _ _ _ _ _ => trivial, by simp⟩
    refine (laid_any _ _ _ _ (w1.heap.size + 1) _ _ _ hA trivial (by simp) (by omega) (by omega)).mono ?_
    rintro e w2 ⟨v, rfl, hown2, _, hgr⟩
    have hrest := owns_kept (owns_kept hown q3) (below_of_grown hgr (Nat.le_refl _) (by simp))
    have hbel : Below base w w2 := (q3.mono hbase).trans (below_of_grown hgr (by simp; omega) (by simp))
    have HR : Hid (restTo p q (len - (len' - 1)) (ginv x) 0 = p) := by show _ = _; rw [h0]; exact restTo_top _ _ _ _
    rw [HZ.out] at hown2
    clear hA hgr
    go_wp2
    go_ret
    exact ⟨_, rfl, owns_base hown2 (by omega), by rw [HR.out]; exact hrest, hbel⟩

theorem isDiv_code (p q : List Nat) (hp : IsP p) (hq : IsP q) (hn : norm q ≠ []) (n : Nat) (hnn : n = (norm p).length - ((norm q).length - 1)) :
    IsDiv p q (norm (tabL (facAt (norm p) (norm q) n (ginv (cf (norm q) ((norm q).length - 1)))) n)) (norm (restTo (norm p) (norm q) n (ginv (cf (norm q) ((norm q).length - 1))) 0)) := by
  have hp' := isP_norm hp
  have hq' := isP_norm hq
  have hl : 0 < (norm q).length := List.length_pos_iff.2 hn
  have hlast := norm_last q hn
  have c1 := cf_lt hq' ((norm q).length - 1)
  have hinv := ginv_lt _ c1
  obtain ⟨h1, h2⟩ := div_all (norm p) (norm q) n _ hp' hq' hl hinv (gmul_ginv _ c1 hlast) (by omega) n (Nat.le_refl _)
  rw [Nat.sub_self, outTo_zero] at h1
  rw [Nat.sub_self, Nat.zero_add] at h2
  have hr : IsP (norm (tabL (facAt (norm p) (norm q) n (ginv (cf (norm q) ((norm q).length - 1)))) n)) := isP_norm (isP_tabL _ _ fun i _ => facAt_lt hp' _ _ _)
  refine ⟨hr, isP_norm (isP_restTo hp' _ _ _), norm_norm _, norm_norm _, ?_, ?_⟩
  · refine (eqv_addL (mulL_left _ hq hq' hr (norm_eqv q).symm) (norm_eqv _)).trans ?_
    exact h1.trans (norm_eqv p)
  · have := norm_len_le _ _ h2
    omega

theorem hands2_nil (w w' : World) (n : Int) (hb : Below w.heap.size w w') : Hands2 w [] [] n (.returned (.tuple #[.slice none 0 0, .slice none 0 0, .int .i64 n])) w' :=
  ⟨none, 0, none, 0, rfl, ⟨rfl, Nat.le_refl _, Nat.zero_le _, fun _ => rfl, fun h => absurd h (by simp)⟩, ⟨rfl, Nat.le_refl _, Nat.zero_le _, fun _ => rfl, fun h => absurd h (by simp)⟩, hb⟩
set_option maxHeartbeats 1600000 in
set_option maxRecDepth 100000 in
theorem divC : DivC where
  no := by
    intro a c len cap len' cap' zs ys w hr hr' hsm hsm' hz
    cases h1 : allE zs
    · go_enter Try.func24, Try.ntmps24
      go_wp2_with fail
      refine (elements_any _ _ _ zs _ hr).mono ?_
      rintro e w' ⟨rfl, rfl⟩
      rw [h1]
      go_wp2_with fail
      go_ret3
      exact hands2_nil _ _ _ (Below.refl _ _)
    · have h2 : allE ys = false := by rw [h1] at hz; simpa using hz
      go_enter Try.func24, Try.ntmps24
      go_wp2_with fail
      refine (elements_any _ _ _ zs _ hr).mono ?_
      rintro e w' ⟨rfl, rfl⟩
      rw [h1]
      go_wp2_with fail
      refine (elements_any _ _ _ ys _ hr').mono ?_
      rintro e w' ⟨rfl, rfl⟩
      rw [h2]
      go_wp2_with fail
      go_ret3
      exact hands2_nil _ _ _ (Below.refl _ _)
  zero := by
    intro a c len cap len' cap' p q w hr hr' hsm hsm' hp hq hn
    go_enter Try.func24, Try.ntmps24
    go_wp2_with fail
    refine (elements_any _ _ _ _ _ hr).mono ?_
    rintro e w' ⟨rfl, rfl⟩
    rw [allE_ints hp]
    go_wp2_with fail
    refine (elements_any _ _ _ _ _ hr').mono ?_
    rintro e w' ⟨rfl, rfl⟩
    rw [allE_ints hq]
    go_wp2_with fail
    refine (normal_any _ _ _ q _ hr' (by omega)).mono ?_
    rintro e w1 ⟨v1, rfl, hown1, hb1⟩
    rw [hn] at hown1
    obtain ⟨a1, cp1, rfl, hrow1⟩ := row_of_owns hown1
    rw [show ([] : List Nat).length = 0 from rfl]
    clear hown1 hrow1
    go_wp2_with fail
    go_ret3
    exact hands2_nil _ _ _ hb1
  yes := by
    intro a c len cap len' cap' p q w hr hr' hsm hsm' hp hq hn
    have hl1 : (norm p).length ≤ 10000 := by have := norm_length_le p; have := hr.hlen; rw [length_ints] at this; omega
    have hl2 : (norm q).length ≤ 10000 := by have := norm_length_le q; have := hr'.hlen; rw [length_ints] at this; omega
    have hl0 : 0 < (norm q).length := List.length_pos_iff.2 hn
    have HD : Hid _ := isDiv_code p q hp hq hn _ rfl
    have hlast : Hid (cf (norm q) ((norm q).length - 1) ≠ 0) := norm_last q hn
    go_enter Try.func24, Try.ntmps24
    go_wp2_with fail
    refine (elements_any _ _ _ _ _ hr).mono ?_
    rintro e w' ⟨rfl, rfl⟩
    rw [allE_ints hp]
    go_wp2_with fail
    refine (elements_any _ _ _ _ _ hr').mono ?_
    rintro e w' ⟨rfl, rfl⟩
    rw [allE_ints hq]
    go_wp2_with fail
    refine (normal_any _ _ _ q _ hr' (by omega)).mono ?_
    rintro e w1 ⟨v1, rfl, hown1, hb1⟩
    obtain ⟨a1, cp1, rfl, hrow1⟩ := row_of_owns hown1
    replace hr := hr.below hb1 (Nat.le_refl _)
    clear hown1 hr'
    have hz : (((norm q).length : Int) == 0) = false := by simp; omega
    go_wp2_with fail
    refine (normal_any _ _ _ p _ hr (by omega)).mono ?_
    rintro e w2 ⟨v2, rfl, hown2, hb2⟩
    obtain ⟨a2, cp2, rfl, hrow2⟩ := row_of_owns hown2
    have hlr := hrow1.lrow hb2 (Nat.le_refl _)
    clear hrow1 hrow2 hr
    go_wp2_with fail
    refine (quot_any w1.heap.size a2 a1 _ cp2 _ cp1 (norm p) (norm q) _ hown2 hlr hb2.size (isP_norm hp) (isP_norm hq) hl0 hlast.out hl1 hl2).mono ?_
    rintro e w3 ⟨v3, rfl, hown3, hrest, hb3⟩
    obtain ⟨a3, cp3, rfl, hrow3⟩ := row_of_owns hown3
    obtain ⟨a4, cp4, hv4, hrow4⟩ := row_of_owns hrest
    simp only [Value.slice.injEq, true_and] at hv4
    obtain ⟨rfl, rfl⟩ := hv4
    clear hown3 hrest hown2 hlr
    go_wp2_with fail
    refine (normal_any _ _ _ _ _ hrow4 (by omega)).mono ?_
    rintro e w4 ⟨v5, rfl, hown5, hb4⟩
    obtain ⟨a5, cp5, rfl, hrow5⟩ := row_of_owns hown5
    replace hrow3 := hrow3.below hb4 (Nat.le_refl _)
    have hb : Below w.heap.size w w4 := by
      have h1 := hb1.trans (hb2.mono hb1.size)
      have h2 := h1.trans (hb3.mono hb1.size)
      exact h2.trans (hb4.mono h2.size)
    clear hown5 hrow4
    go_wp2_with fail
    go_ret3
    exact ⟨_, _, HD.out, a3, cp3, a5, cp5, rfl, hrow3, hrow5, hb⟩

end Go.Proofs.Ytmkjgacimbfblaa
