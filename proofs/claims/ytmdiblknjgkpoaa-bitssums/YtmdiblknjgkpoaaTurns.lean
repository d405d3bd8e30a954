/-
  The walk of BitsTurns: for every row of bytes and every list of places the law returns true; nothing old turns.
-/
import Derived.Test.YtmdiblknjgkpoaaApart
import Derived.Laws.AppendOwnNone
import Derived.Deep.RegionWith
namespace Go.Proofs.Ytmdiblknjgkpoaa
open Go.RowKit
set_option linter.unusedVariables false

theorem cells_row {k : IntKind} {w : World} {b off len : Nat} {z : List Int} (hl : z.length = len) (hcell : ∀ i, i < len → w.cell? ⟨b, off + i, none⟩ = some (.int k (z[i]?.getD 0))) :
    ∀ j v, (z.map (Value.int k))[j]? = some v → w.cell? ((⟨b, off, none⟩ : Addr).add j) = some v := by
  intro j v hj
  simp only [List.getElem?_map, Option.map_eq_some_iff] at hj
  obtain ⟨n, hn, rfl⟩ := hj
  have hjl : j < z.length := by
    rcases Nat.lt_or_ge j z.length with h | h
    · exact h
    · rw [List.getElem?_eq_none h] at hn; simp at hn
  have := hcell j (by omega)
  rw [hn] at this
  have hplain : (⟨b, off, none⟩ : Addr).add j = ⟨b, off + j, none⟩ := by unfold Addr.add; split <;> simp_all
  rw [hplain]
  exact this

/-- 'append(v, x...)', v the call's own, x a row that lies there (nil too). -/
theorem wpList_append_row {P : Program} (w : World) {ops : Array Oper} {rest : List Oper} {o : Oper} {a : Act} {Q : Exit → Act → World → Prop} (hgd : o.guard = none) (s x : Operand) (t : TypeId)
    (ho : o.op = .call { callee := .builtin .append, args := #[s, x], argTypes := #[t, t] })
    (base : Nat) (e : TypeId) (i : TypeInfo) (z : Value) (bytes : Nat) (ht : P.underlying t = some (.slice e)) (hi : P.info? e = some i) (hz : i.zero = some z)
    (hsize : i.size = 1) (hby : i.bytes = bytes) (hzs : z.cells.size = 1)
    (v : Value) (n : Nat) (xs : List Value) (hs : a.eval s = v) (hown : w.ownsRow base e 1 v n xs)
    (k : IntKind) (sa : Option Addr) (m c : Nat) (zs : List Int) (hx : a.eval x = .slice sa m c) (hr : Row k w sa m c zs)
    (h63 : n + m ≤ maxLen) (hbytes : (n + m) * bytes ≤ 140737488355328) (hbase : base ≤ w.heap.size)
    (h : ∀ v' w', w'.ownsRow base e 1 v' (n + m) (xs ++ zs.map (Value.int k)) → w.grownBy w' v.ownBlock → wpList P ops Q rest (a.put o.dst v') w') : wpList P ops Q (o :: rest) a w := by
  cases sa with
  | none =>
    obtain rfl : c = 0 := hr.hnil rfl
    obtain rfl : m = 0 := by have := hr.hcap; omega
    have hz0 : zs = [] := List.eq_nil_of_length_eq_zero hr.hlen
    refine wpList_append_own_none hgd s x t ho base e i 1 ht hi v n xs hs hown hx ?_
    exact h v w (by rw [hz0]; simpa using hown) (World.grownBy.refl w _)
  | some ad =>
    refine wpList_append_own w hgd s x t ho base e i z 1 bytes ht hi hz hsize hby hzs (by decide) v n xs hs hown ad m c (zs.map (Value.int k)) hx (by simp [hr.hlen]) ?_ (ints_oneCell _ _) h63 hbytes hbase fun v' w' h1 h2 _ => h v' w' h1 h2
    intro j u hj
    by_cases h0 : 0 < m
    · obtain ⟨b, off, hab, _, hcell⟩ := hr.hcell h0
      simp only [Option.some.injEq] at hab
      subst hab
      exact cells_row hr.hlen hcell j u hj
    · have hz0 : zs = [] := List.eq_nil_of_length_eq_zero (by rw [hr.hlen]; omega)
      rw [hz0] at hj
      simp at hj

theorem conv_owns {w : World} {base : Nat} {v : Value} {n : Nat} {z : List Int} (h : w.ownsRow base 5 1 v n (z.map (Value.int .u8))) : Sem.run Try.prog (Go.convert 22 9 v) w = .ok (.string (strOfNums z)) w := by
  obtain ⟨a, cap, rfl, hr⟩ := row_of_owns h
  exact conv_row hr

set_option maxHeartbeats 1000000 in
theorem walk_turns (a c : Option Addr) (len cap len' cap' : Nat) (z ps : List Int) (w : World) (hr : Row .u8 w a len cap z) (hb : IsB z) (hr' : Row .i64 w c len' cap' ps) (hw : ∀ n ∈ ps, (Lit.int .i64 n).wf = true) :
    Calls Try.prog 4 #[.slice a len cap, .slice c len' cap'] w fun e w' => e = .returned (.bool true) ∧ Below w.heap.size w w' := by
  have hmax : len ≤ maxLen := Nat.le_trans hr.hcap hr.hmax
  have hmax' : len' ≤ maxLen := Nat.le_trans hr'.hcap hr'.hmax
  by_cases hs : len ≤ 200 ∧ len' ≤ 300
  · have hsm : smallB len len' = true := smallB_yes hs.1 hs.2
    have h1000 : len ≤ 1000 := by omega
    obtain ⟨i0, hi0, hz0, hz1, hz2⟩ := info_parts Try.info5
    have hl := hr.hlen
    have HL : Hid (z.length = len) := hl
    clear hl
    have hown0 := World.ownsRow_lit (base := w.heap.size) (e := 5) (size := 1) w #[] 0 (Nat.le_refl _) (Nat.zero_le _) rfl
    have hr0 := hr.below (below_one w (Obj.cells #[] 5)) (Nat.le_refl _)
    go_enter Try.func4, Try.ntmps4
    go_wp2_with (first
      | (go_at_call 9; refine (small_any _ _ len _ len' _ _ hmax hmax').mono ?_; rintro e w' ⟨rfl, rfl⟩; rw [hsm])
      | (at_builtin; refine wpList_append_row _ rfl _ _ 22 rfl w.heap.size 5 i0 (.int .u8 0) 1 Try.underlying22 hi0 hz0 hz1 hz2 rfl _ 0 [] rfl hown0 .u8 a len cap z rfl hr0 ?c1 ?c2 ?c3 ?_))
    case c1 => omega
    case c2 => omega
    case c3 => simp
    intro v w1 hown1 hgrow1
    have hb1 : Below w.heap.size w w1 := (below_one w (Obj.cells #[] 5)).grown hgrow1 (by simp) (fun k hk => by simp [Value.ownBlock] at hk; omega)
    have hown1' : w1.ownsRow w.heap.size 5 1 v len (z.map (Value.int .u8)) := by simpa using hown1
    obtain ⟨ao, capo, rfl, hro⟩ := row_of_owns hown1'
    clear hown1 hown1' hown0 hr0 hgrow1
    have hr1 := hr.below hb1 (Nat.le_refl _)
    have hr1' := hr'.below hb1 (Nat.le_refl _)
    go_wp2_with fail
    refine (turn_any _ _ _ _ _ _ z ps _ hro hb hr1' hw h1000).mono ?_
    rintro e w2 ⟨hb2, ⟨hin, rfl, hown2⟩ | ⟨hin, rfl⟩⟩
    · have hr2 := hr1.below hb2 (Nat.le_refl _)
      have hr2' := hr1'.below hb2 (Nat.le_refl _)
      have hro2 := hro.below hb2 (Nat.le_refl _)
      obtain ⟨at2, capt, hv, hrt⟩ := row_of_owns hown2
      generalize Value.slice (some { block := w1.heap.size, off := 0 }) len len = tv at hv ⊢
      have HV : Hid (tv = Value.slice at2 len capt) := hv
      have hbw : Below w.heap.size w w2 := hb1.trans (hb2.mono hb1.size)
      clear hown2 hv hr hr' hr1 hr1' hro hb1 hb2
      have hin' := (inB_iff len ps).1 hin
      have hcvo := conv_row hro2
      have hcvb := conv_row hr2
      go_wp2_with (go_at_call 15; refine (in_any _ _ _ _ _ _ ps _ hr2' h1000).mono ?_; rintro e w' ⟨rfl, rfl⟩; rw [hin])
      clear hcvo hcvb hro2 hin
      have hcvt : Hid (∀ wx, Below w2.heap.size w2 wx → Sem.run Try.prog (Go.convert 22 9 tv) wx = .ok (.string (strOfNums (turnI z ps))) wx) := fun wx hbx => by
        rw [HV.out]; exact conv_row (hrt.below hbx (Nat.le_refl _))
      have hrf : Hid (∀ wx, Below w2.heap.size w2 wx → Row .u8 wx a len cap z ∧ Row .i64 wx c len' cap' ps) := fun wx hbx => ⟨hr2.below hbx (Nat.le_refl _), hr2'.below hbx (Nat.le_refl _)⟩
      clear hr2 hr2' hrt HV
      refine wp_region_any (by kernel_rfl) ?_
      change wpAny _ _ _ _ _ _ _ (World.drew _)
      refine wpAny_ready (rs := [0]) (by kernel_rfl) (by simp) ?_
      refine AllReady.cons rfl (fun K hK => ?_) AllReady.nil
      go_simp
      go_wp2_with (go_at_call 13; refine (awake_any _).mono ?_; rintro e w3 ⟨rfl, hb3⟩; have hb23 := ((Below.refl w2.heap.size w2).drew).trans hb3; have hcv3 := hcvt.out w3 hb23; have hrr := hrf.out w3 hb23)
      refine wpAny_ready (rs := [1]) (by kernel_rfl) (by simp) ?_
      refine AllReady.cons rfl (fun K hK => ?_) AllReady.nil
      go_simp
      refine hK _ _ ?_
      clear hK K
      refine wpAny_ready (rs := [2]) (by kernel_rfl) (by simp) ?_
      refine AllReady.cons rfl (fun K hK => ?_) AllReady.nil
      go_simp
      refine hK _ _ ?_
      clear hK K
      refine wpAny_ready (rs := [3]) (by kernel_rfl) (by simp) ?_
      refine AllReady.cons rfl (fun K hK => ?_) AllReady.nil
      go_simp
      refine hK _ _ ?_
      clear hK K
      refine wpAny_ready (rs := [4]) (by kernel_rfl) (by simp) ?_
      refine AllReady.cons rfl (fun K hK => ?_) AllReady.nil
      go_simp
      refine hK _ _ ?_
      clear hK K
      refine wpAny_ready (rs := [5]) (by kernel_rfl) (by simp) ?_
      refine AllReady.cons rfl (fun K hK => ?_) AllReady.nil
      go_simp
      refine hK _ _ ?_
      clear hK K
      refine wpAny_take (i := 6) (v := tv) rfl (by kernel_rfl) (by kernel_rfl) (by kernel_rfl) (fun _ _ _ h => h) (Or.inl ⟨by rfl, ?_⟩) ?_
      · intro w; go_simp
      refine wpAny_take (i := 8) (v := .slice a len cap) rfl (by kernel_rfl) (by kernel_rfl) (by kernel_rfl) (fun _ _ _ h => h) (Or.inl ⟨by rfl, ?_⟩) ?_
      · intro w; go_simp
      refine wpAny_take (i := 9) (v := .slice c len' cap') rfl (by kernel_rfl) (by kernel_rfl) (by kernel_rfl) (fun _ _ _ h => h) (Or.inl ⟨by rfl, ?_⟩) ?_
      · intro w; go_simp
      refine wpAny_ready (rs := [7, 10]) (by kernel_rfl) (by simp) ?_
      refine AllReady.cons rfl (fun K hK => ?_) (AllReady.cons rfl (fun K hK => ?_) AllReady.nil)
      · go_simp
        refine hK _ _ ?_
        clear hK K
        refine wpAny_ready (rs := [10]) (by kernel_rfl) (by simp) ?_
        refine AllReady.cons rfl (fun K hK => ?_) AllReady.nil
        go_simp
        go_wp2_with (go_at_call 16; refine (refTurn_any _ _ _ _ _ _ z ps _ hrr.1 hb hrr.2 hin' h1000).mono ?_; rintro e w4 ⟨v, rfl, hown4, hb4⟩; have hb24 := hb23.trans (hb4.mono hb23.size); have hcv5 := hcvt.out w4 hb24; have hcv4 := conv_owns hown4; clear hown4)
        refine wpAny_ready (rs := [11]) (by kernel_rfl) (by simp) ?_
        refine AllReady.cons rfl (fun K hK => ?_) AllReady.nil
        go_simp
        refine hK _ _ ?_
        clear hK K
        refine wpAny_ready (rs := [12]) (by kernel_rfl) (by simp) ?_
        refine AllReady.cons rfl (fun K hK => ?_) AllReady.nil
        go_simp
        refine hK _ _ ?_
        clear hK K
        refine wpAny_ready (rs := [13]) (by kernel_rfl) (by simp) ?_
        refine AllReady.cons rfl (fun K hK => ?_) AllReady.nil
        go_simp
        refine hK _ _ ?_
        clear hK K
        refine wpAny_ready (rs := [14]) (by kernel_rfl) (by simp) ?_
        refine AllReady.cons rfl (fun K hK => ?_) AllReady.nil
        go_simp
        refine hK _ _ ?_
        clear hK K
        refine wpAny_done (by kernel_rfl) ?_ _
        go_wp2
        go_ret
        exact ⟨rfl, hbw.trans (hb24.mono hbw.size)⟩
      · go_simp
        go_wp2_with (go_at_call 16; refine (refTurn_any _ _ _ _ _ _ z ps _ hrr.1 hb hrr.2 hin' h1000).mono ?_; rintro e w4 ⟨v, rfl, hown4, hb4⟩; have hb24 := hb23.trans (hb4.mono hb23.size); have hcv5 := hcvt.out w4 hb24; have hcv4 := conv_owns hown4; clear hown4)
        refine wpAny_ready (rs := [7, 11]) (by kernel_rfl) (by simp) ?_
        refine AllReady.cons rfl (fun K hK => ?_) (AllReady.cons rfl (fun K hK => ?_) AllReady.nil)
        · go_simp
          refine hK _ _ ?_
          clear hK K
          refine wpAny_ready (rs := [11]) (by kernel_rfl) (by simp) ?_
          refine AllReady.cons rfl (fun K hK => ?_) AllReady.nil
          go_simp
          refine hK _ _ ?_
          clear hK K
          refine wpAny_ready (rs := [12]) (by kernel_rfl) (by simp) ?_
          refine AllReady.cons rfl (fun K hK => ?_) AllReady.nil
          go_simp
          refine hK _ _ ?_
          clear hK K
          refine wpAny_ready (rs := [13]) (by kernel_rfl) (by simp) ?_
          refine AllReady.cons rfl (fun K hK => ?_) AllReady.nil
          go_simp
          refine hK _ _ ?_
          clear hK K
          refine wpAny_ready (rs := [14]) (by kernel_rfl) (by simp) ?_
          refine AllReady.cons rfl (fun K hK => ?_) AllReady.nil
          go_simp
          refine hK _ _ ?_
          clear hK K
          refine wpAny_done (by kernel_rfl) ?_ _
          go_wp2
          go_ret
          exact ⟨rfl, hbw.trans (hb24.mono hbw.size)⟩
        · go_simp
          refine hK _ _ ?_
          clear hK K
          refine wpAny_ready (rs := [7]) (by kernel_rfl) (by simp) ?_
          refine AllReady.cons rfl (fun K hK => ?_) AllReady.nil
          go_simp
          refine hK _ _ ?_
          clear hK K
          refine wpAny_ready (rs := [12]) (by kernel_rfl) (by simp) ?_
          refine AllReady.cons rfl (fun K hK => ?_) AllReady.nil
          go_simp
          refine hK _ _ ?_
          clear hK K
          refine wpAny_ready (rs := [13]) (by kernel_rfl) (by simp) ?_
          refine AllReady.cons rfl (fun K hK => ?_) AllReady.nil
          go_simp
          refine hK _ _ ?_
          clear hK K
          refine wpAny_ready (rs := [14]) (by kernel_rfl) (by simp) ?_
          refine AllReady.cons rfl (fun K hK => ?_) AllReady.nil
          go_simp
          refine hK _ _ ?_
          clear hK K
          refine wpAny_done (by kernel_rfl) ?_ _
          go_wp2
          go_ret
          exact ⟨rfl, hbw.trans (hb24.mono hbw.size)⟩
    · have hr2 := hr1.below hb2 (Nat.le_refl _)
      have hr2' := hr1'.below hb2 (Nat.le_refl _)
      have hro2 := hro.below hb2 (Nat.le_refl _)
      have hbw : Below w.heap.size w w2 := hb1.trans (hb2.mono hb1.size)
      clear hr hr' hr1 hr1' hro hb1 hb2
      have hcvo := conv_row hro2
      have hcvb := conv_row hr2
      go_wp2_with (first
        | (go_at_call 15; refine (in_any _ _ _ _ _ _ ps _ hr2' h1000).mono ?_; rintro e w' ⟨rfl, rfl⟩; rw [hin])
        | (go_at_call 13; refine (awake_any _).mono ?_; rintro e w3 ⟨rfl, hb3⟩))
      go_ret
      exact ⟨rfl, hbw.trans (hb3.mono hbw.size)⟩
  · have hsm : smallB len len' = false := by unfold smallB; rw [decide_eq_false_iff_not]; exact hs
    go_enter Try.func4, Try.ntmps4
    go_wp2_with (go_at_call 9; refine (small_any _ _ len _ len' _ _ hmax hmax').mono ?_; rintro e w' ⟨rfl, rfl⟩; rw [hsm])
    go_ret
    exact ⟨rfl, Below.refl _ _⟩

end Go.Proofs.Ytmdiblknjgkpoaa
