/-
  The code of layer 11 (store), as it landed: others, walked.
-/
import Derived.Test.YtgamakejaknagaaGreatPackY
namespace Go.Proofs.YtgamakejaknagaaGreat
open Go.RowKit Go.Maps
set_option linter.unusedVariables false
set_option maxRecDepth 8192

/-- The blocks that hold bytes of j, but for x0. -/
structure OthIs (G : Geo) (S : CS) (K : Int → BK) (st : List Int) (j : Nat) (x0 : Int) (Y : List Int) : Prop where
  mem : ∀ y ∈ Y, GoodB G.b S.bd y ∧ y ∉ st
  all : ∀ y D n, GoodB G.b S.bd y → K y = .copy j D n → y ≠ x0 → y ∈ Y
  len : Y.length ≤ 256
section
variable {G : Geo} {S : CS} {K : Int → BK} {M : Int → Option (List Int)} {st : List Int} {j : Nat} {x0 n : Int} {D : List Int}
theorem oth_stands (hH : Hold G.b S.bd K M) (hup : S.up = true) (hl : st.length ≤ 64) (hj : j < st.length) (hm : M j = some D) (hb : Best G.b S.bd K j x0 D n) : standsL (ofLeb (j : Nat) (fndL G S K)) = x0 := by
  have h := pick_ok (L := st.length) hH hup hl j (by rw [pickL_length]; exact hj)
  have e : (pickL st.length (fndL G S K))[j]?.getD 0 = standsL (ofLeb (j : Nat) (fndL G S K)) := by simp [pickL, hj]
  rw [e] at h
  rcases h with ⟨h1, _⟩ | ⟨D', n', _, hb'⟩
  · rw [hm] at h1; cases h1
  · exact ((hb.one hb').1).symm
theorem oth_is (hs : StOk G.b S.bd K M st) (hup : S.up = true) (hj : j < st.length) (hx : st[j]?.getD 0 = x0) {T : List Fnd} (hT : T.Perm (ofLeb (j : Nat) (fndL G S K))) : OthIs G S K st j x0 (othersL T x0) := by
  have hin : ∀ f ∈ T, ∃ D, GoodB G.b S.bd f.block ∧ K f.block = .copy (j : Nat) D f.number := by
    intro f hf
    have hf' := hT.mem_iff.1 hf
    have hlb := ofLeb_leb _ _ f hf'
    simp only [ofLeb, List.mem_filter, isOf, Bool.and_eq_true] at hf'
    obtain ⟨x, hx, hfo⟩ := (fndL_mem hup).1 hf'.1
    obtain ⟨D, hD⟩ := foundOf_whole hfo hf'.2.1
    rw [(foundOf_block hfo).1]
    exact ⟨D, hx, by rw [hD, hlb]⟩
  refine ⟨fun y hy => ?_, fun y D n hy hk hne => ?_, ?_⟩
  · unfold othersL at hy
    rw [List.mem_map] at hy
    obtain ⟨f, hf, rfl⟩ := hy
    rw [List.mem_filter] at hf
    have hne := of_decide_eq_true hf.2
    obtain ⟨D, hg, hk⟩ := hin f hf.1
    refine ⟨hg, fun hst => ?_⟩
    obtain ⟨i, hi, e⟩ := List.mem_iff_getElem.1 hst
    have e' : st[i]?.getD 0 = f.block := by rw [List.getElem?_eq_getElem hi]; exact e
    rcases hs i hi with ⟨_, h1⟩ | ⟨D', n', _, hb⟩
    · have := hg.1.1; omega
    · rw [e'] at hb
      have := hk.symm.trans hb.is
      simp only [BK.copy.injEq] at this
      have hij : j = i := by omega
      subst hij
      exact hne (by rw [← hx]; exact e'.symm)
  · unfold othersL
    rw [List.mem_map]
    refine ⟨⟨y, (j : Nat), (D.length : Nat), n, true⟩, ?_, rfl⟩
    rw [List.mem_filter]
    refine ⟨hT.mem_iff.2 ?_, decide_eq_true hne⟩
    simp only [ofLeb, List.mem_filter, isOf]
    exact ⟨(fndL_mem hup).2 ⟨y, hy, by rw [hk]; rfl⟩, by simp⟩
  · have h1 := othersL_le T x0
    have h2 := hT.length_eq
    have h3 : (ofLeb (j : Nat) (fndL G S K)).length ≤ (fndL G S K).length := List.length_filter_le _ _
    have h4 := fndL_len G S K
    omega
theorem oth_del {Y : List Int} (h : OthIs G S K st j x0 Y) : ∀ y ∈ Y, delB st y = false := fun y hy => by
  obtain ⟨h1, h2⟩ := h.mem y hy
  unfold delB
  rw [decide_eq_false (by have := h1.1.1; omega), decide_eq_false h2]
  rfl
end
section
variable {G : Geo} {B : CB} {F : Nat → Prop} {N : Nat} {S : CS} {d s g : Nat} {st : List Int} {nu : Int} {dn : Bool}
set_option maxHeartbeats 3200000 in
theorem others_yes (j : Nat) (w : World) (h : StAt G B F N S d s g st nu dn w) (hup : S.up = true) (hj : j < st.length) (K : Int → BK) (hK : CInv G S K) (M : Int → Option (List Int)) (hH : Hold G.b S.bd K M) (hs : StOk G.b S.bd K M st) (D : List Int) (n : Int) (hm : M j = some D) (hb : Best G.b S.bd K j (st[j]?.getD 0) D n) :
    Calls Tryz.prog 36 #[.pointer (some ⟨s, 0, none⟩), .int .i64 (j : Int)] w fun e w' => ∃ v Y, (e = .returned (.tuple #[v, .int .i64 0]) ∧ OthIs G S K st j (st[j]?.getD 0) Y) ∧ w'.ownsRow (w.heap.size + 1) 3 1 v Y.length (Y.map (Value.int .i64)) ∧ Below w.heap.size w w' := by
  have hls := h.sb.len
  have hlen := fndL_len G S K
  have hnum := fndL_num hK hup
  have hstn := oth_stands hH hup hls.2 hj hm hb
  have HOI : Hid (∀ T : List Fnd, T.Perm (ofLeb (j : Nat) (fndL G S K)) → OthIs G S K st j (st[j]?.getD 0) (othersL T (st[j]?.getD 0))) := fun T hT => oth_is hs hup hj rfl hT
  have HXD : Hid (delB st (st[j]?.getD 0) = true) := by show _ = _; unfold delB; rw [decide_eq_true (mem_getD st j hj), Bool.or_true]
  have q0 := below_one w (.cells #[.pointer (some ⟨s, 0, none⟩)] 29)
  have cb := (new_cell1 w (.pointer (some ⟨s, 0, none⟩)) 29).1
  have hs0 : (w.alloc (.cells #[.pointer (some ⟨s, 0, none⟩)] 29)).heap.size = w.heap.size + 1 := by simp
  have hslt := h.sb.slt
  have hgw := h.sb.glt
  replace h := h.below q0
  have hscan := scan_yes (G := G) _ h.db h.chip hup (fun x => foundOf x (K x)) (fun x hx o' ho => by
    obtain ⟨i, rfl, hi, _, hbd⟩ := goodTo_mem hx
    exact look_is ⟨by omega, by omega⟩ hup hbd (hK i (by omega) (by omega)) ho)
  clear hK hH hs hm hb
  change Calls Tryz.prog 35 #[.pointer (some ⟨d, 0, none⟩)] _ fun e w' => ∃ v, e = .returned (.tuple #[v, .int .i64 0]) ∧ w'.ownsRow _ 103 5 v (fndL G S K).length (fcells (fndL G S K)) ∧ Below _ _ w' at hscan
  have hpk : (pickL st.length (fndL G S K))[j]?.getD 0 = st[j]?.getD 0 := by rw [← hstn]; simp [pickL, hj]
  have hpl := pickL_length st.length (fndL G S K)
  generalize fndL G S K = fs at *
  go_enter Tryz.func36, Tryz.ntmps36
  have c0 := h.sb.c0
  go_wp2_with fail
  generalize w.alloc (.cells #[.pointer (some ⟨s, 0, none⟩)] 29) = w0 at *
  refine hscan.mono ?_
  rintro e w1 ⟨v1, rfl, own1, q1⟩
  clear hscan c0
  obtain ⟨a1, cap1, rfl, fr1⟩ := frow_of_owns own1
  clear own1
  replace h := h.below q1
  replace cb : w1.cell? ⟨w.heap.size, 0, none⟩ = some (.pointer (some ⟨s, 0, none⟩)) := by rw [q1.cell (lt_of_cell cb)]; exact cb
  have Q1 : Hid (Below w.heap.size w w1) := btrans q0 q1
  have hsz1 := q1.size
  clear q0 q1
  go_wp2_with fail
  refine (stLebs_any w1 h.sb).mono ?_
  rintro e w1' ⟨rfl, rfl⟩
  have hstl := attStale_yes st.length hls.1 hls.2 a1 fs.length cap1 fs w1 fr1 (by omega)
  go_wp2_with fail
  refine hstl.mono ?_
  rintro e w2 ⟨gS, DD, X, cs, rfl, hSI, hIR, hgS, hgD, q2⟩
  clear hstl
  replace h := h.below q2
  replace fr1 := fr1.below q2 (Nat.le_refl _)
  replace cb : w2.cell? ⟨w.heap.size, 0, none⟩ = some (.pointer (some ⟨s, 0, none⟩)) := by rw [q2.cell (lt_of_cell cb)]; exact cb
  have Q2 : Hid (Below w.heap.size w w2) := btrans Q1.out q2
  have hsz2 := q2.size
  clear q2 Q1
  go_wp2_with fail
  refine (stLebs_any w2 h.sb).mono ?_
  rintro e w2' ⟨rfl, rfl⟩
  have hpi := attPick_own st.length hls.1 hls.2 a1 fs.length cap1 fs w2 fr1 (by omega) hnum
  go_wp2_with fail
  refine hpi.mono ?_
  rintro e w3 ⟨gP, rfl, rP, oP, q3⟩
  clear hpi fr1 hnum
  have hgP : w2.heap.size ≤ gP := (owns_lt oP rfl).1
  clear oP
  have hIRl := hIR.lt
  have hsz3 := q3.size
  obtain ⟨u, hu, ou⟩ := hIR.own j hj
  have cS : w3.cell? ⟨gS, j, none⟩ = some u := by
    rw [q3.cell (p := ⟨gS, j, none⟩) hIRl, hIR.cell j]; exact hu
  have ou3 := owns_same (w' := w3) ou (fun b hb => q3.block b (owns_lt ou hb).2)
  have hul : ∀ b, u.ownBlock = some b → DD ≤ b ∧ b < w2.heap.size := fun b hb => owns_lt ou hb
  have cP : w3.cell? ⟨gP, j, none⟩ = some (.int .i64 (st[j]?.getD 0)) := by
    obtain ⟨b, off, e, _, hc⟩ := rP.hcell (by omega)
    simp only [Option.some.injEq, Addr.mk.injEq, and_true] at e
    obtain ⟨rfl, rfl⟩ := e
    have := hc j hj
    rw [Nat.zero_add, hpk] at this
    exact this
  replace h := h.below q3
  replace cb : w3.cell? ⟨w.heap.size, 0, none⟩ = some (.pointer (some ⟨s, 0, none⟩)) := by rw [q3.cell (lt_of_cell cb)]; exact cb
  have Q3 : Hid (Below w.heap.size w w3) := btrans Q2.out q3
  obtain ⟨T, hT, _, hXj⟩ := hSI j hj
  rw [hstn] at hXj
  have hOI := HOI.out T hT
  rw [← hXj] at hOI
  have HDL : Hid (∀ y ∈ X j, delB st y = false) := oth_del hOI
  have hYl := hOI.len
  have HOI2 : Hid _ := hOI
  clear hOI HOI hXj hT hSI hIR ou q3 Q2 rP hpk hpl hstn hu
  have ou4 := owns_base ou3 (show w.heap.size + 1 ≤ DD by omega)
  clear ou3
  generalize X j = Y at *
  obtain ⟨ua, uc, rfl, ur⟩ := row_of_owns ou4
  clear ur
  generalize hYn : Y.length = m at *
  generalize hx0 : st[j]?.getD 0 = x0 at *
  have HX0 : Hid (st[j]?.getD 0 = x0) := hx0
  clear hx0
  have HST : Hid _ := h
  have HOU : Hid _ := ou4
  clear h ou4
  obtain ⟨i0, hi0, hz0, hz1, hz2⟩ := info_parts Tryz.info3
  have hmf := Tryz.makeF8
  have hjl : (j : Int) < (st.length : Int) := by omega
  go_wp2_with fail
  refine heldA_open (fun w' => w'.cell? ⟨gS, j, none⟩ = some (.slice ua m uc) ∧ w'.cell? ⟨gP, j, none⟩ = some (.int .i64 x0)) (by kernel_rfl) ?_
  refine held_reads (rs := [0, 1, 2, 3, 4, 5, 6, 7, 10]) (fuel := 5) (by kernel_rfl) (fun c d v a w h => by cases d <;> exact h) (by kernel_rfl) ⟨cS, cP⟩ (fun K hK => ?_)
  refine calm_move _ rfl (by rfl) rfl ?_
  go_simp
  refine calm_move _ rfl (by rfl) rfl ?_
  go_simp
  refine calm_do (.pointer (some ⟨gS, j, none⟩)) rfl (by rfl) (fun w' hw' => ?_) ?_
  · go_simp
  go_simp
  refine calm_do (.slice ua m uc) rfl (by rfl) (fun w' hw' => ?_) ?_
  · obtain ⟨h0, h1⟩ := hw'
    go_simp
  go_simp
  refine calm_move _ rfl (by rfl) rfl ?_
  go_simp
  refine calm_move _ rfl (by rfl) rfl ?_
  go_simp
  refine calm_do (.pointer (some ⟨gP, j, none⟩)) rfl (by rfl) (fun w' hw' => ?_) ?_
  · go_simp
  go_simp
  refine calm_do (.int .i64 x0) rfl (by rfl) (fun w' hw' => ?_) ?_
  · obtain ⟨h0, h1⟩ := hw'
    go_simp
  go_simp
  refine calm_do (.func (.func 59) #[] #[.pointer (some ⟨w.heap.size, 0, none⟩)]) rfl (by rfl) (fun w' hw' => ?_) ?_
  · go_simp
  go_simp
  refine calm_nil (hK.out _ ?_)
  clear hK K
  refine heldA_op (i := 8) (fuel := 4) (by kernel_rfl) rfl (by rfl) (fun K hK => ?_)
  go_simp
  have q4 : Below w3.heap.size w3 (w3.alloc (.cells #[.int .i64 x0] 3)).drew := (below_one w3 _).drew
  have cn : (w3.alloc (.cells #[.int .i64 x0] 3)).drew.cell? ⟨w3.heap.size, 0, none⟩ = some (.int .i64 x0) := (new_cell1 w3 (.int .i64 x0) 3).1
  have hsz4 : (w3.alloc (.cells #[.int .i64 x0] 3)).drew.heap.size = w3.heap.size + 1 := by show (w3.alloc _).heap.size = _; simp
  have hst4 := StAt.below HST.out q4
  have own4 := owns_same (w' := (w3.alloc (.cells #[.int .i64 x0] 3)).drew) HOU.out (fun b hb => q4.block b (owns_lt HOU.out hb).2)
  have cb4 : (w3.alloc (.cells #[.int .i64 x0] 3)).drew.cell? ⟨w.heap.size, 0, none⟩ = some (.pointer (some ⟨s, 0, none⟩)) := by rw [q4.cell (lt_of_cell cb)]; exact cb
  have cS4 : (w3.alloc (.cells #[.int .i64 x0] 3)).drew.cell? ⟨gS, j, none⟩ = some (.slice ua m uc) := by rw [q4.cell (lt_of_cell cS)]; exact cS
  have cP4 : (w3.alloc (.cells #[.int .i64 x0] 3)).drew.cell? ⟨gP, j, none⟩ = some (.int .i64 x0) := by rw [q4.cell (lt_of_cell cP)]; exact cP
  have Q4 : Hid (Below w.heap.size w (w3.alloc (.cells #[.int .i64 x0] 3)).drew) := btrans Q3.out q4
  refine hK _ _ ⟨cS4, cP4⟩ ?_
  clear hK K q4 cb cS cP Q3 HST HOU
  have hgPlt : gP < (w3.alloc (.cells #[.int .i64 x0] 3)).drew.heap.size := lt_of_cell cP4
  have hs3 : w3.heap.size = w3.heap.size := rfl
  generalize hw4 : (w3.alloc (.cells #[.int .i64 x0] 3)).drew = w4 at *
  clear hw4
  have hulw : ∀ b, (Value.slice ua m uc).ownBlock = some b → w.heap.size + 1 ≤ b ∧ gS < b ∧ b < gP := fun b hb => by
    have := hul b hb
    omega
  have hslt4 := hst4.sb.slt
  have hglt4 := hst4.sb.glt
  refine heldA_op (i := 9) (fuel := 3) (by kernel_rfl) rfl (by rfl) (fun K hK => ?_)
  refine wp_append_lies _ _ _ 32 rfl (w.heap.size + 1) 3 i0 (.int .i64 0) 1 8 Tryz.underlying32 hi0 hz0 hz1 hz2 rfl (by decide) _ m _ rfl own4 ⟨w3.heap.size, 0, none⟩ 1 1 [.int .i64 x0] rfl rfl ?c1 ?c2 (by decide) (by unfold maxLen; omega) (by omega) (by omega) w4.heap.size rfl ?_
  case c1 =>
    intro i v hi
    cases i with
    | zero => simp only [List.getElem?_cons_zero, Option.some.injEq] at hi; subst hi; exact cn
    | succ i => simp at hi
  case c2 =>
    intro v hv
    rw [List.mem_singleton] at hv
    subst hv
    rfl
  intro g1 cap2 w5 own5 grow5 hor hlt5
  rw [show (Y.map (Value.int .i64)) ++ [Value.int .i64 x0] = (Y ++ [x0]).map (Value.int .i64) by simp] at own5
  have hg1 : w.heap.size + 1 ≤ g1 ∧ gS ≠ g1 ∧ gP ≠ g1 := by
    rcases hor with ho | ho
    · have := hulw g1 ho; omega
    · omega
  have hnb : ∀ b, b < w.heap.size + 1 → w5.heap[b]? = w4.heap[b]? := fun b hb => grow5.block b (by omega) (fun e => by have := hulw b e.symm; omega)
  have sb5 := hst4.sb.same (hnb s (by omega)) (hnb g (by omega))
  have cb5 : w5.cell? ⟨w.heap.size, 0, none⟩ = some (.pointer (some ⟨s, 0, none⟩)) := (World.cell?_of_block (hnb w.heap.size (by omega))).trans cb4
  have cS5 : w5.cell? ⟨gS, j, none⟩ = some (.slice ua m uc) := (World.cell?_of_block (grow5.block gS (lt_of_cell cS4) (fun e => by have := hulw gS e.symm; omega))).trans cS4
  have cP5 : w5.cell? ⟨gP, j, none⟩ = some (.int .i64 x0) := (World.cell?_of_block (grow5.block gP (lt_of_cell cP4) (fun e => by have := hulw gP e.symm; omega))).trans cP4
  have Q5 : Hid (Below w.heap.size w w5) := Q4.out.grown grow5 (by omega) (fun b hb => by have := hulw b hb; omega)
  refine hK _ _ ⟨cS5, cP5⟩ ?_
  clear hK K own4 cb4 Q4 grow5 hor hnb hst4 cS4 cP4 cn
  have hdl := delF_last Y x0 (w.heap.size + 1) g1 cap2 (by omega) w.heap.size w5 sb5 cb5 (by rw [hYn]; exact own5) HDL.out HXD.out
  rw [hYn] at hdl
  refine heldA_op (i := 11) (fuel := 2) (by kernel_rfl) rfl (by rfl) (fun K hK => ?_)
  go_simp
  refine hdl.mono ?_
  rintro e w6 ⟨rfl, own6, grow6⟩
  have cS6 : w6.cell? ⟨gS, j, none⟩ = some (.slice ua m uc) := (World.cell?_of_block (grow6.block gS (lt_of_cell cS5) (fun e => by cases e; omega))).trans cS5
  have cP6 : w6.cell? ⟨gP, j, none⟩ = some (.int .i64 x0) := (World.cell?_of_block (grow6.block gP (lt_of_cell cP5) (fun e => by cases e; omega))).trans cP5
  have Q6 : Hid (Below w.heap.size w w6) := Q5.out.grown grow6 Q5.out.size (fun b hb => by cases hb; omega)
  refine hK _ _ ⟨cS6, cP6⟩ ?_
  clear hK K hdl own5 cS5 cP5 Q5 sb5 cb5 grow6
  have HO6 : Hid _ := own6
  clear own6
  refine held_reads (rs := [12, 13]) (fuel := 0) (by kernel_rfl) (fun c d v a w h => by cases d <;> exact h) (by kernel_rfl) ⟨cS6, cP6⟩ (fun K hK => ?_)
  go_simp
  refine calm_assign _ rfl (by rfl) rfl ?_
  go_simp
  refine calm_assign _ rfl (by rfl) rfl ?_
  go_simp
  refine calm_nil (hK.out _ ?_)
  clear hK K cS6 cP6
  refine wpAnyH_done (by kernel_rfl) ?_ _
  go_wp2_with fail
  go_ret2
  refine ⟨_, Y, ⟨rfl, ?_⟩, by rw [hYn]; exact HO6.out, Q6.out⟩
  have e := HX0.out
  rw [List.getElem?_eq_getElem hj] at e
  simp only [Option.getD_some] at e
  first | (rw [e]; exact HOI2.out) | (rw [HX0.out]; exact HOI2.out)
end
end Go.Proofs.YtgamakejaknagaaGreat

/-
  The code of layer 11 (store), as it landed: Unmap.
-/
namespace Go.Proofs.YtgamakejaknagaaGreat
open Go.RowKit Go.Maps
set_option linter.unusedVariables false
set_option maxRecDepth 8192

/-- Between two erasures of Unmap: R are still to be erased, then x0. -/
structure UnmI (G : Geo) (S0 : CS) (K0 : Int → BK) (M : Int → Option (List Int)) (st : List Int) (nu : Int) (j : Nat) (x0 : Int) (R : List Int) (S : CS) (K : Int → BK) : Prop where
  inv : CInv G S K
  up : S.up = true
  wk : S.wk = S0.wk
  ah : S0.ah = 0 → S.ah = 0
  cl : (∀ y p, S0.wr y p = fun _ => false) → ∀ y p, S.wr y p = fun _ => false
  mono : ∀ y, S0.bd y = true → S.bd y = true
  only : ∀ y, S.bd y = true → S0.bd y = true ∨ S0.wk y = true
  hold : Hold G.b S.bd K M
  stok : StOk G.b S.bd K M st
  num : NumOk G.b S.bd K nu
  best : ∃ D n, Best G.b S.bd K j x0 D n
  left : ∀ y D n, GoodB G.b S.bd y → K y = .copy j D n → y = x0 ∨ y ∈ R
  ks : ∀ y, K y = K0 y ∨ K y = .no
/-- What Unmap makes. -/
structure UnmRes (G : Geo) (S0 : CS) (K0 : Int → BK) (M : Int → Option (List Int)) (st : List Int) (nu : Int) (j : Nat) (r : Int) (S : CS) (K : Int → BK) (st1 : List Int) (dn1 : Bool) : Prop where
  inv : CInv G S K
  wk : S.wk = S0.wk
  ah : S0.ah = 0 → S.ah = 0
  cl : (∀ y p, S0.wr y p = fun _ => false) → ∀ y p, S.wr y p = fun _ => false
  mono : ∀ y, S0.bd y = true → S.bd y = true
  num : NumOk G.b S.bd K nu
  ks : ∀ y, K y = K0 y ∨ K y = .no
  is : (r = 0 ∧ (S.up = true ∧ dn1 = false ∧ ∀ y, S.bd y = true → S0.bd y = true ∨ S0.wk y = true) ∧ st1 = st.set j (-1) ∧ Hold G.b S.bd K (updM M j none) ∧ StOk G.b S.bd K (updM M j none) st1) ∨
    (r = 70 ∧ (S.up = false ∧ dn1 = true ∧ S0.ah ≠ 0) ∧ st1 = st ∧ (Hold G.b S.bd K M ∨ Hold G.b S.bd K (updM M j none)))
section
variable {G : Geo} {S0 S S2 : CS} {K0 K : Int → BK} {M : Int → Option (List Int)} {st R : List Int} {nu r x0 y : Int} {j : Nat}
theorem UnmI.step (h : UnmI G S0 K0 M st nu j x0 (y :: R) S K) (hM : ∀ i, (st.length : Int) ≤ i → M i = none) (hy : 0 ≤ y ∧ y < G.b) (hys : y ∉ st) (hx0 : x0 ∈ st) (hE : EraseRes G S y r S2) (hr : r ≠ 70) : ∃ K2, UnmI G S0 K0 M st nu j x0 R S2 K2 := by
  obtain ⟨k, ⟨h1, ht⟩, h2, h3, h4⟩ := hE.inv h.inv hy
  have hnb := notBest_of h.hold h.stok hM hys
  have hne : x0 ≠ y := fun e => hys (e ▸ hx0)
  have hup2 : S2.up = true := by
    rcases hE.2 with ⟨_, _, e⟩ | ⟨_, _, e, _⟩ | ⟨e, _⟩ | ⟨_, _, e, _⟩
    · rw [e]; exact h.up
    · exact e
    · exact absurd e hr
    · exact e
  have honly : ∀ z, S2.bd z = true → S0.bd z = true ∨ S0.wk z = true := fun z hz => by
    by_cases e : z = y
    · subst e
      rcases hE.2 with ⟨_, hb, _⟩ | ⟨_, ⟨hw, _⟩, _⟩ | ⟨e, _⟩ | ⟨_, _, _, hb, _⟩
      · exact h.only z hb
      · exact .inr (by rw [← h.wk]; exact hw)
      · exact absurd e hr
      · rw [hb] at hz; cases hz
    · rw [hE.1.bd z e] at hz; exact h.only z hz
  have hgone : GoodB G.b S2.bd y → ∀ D n, updK K y k y ≠ .copy j D n := fun hg D n e => by
    rw [updK_at] at e
    rcases hE.2 with ⟨_, hb, e2⟩ | ⟨_, _, _, hb, _⟩ | ⟨e2, _⟩ | ⟨rfl, _⟩
    · rw [e2] at hg; rw [hg.2] at hb; cases hb
    · rw [hg.2] at hb; cases hb
    · exact absurd e2 hr
    · rw [h3 rfl] at e; cases e
  obtain ⟨D0, n0, hb0⟩ := h.best
  refine ⟨_, h1, hup2, hE.1.wk.trans h.wk, fun e => hE.1.ah (h.ah e), fun e => hE.1.cl (h.cl e), fun z hz => ?_, honly, h.hold.turn hnb ht, h.stok.turn hys ht, ?_, ⟨D0, n0, hb0.turn ht hne⟩, fun z D n hz hk => ?_, fun z => ?_⟩
  · by_cases e : z = y
    · rw [e]; exact hE.1.mark (h.mono y (e ▸ hz))
    · rw [hE.1.bd z e]; exact h.mono z hz
  · refine ⟨h.num.1, fun z hz => ?_⟩
    have hz' := ht.good hz
    by_cases e : z = y
    · subst e
      rw [updK_at]
      rcases h2 with e | e
      · rw [e]; exact h.num.2 z hz'
      · rw [e]; have := h.num.1; simp only [BK.num]; omega
    · rw [updK_ne _ e]; exact h.num.2 z hz'
  · by_cases e : z = y
    · subst e; exact absurd hk (hgone hz D n)
    · rcases h.left z D n (ht.good hz) (ht.copy hz hk) with h5 | h5
      · exact .inl h5
      · rcases List.mem_cons.1 h5 with h6 | h6
        · exact absurd h6 e
        · exact .inr h6
  · by_cases e : z = y
    · subst e
      rw [updK_at]
      rcases h2 with e | e
      · rw [e]; exact h.ks z
      · exact .inr e
    · rw [updK_ne _ e]; exact h.ks z
theorem num_turn {k : BK} (hn : NumOk G.b S.bd K nu) (ht : Turn S.bd K S2.bd (updK K y k) y) (h2 : k = K y ∨ k = .no) : NumOk G.b S2.bd (updK K y k) nu := by
  refine ⟨hn.1, fun z hz => ?_⟩
  have hz' := ht.good hz
  by_cases e : z = y
  · subst e
    rw [updK_at]
    rcases h2 with e | e
    · rw [e]; exact hn.2 z hz'
    · rw [e]; have := hn.1; simp only [BK.num]; omega
  · rw [updK_ne _ e]; exact hn.2 z hz'
theorem ks_turn {k : BK} (h : ∀ z, K z = K0 z ∨ K z = .no) (h2 : k = K y ∨ k = .no) : ∀ z, updK K y k z = K0 z ∨ updK K y k z = .no := fun z => by
  by_cases e : z = y
  · subst e
    rw [updK_at]
    rcases h2 with e | e
    · rw [e]; exact h z
    · exact .inr e
  · rw [updK_ne _ e]; exact h z
theorem UnmI.down (h : UnmI G S0 K0 M st nu j x0 (y :: R) S K) (hM : ∀ i, (st.length : Int) ≤ i → M i = none) (hy : 0 ≤ y ∧ y < G.b) (hys : y ∉ st) (hE : EraseRes G S y 70 S2) : ∃ K2, UnmRes G S0 K0 M st nu j 70 S2 K2 st true := by
  obtain ⟨k, ⟨h1, ht⟩, h2, h3, h4⟩ := hE.inv h.inv hy
  have hnb := notBest_of h.hold h.stok hM hys
  rcases hE.2 with ⟨e, _⟩ | ⟨e, _⟩ | ⟨_, ⟨hah, _⟩, hu, _⟩ | ⟨e, _⟩
  · cases e
  · cases e
  · refine ⟨_, h1, hE.1.wk.trans h.wk, fun e => hE.1.ah (h.ah e), fun e => hE.1.cl (h.cl e), fun z hz => ?_, num_turn h.num ht h2, ks_turn h.ks h2, .inr ⟨rfl, ⟨hu, rfl, fun e => hah (h.ah e)⟩, rfl, .inl (h.hold.turn hnb ht)⟩⟩
    by_cases e : z = y
    · rw [e]; exact hE.1.mark (h.mono y (e ▸ hz))
    · rw [hE.1.bd z e]; exact h.mono z hz
  · cases e
/-- The block that stands is erased. -/
theorem UnmI.last (h : UnmI G S0 K0 M st nu j x0 [] S K) (hj : j < st.length) (hx : 0 ≤ x0 ∧ x0 < G.b) (hE : EraseRes G S x0 r S2) (hr : r ≠ 70) : ∃ K2, UnmRes G S0 K0 M st nu j 0 S2 K2 (st.set j (-1)) false := by
  obtain ⟨k, ⟨h1, ht⟩, h2, h3, h4⟩ := hE.inv h.inv hx
  obtain ⟨D0, n0, hb0⟩ := h.best
  have hgone : ∀ z D n, GoodB G.b S2.bd z → updK K x0 k z ≠ .copy j D n := fun z D n hz hk => by
    rcases h.left z D n (ht.good hz) (ht.copy hz hk) with e | e
    · subst e
      rw [updK_at] at hk
      rcases hE.2 with ⟨_, hb, _⟩ | ⟨_, _, _, hb, _⟩ | ⟨e2, _⟩ | ⟨rfl, _⟩
      · rw [hb0.good.2] at hb; cases hb
      · rw [hz.2] at hb; cases hb
      · exact absurd e2 hr
      · rw [h3 rfl] at hk; cases hk
    · simp at e
  have hup2 : S2.up = true := by
    rcases hE.2 with ⟨_, _, e⟩ | ⟨_, _, e, _⟩ | ⟨e, _⟩ | ⟨_, _, e, _⟩
    · rw [e]; exact h.up
    · exact e
    · exact absurd e hr
    · exact e
  have honly : ∀ z, S2.bd z = true → S0.bd z = true ∨ S0.wk z = true := fun z hz => by
    by_cases e : z = x0
    · subst e
      rcases hE.2 with ⟨_, hb, _⟩ | ⟨_, ⟨hw, _⟩, _⟩ | ⟨e, _⟩ | ⟨_, _, _, hb, _⟩
      · exact h.only z hb
      · exact .inr (by rw [← h.wk]; exact hw)
      · exact absurd e hr
      · rw [hb] at hz; cases hz
    · rw [hE.1.bd z e] at hz; exact h.only z hz
  refine ⟨_, h1, hE.1.wk.trans h.wk, fun e => hE.1.ah (h.ah e), fun e => hE.1.cl (h.cl e), fun z hz => ?_, num_turn h.num ht h2, ks_turn h.ks h2, .inl ⟨rfl, ⟨hup2, rfl, honly⟩, rfl, h.hold.del ht hb0.is hgone, h.stok.del ht hb0.is hj⟩⟩
  by_cases e : z = x0
  · rw [e]; exact hE.1.mark (h.mono x0 (e ▸ hz))
  · rw [hE.1.bd z e]; exact h.mono z hz
theorem UnmI.lastDown (h : UnmI G S0 K0 M st nu j x0 [] S K) (hx : 0 ≤ x0 ∧ x0 < G.b) (hE : EraseRes G S x0 70 S2) : ∃ K2, UnmRes G S0 K0 M st nu j 70 S2 K2 st true := by
  obtain ⟨k, ⟨h1, ht⟩, h2, h3, h4⟩ := hE.inv h.inv hx
  obtain ⟨D0, n0, hb0⟩ := h.best
  rcases hE.2 with ⟨e, _⟩ | ⟨e, _⟩ | ⟨_, ⟨hah, hbd, _⟩, hu, _⟩ | ⟨e, _⟩
  · cases e
  · cases e
  · refine ⟨_, h1, hE.1.wk.trans h.wk, fun e => hE.1.ah (h.ah e), fun e => hE.1.cl (h.cl e), fun z hz => ?_, num_turn h.num ht h2, ks_turn h.ks h2, .inr ⟨rfl, ⟨hu, rfl, fun e => hah (h.ah e)⟩, rfl, ?_⟩⟩
    · by_cases e : z = x0
      · rw [e]; exact hE.1.mark (h.mono x0 (e ▸ hz))
      · rw [hE.1.bd z e]; exact h.mono z hz
    · by_cases hc : S2.bd x0 = false ∧ k = K x0
      · left
        have e1 : S2.bd = S.bd := funext fun z => by
          by_cases e : z = x0
          · rw [e, hc.1, hbd]
          · exact hE.1.bd z e
        rw [hc.2, updK_self, e1]
        exact h.hold
      · right
        refine h.hold.del ht hb0.is (fun z D n hz hk => ?_)
        rcases h.left z D n (ht.good hz) (ht.copy hz hk) with e | e
        · subst e
          rw [updK_at] at hk
          rcases h2 with e2 | e2
          · exact hc ⟨hz.2, e2⟩
          · rw [e2] at hk; cases hk
        · simp at e
  · cases e
end
section
variable {G : Geo} {B : CB} {F : Nat → Prop} {N : Nat} {S : CS} {d s g : Nat} {st : List Int} {nu : Int} {dn : Bool}
theorem stUnmap_none (j : Nat) (w : World) (h : SBox w s d g st nu false) (hj : j < st.length) (hn : st[j]?.getD 0 = -1) : Calls Tryz.prog 22 #[.pointer (some ⟨s, 0, none⟩), .int .i64 (j : Int)] w fun e w' => e = .returned (.int .i64 0) ∧ w = w' := by
  have hrd := stReady_any (j : Int) w h
  rw [rdyS_in (by omega)] at hrd
  have c1 := h.c1
  have ca := h.at j hj
  rw [hn] at ca
  have hl := h.len
  clear h hn
  generalize st.length = L at *
  go_enter Tryz.func22, Tryz.ntmps22
  go_wp2_with fail
  refine hrd.mono ?_
  rintro e w1 ⟨rfl, rfl⟩
  clear hrd
  go_wp2_with fail
  go_ret
  exact ⟨rfl, rfl⟩
end
end Go.Proofs.YtgamakejaknagaaGreat

/-
  The code of layer 11 (store), as it landed: Unmap, walked.
-/
namespace Go.Proofs.YtgamakejaknagaaGreat
open Go.RowKit Go.Maps
set_option linter.unusedVariables false
set_option maxRecDepth 8192

section
variable {G : Geo} {B : CB} {F : Nat → Prop} {N : Nat} {S : CS} {d s g : Nat} {st : List Int} {nu : Int} {dn : Bool}
set_option maxHeartbeats 3200000 in
theorem stUnmap_any (j : Nat) (w : World) (h : StAt G B F N S d s g st nu false w) (hN : N + 700 < 100000000) (hup : S.up = true) (hj : j < st.length) (K : Int → BK) (hK : CInv G S K) (M : Int → Option (List Int)) (hH : Hold G.b S.bd K M) (hs : StOk G.b S.bd K M st) (hnu : NumOk G.b S.bd K nu) (hM : ∀ i, (st.length : Int) ≤ i → M i = none) (D : List Int) (n : Int) (hm : M j = some D) (hb : Best G.b S.bd K j (st[j]?.getD 0) D n) :
    Calls Tryz.prog 22 #[.pointer (some ⟨s, 0, none⟩), .int .i64 (j : Int)] w fun e w' => ∃ r F1 S1 K1 st1 dn1, (e = .returned (.int .i64 r) ∧ StAt G B F1 (N + 600) S1 d s g st1 nu dn1 w' ∧ SDoes F s g w F1 w') ∧ UnmRes G S K M st nu j r S1 K1 st1 dn1 := by
  have hrd := stReady_any (j : Int) w h.sb
  rw [rdyS_in (by omega)] at hrd
  have hls := h.sb.len
  have c1 := h.sb.c1
  have ca := h.sb.at j hj
  have hx := hb.good.1
  have hGb := G.ok.hb
  have hot := others_yes j w h hup hj K hK M hH hs D n hm hb
  have HI0 : Hid (∀ Y, OthIs G S K st j (st[j]?.getD 0) Y → UnmI G S K M st nu j (st[j]?.getD 0) Y S K) := fun Y hY =>
    ⟨hK, hup, rfl, id, id, fun _ h => h, fun _ h => .inl h, hH, hs, hnu, ⟨D, n, hb⟩, fun y D' n' hy hk => by
      by_cases e : y = st[j]?.getD 0
      · exact .inl e
      · exact .inr (hY.all y D' n' hy hk e), fun _ => .inl rfl⟩
  have HXS : Hid (st[j]?.getD 0 ∈ st) := mem_getD st j hj
  have hne : (st[j]?.getD 0 == -1) = false := by simp; omega
  clear hK hH hs hnu hm hb
  obtain ⟨i0, hi0, hz0, hz1, hz2⟩ := info_parts Tryz.info3
  obtain ⟨L, hL⟩ : ∃ L, L = st.length := ⟨_, rfl⟩
  have HL : Hid (L = st.length) := hL
  rw [← hL] at c1 hls
  generalize hx0 : st[j]?.getD 0 = x0 at *
  have HX0 : Hid (st[j]?.getD 0 = x0) := hx0
  have hjL : j < L := by omega
  have hjl : (j : Int) < (L : Int) := by omega
  clear hx0 hL
  go_enter Tryz.func22, Tryz.ntmps22
  go_wp2_with fail
  refine hrd.mono ?_
  rintro e w1 ⟨rfl, rfl⟩
  clear hrd
  go_wp2_with fail
  refine hot.mono ?_
  rintro e w1 ⟨v, Y, ⟨rfl, hY⟩, own, q1⟩
  clear hot
  have H0 : Hid (StAt G B F N S d s g st nu false w) := h
  have hst1 := h.below q1
  have HFRS : Hid ((∀ y, F y → y < w.heap.size) ∧ s < w.heap.size ∧ g < w.heap.size) := ⟨h.chip.fresh, h.sb.slt, h.sb.glt⟩
  have d1 := hst1.sb.c1
  rw [← HL.out] at d1
  have da := hst1.sb.at j hj
  rw [HX0.out] at da
  have hYl := hY.len
  have HUI : Hid _ := HI0.out Y hY
  have HYM : Hid (∀ y ∈ Y, (0 ≤ y ∧ y < G.b) ∧ y ∉ st) := fun y hy => ⟨(hY.mem y hy).1.1, (hY.mem y hy).2⟩
  have Q1 : Hid (Below w.heap.size w w1) := q1
  have hw1 := q1.size
  clear h hst1 q1 c1 ca HI0 hY
  have OW : Hid _ := own
  generalize hYn : Y.length = m at *
  have own2 := own.alloc (.cells #[.int .i64 x0] 3)
  have cn := new_cell1 w1 (.int .i64 x0) 3
  go_wp2_with (at_builtin; refine wpList_append_lies _ rfl _ _ 32 rfl (w.heap.size + 1) 3 i0 (.int .i64 0) 1 8 Tryz.underlying32 hi0 hz0 hz1 hz2 rfl (by decide) _ m _ rfl own2 ⟨w1.heap.size, 0, none⟩ 1 1 [.int .i64 x0] rfl rfl ?c1 ?c2 (by decide) ?c3 ?c4 ?c5 _ rfl ?_)
  case c1 =>
    intro i v hi
    cases i with
    | zero => simp only [List.getElem?_cons_zero, Option.some.injEq] at hi; subst hi; exact cn.1
    | succ i => simp at hi
  case c2 =>
    intro v hv
    rw [List.mem_singleton] at hv
    subst hv
    rfl
  case c3 => unfold maxLen; omega
  case c4 => omega
  case c5 => simp; omega
  intro gL cL w3 own3 grow3 hor hlt3
  rw [show (Y.map (Value.int .i64)) ++ [Value.int .i64 x0] = (Y ++ [x0]).map (Value.int .i64) by simp] at own3
  have q3 : Below w.heap.size w w3 := (Q1.out.alloc hw1 _).grown grow3 (by simp; omega) (fun b hb => by have := (owns_lt OW.out hb).1; omega)
  have hgL : w.heap.size + 1 ≤ gL := (owns_lt own3 rfl).1
  obtain ⟨aL, cL2, hv, rL⟩ := row_of_owns own3
  simp only [Value.slice.injEq, true_and] at hv
  obtain ⟨rfl, rfl⟩ := hv
  have of3 : OffS F s g .i64 w3 (some ⟨gL, 0, none⟩) (m + 1) cL (Y ++ [x0]) := ⟨rL, fun _ y hy hf => by
    simp only [Option.some.injEq] at hy
    subst hy
    rcases hf with hf | hf | hf
    · have := HFRS.out.1 _ hf; dsimp only at this; omega
    · have := HFRS.out.2.1; dsimp only at hf; omega
    · have := HFRS.out.2.2; dsimp only at hf; omega⟩
  have hst3 : Hid (StAt G B F (N + 2 * 0) S d s g st nu false w3) := StAt.below H0.out q3
  have HOF3 : Hid _ := of3
  have SD3 : Hid (SDoes F s g w F w3) := SDoes.of_below q3
  have hcLm : m + 1 ≤ cL := rL.hcap
  clear own3 grow3 hor hlt3 of3 rL q3 H0 cn own own2 OW Q1 d1 da
  have HUI0 : Hid ((0 ≤ m ∧ UnmI G S K M st nu j x0 (Y.drop 0) S K) ∨ (0 = m + 1 ∧ UnmRes G S K M st nu j 0 S K (st.set j (-1)) false)) := .inl ⟨Nat.zero_le _, HUI.out⟩
  go_wp2_with fail
  go_loopw [47] (fun i wr => ∃ (k : Nat) (F1 : Nat → Prop) (S1 : CS) (K1 : Int → BK), k ≤ m + 1 ∧ i = .int .i64 (k : Int) ∧ Hid (StAt G B F1 (N + 2 * k) S1 d s g st nu false wr) ∧ Hid (SDoes F s g w F1 wr) ∧ Hid (OffS F1 s g .i64 wr (some ⟨gL, 0, none⟩) (m + 1) cL (Y ++ [x0])) ∧
      Hid ((k ≤ m ∧ UnmI G S K M st nu j x0 (Y.drop k) S1 K1) ∨ (k = m + 1 ∧ UnmRes G S K M st nu j 0 S1 K1 (st.set j (-1)) false))) (fun i _ => m + 1 - (RowKit.intOf i).toNat)
  case atStart => exact ⟨0, F, S, K, Nat.zero_le _, rfl, hst3, SD3, HOF3, HUI0⟩
  case round =>
    clear hst3 SD3 HOF3 HUI0 HUI
    obtain ⟨k, F1, S1, K1, hk, rfl, HST, HSD, HOF, HUN⟩ := hrel
    by_cases hlt : k < m + 1
    · have hlt' : (k : Int) < ((m + 1 : Nat) : Int) := by omega
      obtain ⟨_, hui⟩ : k ≤ m ∧ UnmI G S K M st nu j x0 (Y.drop k) S1 K1 := by
        rcases HUN.out with h | h
        · exact h
        · omega
      obtain ⟨b, off, e, _, hcell⟩ := HOF.out.row.hcell (by omega)
      simp only [Option.some.injEq, Addr.mk.injEq, and_true] at e
      obtain ⟨rfl, rfl⟩ := e
      have hck := hcell k hlt
      rw [Nat.zero_add] at hck
      have s0 := HST.out.sb.c0
      clear hcell
      obtain ⟨z, hz⟩ : ∃ z, z = (Y ++ [x0])[k]?.getD 0 := ⟨_, rfl⟩
      rw [← hz] at hck
      have hzb : 0 ≤ z ∧ z < G.b := by
        by_cases hkm : k < m
        · rw [hz, List.getElem?_append_left (by omega)]
          exact (HYM.out _ (mem_getD Y k (by omega))).1
        · have e : k = Y.length := by omega
          rw [hz, e, List.getElem?_append_right (Nat.le_refl _), Nat.sub_self]
          exact hx
      have her := drvErase_any z (by unfold I64; omega) wr HST.out.db HST.out.fd HST.out.chip (by omega)
      have HER : Hid (EraseRes G S1 z (S1.eraseD G z).1 (S1.eraseD G z).2) := erase_res hzb hui.up
      have HNX : Hid (∀ r S2, r ≠ 70 → EraseRes G S1 z r S2 → ∃ K2, (k + 1 ≤ m ∧ UnmI G S K M st nu j x0 (Y.drop (k + 1)) S2 K2) ∨ (k + 1 = m + 1 ∧ UnmRes G S K M st nu j 0 S2 K2 (st.set j (-1)) false)) := fun r S2 hr hE => by
        by_cases hkm : k < m
        · have hzY : z = Y[k]?.getD 0 := by rw [hz, List.getElem?_append_left (by omega)]
          have hdr : Y.drop k = z :: Y.drop (k + 1) := by
            rw [hzY, List.getElem?_eq_getElem (by omega)]
            exact List.drop_eq_getElem_cons (by omega)
          rw [hdr] at hui
          obtain ⟨K2, h2⟩ := hui.step hM hzb (by rw [hzY]; exact (HYM.out _ (mem_getD Y k (by omega))).2) HXS.out hE hr
          exact ⟨K2, .inl ⟨by omega, h2⟩⟩
        · have e : k = Y.length := by omega
          have hzx : z = x0 := by rw [hz, e, List.getElem?_append_right (Nat.le_refl _), Nat.sub_self]; rfl
          rw [List.drop_of_length_le (by omega)] at hui
          rw [hzx] at hE
          obtain ⟨K2, h2⟩ := hui.last hj hx hE hr
          exact ⟨K2, .inr ⟨by omega, h2⟩⟩
      have HDN : Hid (∀ S2, EraseRes G S1 z 70 S2 → ∃ K2, UnmRes G S K M st nu j 70 S2 K2 st true) := fun S2 hE => by
        by_cases hkm : k < m
        · have hzY : z = Y[k]?.getD 0 := by rw [hz, List.getElem?_append_left (by omega)]
          have hdr : Y.drop k = z :: Y.drop (k + 1) := by
            rw [hzY, List.getElem?_eq_getElem (by omega)]
            exact List.drop_eq_getElem_cons (by omega)
          rw [hdr] at hui
          exact hui.down hM hzb (by rw [hzY]; exact (HYM.out _ (mem_getD Y k (by omega))).2) hE
        · have e : k = Y.length := by omega
          have hzx : z = x0 := by rw [hz, e, List.getElem?_append_right (Nat.le_refl _), Nat.sub_self]; rfl
          rw [List.drop_of_length_le (by omega)] at hui
          rw [hzx] at hE
          exact hui.lastDown hx hE
      clear hui hz HUN
      go_wp2_with fail
      refine her.mono ?_
      clear her
      rintro e V ⟨rfl, dd⟩
      obtain ⟨F2, h2, sd2, t2⟩ := HST.out.does dd
      have SD2 : Hid (SDoes F s g w F2 V) := HSD.out.trans sd2
      have HOF2 : Hid _ := HOF.out.step sd2
      clear dd sd2 t2 HST HSD HOF hck s0
      generalize hee : S1.eraseD G z = E at *
      obtain ⟨r, S2⟩ := E
      simp only at HER h2
      clear hee
      by_cases hr : r = 70
      · subst hr
        obtain ⟨K2, hres⟩ := HDN.out S2 HER.out
        have HRES : Hid _ := hres
        have htl := stTell_yes V h2
        clear hres HDN HNX HER h2
        go_wp2_with fail
        refine htl.mono ?_
        rintro e V3 ⟨rfl, h3, sd3⟩
        have HST3 : Hid _ := h3.mono (N' := N + 600) (by omega)
        have SD3 : Hid _ := SD2.out.trans sd3
        clear htl h3 sd3
        go_wp2_with fail
        go_ret
        first | exact ⟨70, F2, S2, K2, st, true, ⟨rfl, HST3.out, SD3.out⟩, HRES.out⟩ | exact ⟨70, F2, S2, K2, st, .inr ⟨⟨rfl, HST3.out, SD3.out⟩, HRES.out⟩⟩
      · have hne70 : (r == 70) = false := by simp [hr]
        obtain ⟨K2, hnx⟩ := HNX.out r S2 hr HER.out
        have HN2 : Hid _ := hnx
        have HST2 : Hid (StAt G B F2 (N + 2 * (k + 1)) S2 d s g st nu false V) := h2.mono (by omega)
        clear hnx HNX HDN HER h2 hr
        go_wp2_with fail
        go_roundw
        case rel => exact ⟨k + 1, F2, S2, K2, by omega, by go_num, HST2, SD2, HOF2, HN2⟩
        case measure => simp [RowKit.intOf]; omega
    · obtain rfl : k = m + 1 := by omega
      obtain ⟨_, hres⟩ : m + 1 = m + 1 ∧ UnmRes G S K M st nu j 0 S1 K1 (st.set j (-1)) false := by
        rcases HUN.out with h | h
        · omega
        · exact h
      have HRES : Hid _ := hres
      have s1 := HST.out.sb.c1
      rw [← HL.out] at s1
      have sj := HST.out.sb.at j hj
      rw [HX0.out] at sj
      have sf := HST.out.sb.softg j
      obtain ⟨h4, sd4⟩ := HST.out.setAt j (-1)
      have HST4 : Hid _ := h4.mono (N' := N + 600) (by omega)
      have SD4 : Hid _ := HSD.out.trans sd4
      clear hres h4 sd4 HST HSD HOF HUN
      go_wp2_with fail
      go_ret
      first | exact ⟨0, F1, S1, K1, _, false, ⟨rfl, HST4.out, SD4.out⟩, HRES.out⟩ | exact ⟨0, F1, S1, K1, _, .inl ⟨⟨rfl, HST4.out, SD4.out⟩, HRES.out⟩⟩
end
end Go.Proofs.YtgamakejaknagaaGreat

/-
  What layer 11's laws share: a chip (CL), a store (LS) that were made since W, what logical blocks have (M), and what a call makes of it.
-/
namespace Go.Proofs.YtgamakejaknagaaGreat
open Go.RowKit Go.Maps
set_option linter.unusedVariables false
set_option maxRecDepth 8192

/-- A chip that was made since W; its logical blocks have M; its numbers are at most c. -/
structure CL (W : World) (G : Geo) (B : CB) (F : Nat → Prop) (N : Nat) (S : CS) (K : Int → BK) (M : Int → Option (List Int)) (c : Int) (w : World) : Prop where
  chip : ChipAt G B F N S w
  lim : B.lim = 0
  inv : CInv G S K
  hold : Hold G.b S.bd K M
  le : NumLe G.b K c
  nn : 0 ≤ c
  low : ∀ x, F x → W.heap.size ≤ x
  bel : Below W.heap.size W w
/-- A store of it. -/
structure LS (W : World) (G : Geo) (B : CB) (F : Nat → Prop) (N : Nat) (S : CS) (K : Int → BK) (M : Int → Option (List Int)) (c : Int) (d s g : Nat) (st : List Int) (nu : Int) (w : World) : Prop where
  at_ : StAt G B F N S d s g st nu false w
  cl : CL W G B F N S K M c w
  up : S.up = true
  stok : StOk G.b S.bd K M st
  num : NumOk G.b S.bd K nu
  nu1 : nu ≤ c + 1
  rest : ∀ i, (st.length : Int) ≤ i → M i = none
  lows : W.heap.size ≤ s
  lowg : W.heap.size ≤ g
section
variable {W w w' : World} {G : Geo} {B : CB} {F F' : Nat → Prop} {N N' : Nat} {S S' : CS} {K K' : Int → BK} {M M' : Int → Option (List Int)} {c : Int} {d s g : Nat} {st st' : List Int} {nu nu' : Int}
theorem CL.below (h : CL W G B F N S K M c w) (q : Below w.heap.size w w') : CL W G B F N S K M c w' := ⟨h.chip.below q, h.lim, h.inv, h.hold, h.le, h.nn, h.low, btrans h.bel q⟩
theorem LS.below (h : LS W G B F N S K M c d s g st nu w) (q : Below w.heap.size w w') : LS W G B F N S K M c d s g st nu w' := ⟨h.at_.below q, h.cl.below q, h.up, h.stok, h.num, h.nu1, h.rest, h.lows, h.lowg⟩
theorem LS.bel (h : LS W G B F N S K M c d s g st nu w) : Below W.heap.size W w := h.cl.bel
/-- A row that W had. -/
theorem LS.old (h : LS W G B F N S K M c d s g st nu w) {k : IntKind} {a : Option Addr} {len cap : Nat} {z : List Int} (r : Row k W a len cap z) : OffS F s g k w a len cap z := by
  refine ⟨r.below h.bel (Nat.le_refl _), fun h0 x hx hf => ?_⟩
  have hlt := r.blk_lt h0 x hx
  rcases hf with hf | hf | hf
  · have := h.cl.low _ hf; omega
  · have := h.lows; omega
  · have := h.lowg; omega
/-- A row that is new. -/
theorem LS.new (h : LS W G B F N S K M c d s g st nu w) {k : IntKind} {a : Option Addr} {len cap : Nat} {z : List Int} (r : Row k w' a len cap z) (hn : 0 < len → ∀ q : Addr, a = some q → w.heap.size ≤ q.block) : OffS F s g k w' a len cap z := by
  refine ⟨r, fun h0 x hx hf => ?_⟩
  have hlt := hn h0 x hx
  rcases hf with hf | hf | hf
  · have := h.at_.chip.fresh _ hf; omega
  · have := h.at_.sb.slt; omega
  · have := h.at_.sb.glt; omega
theorem cl_new {ps : List Int} (h : Here W G B F N (CS.fresh G.L ps ps.length) w) (hl : B.lim = 0) : CL W G B F N (CS.fresh G.L ps ps.length) (fun _ => .no) (fun _ => none) 0 w :=
  ⟨h.chip, hl, fun x _ _ => blank_pis G, fun j _ _ => .inl ⟨rfl, fun y D n _ e => by cases e⟩, fun y _ _ => Int.le_refl _, Int.le_refl _, h.low, h.bel⟩
/-- What a logical block has, stands. -/
theorem LS.stands (h : LS W G B F N S K M c d s g st nu w) {j : Nat} (hj : j < st.length) : (M j = none ∧ st[j]?.getD 0 = -1) ∨ ∃ D n, M j = some D ∧ Best G.b S.bd K j (st[j]?.getD 0) D n := h.stok j hj
theorem LS.len (h : LS W G B F N S K M c d s g st nu w) : 1 ≤ st.length ∧ st.length ≤ 64 := h.at_.sb.len
theorem LS.after (h : LS W G B F N S K M c d s g st nu w) (q : SDoes F s g w F' w') : Below W.heap.size W w' ∧ ∀ x, F' x → W.heap.size ≤ x := q.below h.bel h.cl.low h.lows h.lowg

/-- Read. -/
theorem LS.read_none (h : LS W G B F N S K M c d s g st nu w) (j : Nat) (hj : j < st.length) (hm : M j = none) : Calls Tryz.prog 10 #[.pointer (some ⟨s, 0, none⟩), .int .i64 (j : Int)] w fun e w' => e = .returned (.tuple #[.slice none 0 0, .int .i64 0, .int .i64 5]) ∧ w = w' := by
  rcases h.stands hj with ⟨_, hn⟩ | ⟨D, n, e, _⟩
  · exact stRead_none j w h.at_.sb hj hn
  · rw [hm] at e; cases e
theorem LS.read_cnt (h : LS W G B F N S K M c d s g st nu w) (j : Nat) (hj : j < st.length) {D : List Int} (hm : M j = some D) : Calls Tryz.prog 10 #[.pointer (some ⟨s, 0, none⟩), .int .i64 (j : Int)] w fun e w' => ∃ a cap, ((0 < D.length → ∀ q : Addr, a = some q → w.heap.size ≤ q.block) ∧ IsB D ∧ D.length ≤ G.C) ∧ e = .returned (.tuple #[.slice a D.length cap, .int .i64 (mostW G (S.wr (st[j]?.getD 0)) (pagesOf G.R D.length) : Nat), .int .i64 0]) ∧ Row .u8 w' a D.length cap D ∧ Below w.heap.size w w' := by
  rcases h.stands hj with ⟨e, _⟩ | ⟨D', n, e, hb⟩
  · rw [hm] at e; cases e
  · rw [hm] at e
    cases e
    have hi := h.cl.inv _ hb.good.1.1 hb.good.1.2
    rw [hb.is] at hi
    have hmy := mayH_yes hi.1.1
    refine (stRead_yes j D n w h.at_ hj h.up hb.good.1 hb.good.2 hi).mono ?_
    rintro e w' ⟨a, cap, k, ⟨h1, rfl⟩, h3, h4, h5⟩
    exact ⟨a, cap, ⟨h1, hi.1.2.1, by omega⟩, h3, h4, h5⟩
/-- What Change leaves: bytes are there; or all stands as it stood; or the power went. -/
inductive ChgIs (W : World) (G : Geo) (B : CB) (F : Nat → Prop) (N : Nat) (S : CS) (M : Int → Option (List Int)) (c : Int) (d s g : Nat) (st : List Int) (j : Nat) (D : List Int) (w : World) (r : Int) (w' : World) : Prop
  | ok (F1 : Nat → Prop) (S1 : CS) (K1 : Int → BK) (st1 : List Int) (nu1 : Int) (hr : r = 0) (hl : LS W G B F1 (N + 300 * G.b.toNat) S1 K1 (updM M j (some D)) (c + 1) d s g st1 nu1 w') (hst : st1.length = st.length) (q : SDoes F s g w F1 w')
      (wk : S1.wk = S.wk) (ah : S.ah = 0 → S1.ah = 0) (cl : (∀ y p, S.wr y p = fun _ => false) → ∀ y p, S1.wr y p = fun _ => false) (mono : ∀ y, S.bd y = true → S1.bd y = true) (only : ∀ y, S1.bd y = true → S.bd y = true ∨ S.wk y = true) (wrs : ∀ y ∈ st, S1.wr y = S.wr y) (new : ∃ x, x ∉ st ∧ st1 = st.set j x ∧ ∀ p : Int, 0 ≤ p → p < G.p → S1.wr x p = fun _ => false)
  | full (F1 : Nat → Prop) (S1 : CS) (K1 : Int → BK) (nu1 : Int) (hr : r = 6) (hl : LS W G B F1 (N + 300 * G.b.toNat) S1 K1 M (c + 1) d s g st nu1 w') (q : SDoes F s g w F1 w')
      (wk : S1.wk = S.wk) (ah : S.ah = 0 → S1.ah = 0) (cl : (∀ y p, S.wr y p = fun _ => false) → ∀ y p, S1.wr y p = fun _ => false) (mono : ∀ y, S.bd y = true → S1.bd y = true) (only : ∀ y, S1.bd y = true → S.bd y = true ∨ S.wk y = true) (all : ∀ y, 0 ≤ y → y < G.b → y ∉ st → S1.bd y = true)
  | down (F1 : Nat → Prop) (S1 : CS) (K1 : Int → BK) (M1 : Int → Option (List Int)) (nu1 : Int) (hr : r = 70) (hl : CL W G B F1 (N + 300 * G.b.toNat) S1 K1 M1 (c + 1) w') (hm : M1 = M ∨ M1 = updM M j (some D)) (hs : StAt G B F1 (N + 300 * G.b.toNat) S1 d s g st nu1 true w') (q : SDoes F s g w F1 w') (hah : S.ah ≠ 0) (wk : S1.wk = S.wk) (only : ∀ y, S1.bd y = true → S.bd y = true ∨ S.wk y = true)
theorem LS.change (h : LS W G B F N S K M c d s g st nu w) (j : Nat) (hj : j < st.length) (D : List Int) (a : Option Addr) (len cap : Nat) (hr : OffS F s g .u8 w a len cap D) (hD : IsB D) (hC : len ≤ G.C) (hN : N + 300 * G.b.toNat + 700 < 100000000) (hc : c + 1 ≤ 1000000000) :
    Calls Tryz.prog 26 #[.pointer (some ⟨s, 0, none⟩), .int .i64 (j : Int), .slice a len cap] w fun e w' => ∃ r, e = .returned (.int .i64 r) ∧ ChgIs W G B F N S M c d s g st j D w r w' := by
  have hnu := h.num.1
  have hnc := h.nu1
  have hlen := h.len
  refine (stChange_any j D a len cap w h.at_ (by rw [h.cl.lim]; exact Nat.zero_le _) hN h.up K h.cl.inv hr hD hj hC ⟨hnu, by omega⟩).mono ?_
  rintro e w' ⟨r, F1, S1, K1, st1, nu1, dn1, ⟨rfl, h1, q⟩, hres⟩
  refine ⟨r, rfl, ?_⟩
  obtain ⟨hb, hlow⟩ := h.after q
  have hm1 := h.cl.hold.marks h.stok h.rest hres.mono hres.keep
  have hm2 := h.stok.marks hres.mono hres.keep
  have hm3 := h.num.marks hres.mono
  rcases hres.is with ⟨rfl, ⟨hu, rfl, hon⟩, x, ⟨hxs, hg, hwx⟩, rfl, rfl, rfl⟩ | ⟨rfl, ⟨hu, rfl, hon⟩, ⟨rfl, rfl, rfl⟩, hall⟩ | ⟨rfl, ⟨hu, rfl, hah, hon⟩, ⟨rfl, hn1, hn2⟩, x, k, ⟨hxs, hx0, hx1⟩, rfl, hk⟩
  · have hnb := notBest_of hm1 hm2 h.rest hxs
    refine .ok F1 S1 _ _ _ rfl ⟨h1, ⟨h1.chip, h.cl.lim, hres.inv, hm1.put hm3 (Int.le_refl _) hg hnb, h.cl.le.upd (by omega) (by simp only [BK.num]; omega), by have := h.cl.nn; omega, hlow, hb⟩, hu, hm2.put hm3 (Int.le_refl _) hg hxs hj, hm3.put (by omega) (by omega), by omega, fun i hi => ?_, h.lows, h.lowg⟩ (by rw [List.length_set]) q hres.wk hres.ah hres.cl hres.mono (fun y hy => (hon y hy).imp id (fun e => e.1)) hres.wrs ⟨x, hxs, rfl, hwx⟩
    rw [List.length_set] at hi
    rw [updM_ne _ (by omega)]
    exact h.rest i hi
  · refine .full F1 S1 _ _ rfl ⟨h1, ⟨h1.chip, h.cl.lim, hres.inv, hm1, fun y y0 y1 => by have := h.cl.le y y0 y1; omega, by have := h.cl.nn; omega, hlow, hb⟩, hu, hm2, hm3, by omega, h.rest, h.lows, h.lowg⟩ q hres.wk hres.ah hres.cl hres.mono (fun y hy => (hon y hy).imp id (fun e => e.1)) hall
  · have hnb := notBest_of hm1 hm2 h.rest hxs
    have hle : NumLe G.b (updK K x k) (c + 1) := by
      refine h.cl.le.upd (by omega) ?_
      rcases hk with rfl | rfl | rfl | ⟨rfl, _⟩
      · have := h.cl.le x hx0 hx1; omega
      · simp only [BK.num]; have := h.cl.nn; omega
      · simp only [BK.num]; omega
      · simp only [BK.num]; omega
    by_cases hcp : k = .copy (j : Int) D nu ∧ GoodB G.b S1.bd x
    · obtain ⟨rfl, hg⟩ := hcp
      exact .down F1 S1 _ _ _ rfl ⟨h1.chip, h.cl.lim, hres.inv, hm1.put hm3 (Int.le_refl _) hg hnb, hle, by have := h.cl.nn; omega, hlow, hb⟩ (.inr rfl) h1 q hah hres.wk (fun y hy => (hon y hy).imp id (fun e => e.1))
    · refine .down F1 S1 _ _ _ rfl ⟨h1.chip, h.cl.lim, hres.inv, hm1.turn hnb (turn_updK (fun _ _ => rfl) id (fun hbx => ?_)), hle, by have := h.cl.nn; omega, hlow, hb⟩ (.inl rfl) h1 q hah hres.wk (fun y hy => (hon y hy).imp id (fun e => e.1))
      rcases hk with rfl | rfl | rfl | hk
      · exact .inl rfl
      · exact .inr (fun _ _ _ e => by cases e)
      · exact .inr (fun _ _ _ e => by cases e)
      · exact absurd hk hcp
/-- What Unmap leaves. -/
inductive UnmIs (W : World) (G : Geo) (B : CB) (F : Nat → Prop) (N : Nat) (S : CS) (M : Int → Option (List Int)) (c : Int) (d s g : Nat) (st : List Int) (j : Nat) (w : World) (r : Int) (w' : World) : Prop
  | ok (F1 : Nat → Prop) (S1 : CS) (K1 : Int → BK) (st1 : List Int) (nu1 : Int) (hr : r = 0) (hl : LS W G B F1 (N + 600) S1 K1 (updM M j none) c d s g st1 nu1 w') (hst : st1.length = st.length) (q : SDoes F s g w F1 w')
      (wk : S1.wk = S.wk) (ah : S.ah = 0 → S1.ah = 0) (cl : (∀ y p, S.wr y p = fun _ => false) → ∀ y p, S1.wr y p = fun _ => false) (mono : ∀ y, S.bd y = true → S1.bd y = true) (only : ∀ y, S1.bd y = true → S.bd y = true ∨ S.wk y = true)
  | down (F1 : Nat → Prop) (S1 : CS) (K1 : Int → BK) (M1 : Int → Option (List Int)) (nu1 : Int) (hr : r = 70) (hl : CL W G B F1 (N + 600) S1 K1 M1 c w') (hm : M1 = M ∨ M1 = updM M j none) (hs : StAt G B F1 (N + 600) S1 d s g st nu1 true w') (q : SDoes F s g w F1 w') (hah : S.ah ≠ 0)
theorem updM_same (M : Int → Option (List Int)) (j : Int) (h : M j = none) : updM M j none = M := by
  funext i; unfold updM; split
  · rename_i e; rw [e, h]
  · rfl
theorem LS.unmap (h : LS W G B F N S K M c d s g st nu w) (j : Nat) (hj : j < st.length) (hN : N + 700 < 100000000) :
    Calls Tryz.prog 22 #[.pointer (some ⟨s, 0, none⟩), .int .i64 (j : Int)] w fun e w' => ∃ r, e = .returned (.int .i64 r) ∧ UnmIs W G B F N S M c d s g st j w r w' := by
  rcases h.stands hj with ⟨hm, hn⟩ | ⟨D, n, hm, hb⟩
  · refine (stUnmap_none j w h.at_.sb hj hn).mono ?_
    rintro e w' ⟨rfl, rfl⟩
    refine ⟨0, rfl, .ok F S K st nu rfl ?_ rfl (SDoes.refl _ _ _ _) rfl id id (fun _ h => h) (fun _ h => .inl h)⟩
    rw [updM_same M j hm]
    exact ⟨h.at_.mono (by omega), ⟨h.cl.chip.mono (by omega), h.cl.lim, h.cl.inv, h.cl.hold, h.cl.le, h.cl.nn, h.cl.low, h.cl.bel⟩, h.up, h.stok, h.num, h.nu1, h.rest, h.lows, h.lowg⟩
  · refine (stUnmap_any j w h.at_ hN h.up hj K h.cl.inv M h.cl.hold h.stok h.num h.rest D n hm hb).mono ?_
    rintro e w' ⟨r, F1, S1, K1, st1, dn1, ⟨rfl, h1, q⟩, hres⟩
    refine ⟨r, rfl, ?_⟩
    obtain ⟨hbl, hlow⟩ := h.after q
    have hle : NumLe G.b K1 c := fun y y0 y1 => by
      rcases hres.ks y with e | e
      · rw [e]; exact h.cl.le y y0 y1
      · rw [e]; exact h.cl.nn
    rcases hres.is with ⟨rfl, ⟨hu, rfl, hon⟩, rfl, hH, hS⟩ | ⟨rfl, ⟨hu, rfl, hah⟩, rfl, hH⟩
    · refine .ok F1 S1 K1 _ nu rfl ⟨h1, ⟨h1.chip, h.cl.lim, hres.inv, hH, hle, h.cl.nn, hlow, hbl⟩, hu, hS, hres.num, h.nu1, fun i hi => ?_, h.lows, h.lowg⟩ (by rw [List.length_set]) q hres.wk hres.ah hres.cl hres.mono hon
      rw [List.length_set] at hi
      rw [updM_ne _ (by omega)]
      exact h.rest i hi
    · rcases hH with hH | hH
      · exact .down F1 S1 K1 _ nu rfl ⟨h1.chip, h.cl.lim, hres.inv, hH, hle, h.cl.nn, hlow, hbl⟩ (.inl rfl) h1 q hah
      · exact .down F1 S1 K1 _ nu rfl ⟨h1.chip, h.cl.lim, hres.inv, hH, hle, h.cl.nn, hlow, hbl⟩ (.inr rfl) h1 q hah
/-- Open. -/
theorem CL.opened (h : CL W G B F N S K M c w) (hup : S.up = true) (db : DBox w d B.c) (hd : ¬ F d) (L : Nat) (h1 : 1 ≤ L) (hL : L ≤ 64) (hr : ∀ i, (L : Int) ≤ i → M i = none) :
    Calls Tryz.prog 20 #[.pointer (some ⟨d, 0, none⟩), .int .i64 (L : Int)] w fun e w' => ∃ s g st nu, (w.heap.size ≤ s ∧ w.heap.size ≤ g ∧ st.length = L) ∧ e = .returned (.tuple #[.pointer (some ⟨s, 0, none⟩), .int .i64 0]) ∧ LS W G B F N S K M c d s g st nu w' ∧ Below w.heap.size w w' := by
  refine (open_yes L h1 hL w db h.chip hd hup K h.inv).mono ?_
  rintro e w' ⟨s, g, ⟨hs, hg⟩, rfl, hst, q⟩
  have hb := h.bel.size
  exact ⟨s, g, _, _, ⟨hs, hg, pickL_length _ _⟩, rfl, ⟨hst, h.below q, hup, pick_ok h.hold hup hL, nextS_ok h.inv hup, nextS_le h.le h.nn hup, by rw [pickL_length]; exact hr, by omega, by omega⟩, q⟩
/-- With no power that goes, and a block that is well and stands for none, Change is done. -/
theorem chg_well {j : Nat} {D : List Int} {r : Int} (h : ChgIs W G B F N S M c d s g st j D w r w') (hah : S.ah = 0) (y : Int) (hy : 0 ≤ y ∧ y < G.b) (hs : y ∉ st) (hb : S.bd y = false) (hw : S.wk y = false) : r = 0 := by
  cases h with
  | ok _ _ _ _ _ hr => exact hr
  | full _ _ _ _ _ _ _ _ _ _ _ only all =>
    rcases only y (all y hy.1 hy.2 hs) with e | e
    · rw [hb] at e; cases e
    · rw [hw] at e; cases e
  | down _ _ _ _ _ _ _ _ _ _ hn => exact absurd hah hn
/-- The bytes that a logical block has, are bytes. -/
theorem LS.isB (h : LS W G B F N S K M c d s g st nu w) (j : Nat) (D : List Int) (hm : M j = some D) : IsB D := by
  by_cases hj : j < st.length
  · rcases h.stands hj with ⟨e, _⟩ | ⟨D', n, e, hb⟩
    · rw [hm] at e; cases e
    · rw [hm] at e
      cases e
      have hi := h.cl.inv _ hb.good.1.1 hb.good.1.2
      rw [hb.is] at hi
      exact hi.1.2.1
  · rw [h.rest j (by omega)] at hm; cases hm
/-- A chip whose pages, wrong bits and marks are as they were. -/
theorem CL.moved (h : CL W G B F N S K M c w) (hc : ChipAt G B F' N' S' w') (hpg : S'.pg = S.pg) (hwr : S'.wr = S.wr) (hbd : S'.bd = S.bd) (t : Turned F w w') (f : ∀ x, F' x → F x ∨ w.heap.size ≤ x) : CL W G B F' N' S' K M c w' :=
  ⟨hc, h.lim, fun x x0 x1 => by rw [hpg, hwr]; exact h.inv x x0 x1, by rw [hbd]; exact h.hold, h.le, h.nn, fun x hx => (f x hx).elim (h.low x) (fun e => Nat.le_trans h.bel.size e), h.bel.trans (t.below h.bel.size h.low)⟩
theorem LS.moved (h : LS W G B F N S K M c d s g st nu w) (hs : StAt G B F' N' S' d s g st nu false w') (hpg : S'.pg = S.pg) (hwr : S'.wr = S.wr) (hbd : S'.bd = S.bd) (hup : S'.up = S.up) (t : Turned F w w') (f : ∀ x, F' x → F x ∨ w.heap.size ≤ x) : LS W G B F' N' S' K M c d s g st nu w' :=
  ⟨hs, h.cl.moved hs.chip hpg hwr hbd t f, by rw [hup]; exact h.up, by rw [hbd]; exact h.stok, by rw [hbd]; exact h.num, h.nu1, h.rest, h.lows, h.lowg⟩
theorem LS.arm2 (h : LS W G B F N S K M c d s g st nu w) (x y : Int) (hx : I64 x) (hy : I64 y) :
    Calls Tryz.prog 18 #[.pointer (some ⟨B.c, 0, none⟩), .int .i64 x, .int .i64 y] w fun e w' => (∃ r, e = .returned r) ∧ ∃ S', (S'.bd = S.bd ∧ S'.wk = S.wk ∧ S'.wr = S.wr) ∧ LS W G B F N S' K M c d s g st nu w' ∧ SDoes F s g w F w' := by
  refine (chipArm_any x y hx hy w h.at_.chip).mono ?_
  rintro e w' ⟨hr, hc, t⟩
  obtain ⟨h1, h2⟩ := h.at_.chipTo hc t
  exact ⟨hr, { S with ah := max x 0, ke := y }, ⟨rfl, rfl, rfl⟩, h.moved h1 rfl rfl rfl rfl t (fun _ h => .inl h), h2⟩
theorem CL.arm2 (h : CL W G B F N S K M c w) (x y : Int) (hx : I64 x) (hy : I64 y) :
    Calls Tryz.prog 18 #[.pointer (some ⟨B.c, 0, none⟩), .int .i64 x, .int .i64 y] w fun e w' => (∃ r, e = .returned r) ∧ ∃ S', (S'.bd = S.bd ∧ S'.wk = S.wk ∧ S'.wr = S.wr) ∧ CL W G B F N S' K M c w' ∧ Turned F w w' := by
  refine (chipArm_any x y hx hy w h.chip).mono ?_
  rintro e w' ⟨hr, hc, t⟩
  exact ⟨hr, { S with ah := max x 0, ke := y }, ⟨rfl, rfl, rfl⟩, h.moved hc rfl rfl rfl t (fun _ h => .inl h), t⟩
theorem LS.arm (h : LS W G B F N S K M c d s g st nu w) (x y : Int) (hx : I64 x) (hy : I64 y) :
    Calls Tryz.prog 18 #[.pointer (some ⟨B.c, 0, none⟩), .int .i64 x, .int .i64 y] w fun e w' => (∃ r, e = .returned r) ∧ ∃ S', LS W G B F N S' K M c d s g st nu w' ∧ SDoes F s g w F w' := by
  refine (h.arm2 x y hx hy).mono ?_
  rintro e w' ⟨hr, S', _, h1, h2⟩
  exact ⟨hr, S', h1, h2⟩
theorem CL.arm (h : CL W G B F N S K M c w) (x y : Int) (hx : I64 x) (hy : I64 y) :
    Calls Tryz.prog 18 #[.pointer (some ⟨B.c, 0, none⟩), .int .i64 x, .int .i64 y] w fun e w' => (∃ r, e = .returned r) ∧ ∃ S', CL W G B F N S' K M c w' ∧ Turned F w w' := by
  refine (h.arm2 x y hx hy).mono ?_
  rintro e w' ⟨hr, S', _, h1, h2⟩
  exact ⟨hr, S', h1, h2⟩
theorem LS.flip (h : LS W G B F N S K M c d s g st nu w) (x y : Int) (hx : I64 x) (hy : I64 y) (a : Option Addr) (len cap : Nat) (ps : List Int) (hr : Row .i64 w a len cap ps) (hdis : 0 < len → ∀ x, a = some x → ¬ F x.block) (hps : ps.length ≤ G.f ∧ ∀ q ∈ ps, 0 ≤ q ∧ q < ((8 * G.n + 13 * G.f : Nat) : Int)) (hN : N < 100000000) :
    Calls Tryz.prog 45 #[.pointer (some ⟨B.c, 0, none⟩), .int .i64 x, .int .i64 y, .slice a len cap] w fun e w' => (∃ r, e = .returned r) ∧ ∃ F', LS W G B F' (N + 2) (S.doFlip G x y ps) K M c d s g st nu w' ∧ SDoes F s g w F' w' := by
  have gk := G.ok
  have hn := gk.hn
  have hf := gk.hf
  have hl := hr.hlen
  refine (chipFlip_any x y hx hy a len cap ps w h.at_.chip hr hdis (fun q hq => by have := hps.2 q hq; exact (show I64 q from ⟨by omega, by omega⟩).wf) (by omega) hN h.cl.lim).mono ?_
  rintro e w' ⟨hr', dd⟩
  obtain ⟨F', hst, hsd, t⟩ := h.at_.does dd
  refine ⟨hr', F', ?_, hsd⟩
  have hbd : (S.doFlip G x y ps).bd = S.bd := by unfold CS.doFlip; split <;> rfl
  have hup : (S.doFlip G x y ps).up = S.up := by unfold CS.doFlip; split <;> rfl
  have hpg : (S.doFlip G x y ps).pg = S.pg := by unfold CS.doFlip; split <;> rfl
  have hinv : CInv G (S.doFlip G x y ps) K := fun z z0 z1 => by
    rw [hpg]
    refine (h.cl.inv z z0 z1).flip fun p hp => ?_
    unfold CS.doFlip
    split
    · show FewW G ((S.flipped x y (flipW G.L ps ps.length)).wr z p)
      unfold CS.flipped
      dsimp only
      split
      · exact fewW_flip G hps.1 hps.2
      · exact hp
    · exact hp
  exact ⟨hst, ⟨hst.chip, h.cl.lim, hinv, by rw [hbd]; exact h.cl.hold, h.cl.le, h.cl.nn, fun x hx => (hsd.nw x hx).elim (h.cl.low x) (fun e => Nat.le_trans h.bel.size e), h.bel.trans (t.below h.bel.size h.cl.low)⟩, by rw [hup]; exact h.up, by rw [hbd]; exact h.stok, by rw [hbd]; exact h.num, h.nu1, h.rest, h.lows, h.lowg⟩
end
end Go.Proofs.YtgamakejaknagaaGreat
