/-
  The code of layer 11 (store), as it landed: others, walked.
-/
import Derived.Test.YtbafkakhhelcmaaGreatStoreCode9
namespace Go.Proofs.YtbafkakhhelcmaaGreat
open Go.RowKit Go.Maps
set_option linter.unusedVariables false
set_option maxRecDepth 8192

/-- The blocks that hold bytes of j, but for x0. -/
structure OthIs (G : Geo) (S : CS) (K : Int → BK) (st : List Int) (j : Nat) (x0 : Int) (Y : List Int) : Prop where
  mem : ∀ y ∈ Y, GoodB G.b S.bd y ∧ y ∉ st
  all : ∀ y D n, GoodB G.b S.bd y → K y = .copy j D n → y ≠ x0 → y ∈ Y
  len : Y.length ≤ 256
section
variable {G : Geo} {S : CS} {K : Int → BK} {M : Int → Option (List Int)} {st : List Int} {j : Nat} {x0 n : Int} {D : List Int}
theorem oth_stands (hH : Hold G.b S.bd K M) (hup : S.up = true) (hl : st.length ≤ 64) (hj : j < st.length) (hm : M j = some D) (hb : Best G.b S.bd K j x0 D n) : standsL (ofLeb (j : Nat) (fndL G S K)) = x0 := by
  have h := pick_ok (L := st.length) hH hup hl j (by rw [pickL_length]; exact hj)
  have e : (pickL st.length (fndL G S K))[j]?.getD 0 = standsL (ofLeb (j : Nat) (fndL G S K)) := by simp [pickL, hj]
  rw [e] at h
  rcases h with ⟨h1, _⟩ | ⟨D', n', _, hb'⟩
  · rw [hm] at h1; cases h1
  · exact ((hb.one hb').1).symm
theorem oth_is (hs : StOk G.b S.bd K M st) (hup : S.up = true) (hj : j < st.length) (hx : st[j]?.getD 0 = x0) {T : List Fnd} (hT : T.Perm (ofLeb (j : Nat) (fndL G S K))) : OthIs G S K st j x0 (othersL T x0) := by
  have hin : ∀ f ∈ T, ∃ D, GoodB G.b S.bd f.block ∧ K f.block = .copy (j : Nat) D f.number := by
    intro f hf
    have hf' := hT.mem_iff.1 hf
    have hlb := ofLeb_leb _ _ f hf'
    simp only [ofLeb, List.mem_filter, isOf, Bool.and_eq_true] at hf'
    obtain ⟨x, hx, hfo⟩ := (fndL_mem hup).1 hf'.1
    obtain ⟨D, hD⟩ := foundOf_whole hfo hf'.2.1
    rw [(foundOf_block hfo).1]
    exact ⟨D, hx, by rw [hD, hlb]⟩
  refine ⟨fun y hy => ?_, fun y D n hy hk hne => ?_, ?_⟩
  · unfold othersL at hy
    rw [List.mem_map] at hy
    obtain ⟨f, hf, rfl⟩ := hy
    rw [List.mem_filter] at hf
    have hne := of_decide_eq_true hf.2
    obtain ⟨D, hg, hk⟩ := hin f hf.1
    refine ⟨hg, fun hst => ?_⟩
    obtain ⟨i, hi, e⟩ := List.mem_iff_getElem.1 hst
    have e' : st[i]?.getD 0 = f.block := by rw [List.getElem?_eq_getElem hi]; exact e
    rcases hs i hi with ⟨_, h1⟩ | ⟨D', n', _, hb⟩
    · have := hg.1.1; omega
    · rw [e'] at hb
      have := hk.symm.trans hb.is
      simp only [BK.copy.injEq] at this
      have hij : j = i := by omega
      subst hij
      exact hne (by rw [← hx]; exact e'.symm)
  · unfold othersL
    rw [List.mem_map]
    refine ⟨⟨y, (j : Nat), (D.length : Nat), n, true⟩, ?_, rfl⟩
    rw [List.mem_filter]
    refine ⟨hT.mem_iff.2 ?_, decide_eq_true hne⟩
    simp only [ofLeb, List.mem_filter, isOf]
    exact ⟨(fndL_mem hup).2 ⟨y, hy, by rw [hk]; rfl⟩, by simp⟩
  · have h1 := othersL_le T x0
    have h2 := hT.length_eq
    have h3 : (ofLeb (j : Nat) (fndL G S K)).length ≤ (fndL G S K).length := List.length_filter_le _ _
    have h4 := fndL_len G S K
    omega
theorem oth_del {Y : List Int} (h : OthIs G S K st j x0 Y) : ∀ y ∈ Y, delB st y = false := fun y hy => by
  obtain ⟨h1, h2⟩ := h.mem y hy
  unfold delB
  rw [decide_eq_false (by have := h1.1.1; omega), decide_eq_false h2]
  rfl
end
section
variable {G : Geo} {B : CB} {F : Nat → Prop} {N : Nat} {S : CS} {d s g : Nat} {st : List Int} {nu : Int} {dn : Bool}
set_option maxHeartbeats 3200000 in
theorem others_yes (j : Nat) (w : World) (h : StAt G B F N S d s g st nu dn w) (hup : S.up = true) (hj : j < st.length) (K : Int → BK) (hK : CInv G S K) (M : Int → Option (List Int)) (hH : Hold G.b S.bd K M) (hs : StOk G.b S.bd K M st) (D : List Int) (n : Int) (hm : M j = some D) (hb : Best G.b S.bd K j (st[j]?.getD 0) D n) :
    Calls Tryz.prog 52 #[.pointer (some ⟨s, 0, none⟩), .int .i64 (j : Int)] w fun e w' => ∃ v Y, (e = .returned (.tuple #[v, .int .i64 0]) ∧ OthIs G S K st j (st[j]?.getD 0) Y) ∧ w'.ownsRow (w.heap.size + 1) 3 1 v Y.length (Y.map (Value.int .i64)) ∧ Below w.heap.size w w' := by
  have hls := h.sb.len
  have hlen := fndL_len G S K
  have hnum := fndL_num hK hup
  have hstn := oth_stands hH hup hls.2 hj hm hb
  have HOI : Hid (∀ T : List Fnd, T.Perm (ofLeb (j : Nat) (fndL G S K)) → OthIs G S K st j (st[j]?.getD 0) (othersL T (st[j]?.getD 0))) := fun T hT => oth_is hs hup hj rfl hT
  have HXD : Hid (delB st (st[j]?.getD 0) = true) := by show _ = _; unfold delB; rw [decide_eq_true (mem_getD st j hj), Bool.or_true]
  have q0 := below_one w (.cells #[.pointer (some ⟨s, 0, none⟩)] 33)
  have cb := (new_cell1 w (.pointer (some ⟨s, 0, none⟩)) 33).1
  have hs0 : (w.alloc (.cells #[.pointer (some ⟨s, 0, none⟩)] 33)).heap.size = w.heap.size + 1 := by simp
  have hslt := h.sb.slt
  have hgw := h.sb.glt
  replace h := h.below q0
  have hscan := scan_yes (G := G) _ h.db h.chip hup (fun x => foundOf x (K x)) (fun x hx o' ho => by
    obtain ⟨i, rfl, hi, _, hbd⟩ := goodTo_mem hx
    exact look_is ⟨by omega, by omega⟩ hup hbd (hK i (by omega) (by omega)) ho)
  clear hK hH hs hm hb
  change Calls Tryz.prog 59 #[.pointer (some ⟨d, 0, none⟩)] _ fun e w' => ∃ v, e = .returned (.tuple #[v, .int .i64 0]) ∧ w'.ownsRow _ 124 5 v (fndL G S K).length (fcells (fndL G S K)) ∧ Below _ _ w' at hscan
  have hpk : (pickL st.length (fndL G S K))[j]?.getD 0 = st[j]?.getD 0 := by rw [← hstn]; simp [pickL, hj]
  have hpl := pickL_length st.length (fndL G S K)
  generalize fndL G S K = fs at *
  go_enter Tryz.func52, Tryz.ntmps52
  have c0 := h.sb.c0
  go_wp2_with fail
  generalize w.alloc (.cells #[.pointer (some ⟨s, 0, none⟩)] 33) = w0 at *
  refine hscan.mono ?_
  rintro e w1 ⟨v1, rfl, own1, q1⟩
  clear hscan c0
  obtain ⟨a1, cap1, rfl, fr1⟩ := frow_of_owns own1
  clear own1
  replace h := h.below q1
  replace cb : w1.cell? ⟨w.heap.size, 0, none⟩ = some (.pointer (some ⟨s, 0, none⟩)) := by rw [q1.cell (lt_of_cell cb)]; exact cb
  have Q1 : Hid (Below w.heap.size w w1) := btrans q0 q1
  have hsz1 := q1.size
  clear q0 q1
  go_wp2_with fail
  refine (stLebs_any w1 h.sb).mono ?_
  rintro e w1' ⟨rfl, rfl⟩
  have hstl := attStale_yes st.length hls.1 hls.2 a1 fs.length cap1 fs w1 fr1 (by omega)
  go_wp2_with fail
  refine hstl.mono ?_
  rintro e w2 ⟨gS, DD, X, cs, rfl, hSI, hIR, hgS, hgD, q2⟩
  clear hstl
  replace h := h.below q2
  replace fr1 := fr1.below q2 (Nat.le_refl _)
  replace cb : w2.cell? ⟨w.heap.size, 0, none⟩ = some (.pointer (some ⟨s, 0, none⟩)) := by rw [q2.cell (lt_of_cell cb)]; exact cb
  have Q2 : Hid (Below w.heap.size w w2) := btrans Q1.out q2
  have hsz2 := q2.size
  clear q2 Q1
  go_wp2_with fail
  refine (stLebs_any w2 h.sb).mono ?_
  rintro e w2' ⟨rfl, rfl⟩
  have hpi := attPick_own st.length hls.1 hls.2 a1 fs.length cap1 fs w2 fr1 (by omega) hnum
  go_wp2_with fail
  refine hpi.mono ?_
  rintro e w3 ⟨gP, rfl, rP, oP, q3⟩
  clear hpi fr1 hnum
  have hgP : w2.heap.size ≤ gP := (owns_lt oP rfl).1
  clear oP
  have hIRl := hIR.lt
  have hsz3 := q3.size
  obtain ⟨u, hu, ou⟩ := hIR.own j hj
  have cS : w3.cell? ⟨gS, j, none⟩ = some u := by
    rw [q3.cell (p := ⟨gS, j, none⟩) hIRl, hIR.cell j]; exact hu
  have ou3 := owns_same (w' := w3) ou (fun b hb => q3.block b (owns_lt ou hb).2)
  have hul : ∀ b, u.ownBlock = some b → DD ≤ b ∧ b < w2.heap.size := fun b hb => owns_lt ou hb
  have cP : w3.cell? ⟨gP, j, none⟩ = some (.int .i64 (st[j]?.getD 0)) := by
    obtain ⟨b, off, e, _, hc⟩ := rP.hcell (by omega)
    simp only [Option.some.injEq, Addr.mk.injEq, and_true] at e
    obtain ⟨rfl, rfl⟩ := e
    have := hc j hj
    rw [Nat.zero_add, hpk] at this
    exact this
  replace h := h.below q3
  replace cb : w3.cell? ⟨w.heap.size, 0, none⟩ = some (.pointer (some ⟨s, 0, none⟩)) := by rw [q3.cell (lt_of_cell cb)]; exact cb
  have Q3 : Hid (Below w.heap.size w w3) := btrans Q2.out q3
  obtain ⟨T, hT, _, hXj⟩ := hSI j hj
  rw [hstn] at hXj
  have hOI := HOI.out T hT
  rw [← hXj] at hOI
  have HDL : Hid (∀ y ∈ X j, delB st y = false) := oth_del hOI
  have hYl := hOI.len
  have HOI2 : Hid _ := hOI
  clear hOI HOI hXj hT hSI hIR ou q3 Q2 rP hpk hpl hstn hu
  have ou4 := owns_base ou3 (show w.heap.size + 1 ≤ DD by omega)
  clear ou3
  generalize X j = Y at *
  obtain ⟨ua, uc, rfl, ur⟩ := row_of_owns ou4
  clear ur
  generalize hYn : Y.length = m at *
  generalize hx0 : st[j]?.getD 0 = x0 at *
  have HX0 : Hid (st[j]?.getD 0 = x0) := hx0
  clear hx0
  have HST : Hid _ := h
  have HOU : Hid _ := ou4
  clear h ou4
  obtain ⟨i0, hi0, hz0, hz1, hz2⟩ := info_parts Tryz.info3
  have hmf := Tryz.makeF8
  have hjl : (j : Int) < (st.length : Int) := by omega
  go_wp2_with fail
  refine heldA_open (fun w' => w'.cell? ⟨gS, j, none⟩ = some (.slice ua m uc) ∧ w'.cell? ⟨gP, j, none⟩ = some (.int .i64 x0)) (by kernel_rfl) ?_
  refine held_reads (rs := [0, 1, 2, 3, 4, 5, 6, 7, 10]) (fuel := 5) (by kernel_rfl) (fun c d v a w h => by cases d <;> exact h) (by kernel_rfl) ⟨cS, cP⟩ (fun K hK => ?_)
  refine calm_move _ rfl (by rfl) rfl ?_
  go_simp
  refine calm_move _ rfl (by rfl) rfl ?_
  go_simp
  refine calm_do (.pointer (some ⟨gS, j, none⟩)) rfl (by rfl) (fun w' hw' => ?_) ?_
  · go_simp
  go_simp
  refine calm_do (.slice ua m uc) rfl (by rfl) (fun w' hw' => ?_) ?_
  · obtain ⟨h0, h1⟩ := hw'
    go_simp
  go_simp
  refine calm_move _ rfl (by rfl) rfl ?_
  go_simp
  refine calm_move _ rfl (by rfl) rfl ?_
  go_simp
  refine calm_do (.pointer (some ⟨gP, j, none⟩)) rfl (by rfl) (fun w' hw' => ?_) ?_
  · go_simp
  go_simp
  refine calm_do (.int .i64 x0) rfl (by rfl) (fun w' hw' => ?_) ?_
  · obtain ⟨h0, h1⟩ := hw'
    go_simp
  go_simp
  refine calm_do (.func (.func 70) #[] #[.pointer (some ⟨w.heap.size, 0, none⟩)]) rfl (by rfl) (fun w' hw' => ?_) ?_
  · go_simp
  go_simp
  refine calm_nil (hK.out _ ?_)
  clear hK K
  refine heldA_op (i := 8) (fuel := 4) (by kernel_rfl) rfl (by rfl) (fun K hK => ?_)
  go_simp
  have q4 : Below w3.heap.size w3 (w3.alloc (.cells #[.int .i64 x0] 3)).drew := (below_one w3 _).drew
  have cn : (w3.alloc (.cells #[.int .i64 x0] 3)).drew.cell? ⟨w3.heap.size, 0, none⟩ = some (.int .i64 x0) := (new_cell1 w3 (.int .i64 x0) 3).1
  have hsz4 : (w3.alloc (.cells #[.int .i64 x0] 3)).drew.heap.size = w3.heap.size + 1 := by show (w3.alloc _).heap.size = _; simp
  have hst4 := StAt.below HST.out q4
  have own4 := owns_same (w' := (w3.alloc (.cells #[.int .i64 x0] 3)).drew) HOU.out (fun b hb => q4.block b (owns_lt HOU.out hb).2)
  have cb4 : (w3.alloc (.cells #[.int .i64 x0] 3)).drew.cell? ⟨w.heap.size, 0, none⟩ = some (.pointer (some ⟨s, 0, none⟩)) := by rw [q4.cell (lt_of_cell cb)]; exact cb
  have cS4 : (w3.alloc (.cells #[.int .i64 x0] 3)).drew.cell? ⟨gS, j, none⟩ = some (.slice ua m uc) := by rw [q4.cell (lt_of_cell cS)]; exact cS
  have cP4 : (w3.alloc (.cells #[.int .i64 x0] 3)).drew.cell? ⟨gP, j, none⟩ = some (.int .i64 x0) := by rw [q4.cell (lt_of_cell cP)]; exact cP
  have Q4 : Hid (Below w.heap.size w (w3.alloc (.cells #[.int .i64 x0] 3)).drew) := btrans Q3.out q4
  refine hK _ _ ⟨cS4, cP4⟩ ?_
  clear hK K q4 cb cS cP Q3 HST HOU
  have hgPlt : gP < (w3.alloc (.cells #[.int .i64 x0] 3)).drew.heap.size := lt_of_cell cP4
  have hs3 : w3.heap.size = w3.heap.size := rfl
  generalize hw4 : (w3.alloc (.cells #[.int .i64 x0] 3)).drew = w4 at *
  clear hw4
  have hulw : ∀ b, (Value.slice ua m uc).ownBlock = some b → w.heap.size + 1 ≤ b ∧ gS < b ∧ b < gP := fun b hb => by
    have := hul b hb
    omega
  have hslt4 := hst4.sb.slt
  have hglt4 := hst4.sb.glt
  refine heldA_op (i := 9) (fuel := 3) (by kernel_rfl) rfl (by rfl) (fun K hK => ?_)
  refine wp_append_lies _ _ _ 24 rfl (w.heap.size + 1) 3 i0 (.int .i64 0) 1 8 Tryz.underlying24 hi0 hz0 hz1 hz2 rfl (by decide) _ m _ rfl own4 ⟨w3.heap.size, 0, none⟩ 1 1 [.int .i64 x0] rfl rfl ?c1 ?c2 (by decide) (by unfold maxLen; omega) (by omega) (by omega) w4.heap.size rfl ?_
  case c1 =>
    intro i v hi
    cases i with
    | zero => simp only [List.getElem?_cons_zero, Option.some.injEq] at hi; subst hi; exact cn
    | succ i => simp at hi
  case c2 =>
    intro v hv
    rw [List.mem_singleton] at hv
    subst hv
    rfl
  intro g1 cap2 w5 own5 grow5 hor hlt5
  rw [show (Y.map (Value.int .i64)) ++ [Value.int .i64 x0] = (Y ++ [x0]).map (Value.int .i64) by simp] at own5
  have hg1 : w.heap.size + 1 ≤ g1 ∧ gS ≠ g1 ∧ gP ≠ g1 := by
    rcases hor with ho | ho
    · have := hulw g1 ho; omega
    · omega
  have hnb : ∀ b, b < w.heap.size + 1 → w5.heap[b]? = w4.heap[b]? := fun b hb => grow5.block b (by omega) (fun e => by have := hulw b e.symm; omega)
  have sb5 := hst4.sb.same (hnb s (by omega)) (hnb g (by omega))
  have cb5 : w5.cell? ⟨w.heap.size, 0, none⟩ = some (.pointer (some ⟨s, 0, none⟩)) := (World.cell?_of_block (hnb w.heap.size (by omega))).trans cb4
  have cS5 : w5.cell? ⟨gS, j, none⟩ = some (.slice ua m uc) := (World.cell?_of_block (grow5.block gS (lt_of_cell cS4) (fun e => by have := hulw gS e.symm; omega))).trans cS4
  have cP5 : w5.cell? ⟨gP, j, none⟩ = some (.int .i64 x0) := (World.cell?_of_block (grow5.block gP (lt_of_cell cP4) (fun e => by have := hulw gP e.symm; omega))).trans cP4
  have Q5 : Hid (Below w.heap.size w w5) := Q4.out.grown grow5 (by omega) (fun b hb => by have := hulw b hb; omega)
  refine hK _ _ ⟨cS5, cP5⟩ ?_
  clear hK K own4 cb4 Q4 grow5 hor hnb hst4 cS4 cP4 cn
  have hdl := delF_last Y x0 (w.heap.size + 1) g1 cap2 (by omega) w.heap.size w5 sb5 cb5 (by rw [hYn]; exact own5) HDL.out HXD.out
  rw [hYn] at hdl
  refine heldA_op (i := 11) (fuel := 2) (by kernel_rfl) rfl (by rfl) (fun K hK => ?_)
  go_simp
  refine hdl.mono ?_
  rintro e w6 ⟨rfl, own6, grow6⟩
  have cS6 : w6.cell? ⟨gS, j, none⟩ = some (.slice ua m uc) := (World.cell?_of_block (grow6.block gS (lt_of_cell cS5) (fun e => by cases e; omega))).trans cS5
  have cP6 : w6.cell? ⟨gP, j, none⟩ = some (.int .i64 x0) := (World.cell?_of_block (grow6.block gP (lt_of_cell cP5) (fun e => by cases e; omega))).trans cP5
  have Q6 : Hid (Below w.heap.size w w6) := Q5.out.grown grow6 Q5.out.size (fun b hb => by cases hb; omega)
  refine hK _ _ ⟨cS6, cP6⟩ ?_
  clear hK K hdl own5 cS5 cP5 Q5 sb5 cb5 grow6
  have HO6 : Hid _ := own6
  clear own6
  refine held_reads (rs := [12, 13]) (fuel := 0) (by kernel_rfl) (fun c d v a w h => by cases d <;> exact h) (by kernel_rfl) ⟨cS6, cP6⟩ (fun K hK => ?_)
  go_simp
  refine calm_assign _ rfl (by rfl) rfl ?_
  go_simp
  refine calm_assign _ rfl (by rfl) rfl ?_
  go_simp
  refine calm_nil (hK.out _ ?_)
  clear hK K cS6 cP6
  refine wpAnyH_done (by kernel_rfl) ?_ _
  go_wp2_with fail
  go_ret2
  refine ⟨_, Y, ⟨rfl, ?_⟩, by rw [hYn]; exact HO6.out, Q6.out⟩
  have e := HX0.out
  rw [List.getElem?_eq_getElem hj] at e
  simp only [Option.getD_some] at e
  first | (rw [e]; exact HOI2.out) | (rw [HX0.out]; exact HOI2.out)
theorem others_down (j : Nat) (w : World) (h : StAt G B F N S d s g st nu dn w) (hup : S.up = false) :
    Calls Tryz.prog 52 #[.pointer (some ⟨s, 0, none⟩), .int .i64 (j : Int)] w fun e w' => e = .returned (.tuple #[.slice none 0 0, .int .i64 70]) ∧ Below w.heap.size w w' := by
  have q0 := below_one w (.cells #[.pointer (some ⟨s, 0, none⟩)] 33)
  replace h := h.below q0
  have hscan := scan_down (G := G) _ h.db h.chip hup
  have c0 := h.sb.c0
  clear h
  go_enter Tryz.func52, Tryz.ntmps52
  go_wp2_with fail
  refine hscan.mono ?_
  rintro e w1 ⟨rfl, q1⟩
  go_wp2_with fail
  go_ret2
  exact ⟨rfl, btrans q0 q1⟩
end
end Go.Proofs.YtbafkakhhelcmaaGreat
