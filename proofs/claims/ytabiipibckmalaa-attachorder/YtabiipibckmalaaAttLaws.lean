/-
  Layer 10's laws: the walk of AttachOrder.
-/
import Derived.Test.YtabiipibckmalaaAttAwake
namespace Go.Proofs.Ytabiipibckmalaa
open Go.RowKit
set_option linter.unusedVariables false
set_option maxRecDepth 8192

/-- The greatest number among the first k, 0 if none is above. -/
def mostZ (l : List Fnd) : Nat → Int
  | 0 => 0
  | k + 1 => max (mostZ l k) (l[k]?.getD default).number
theorem mostZ_ge (l : List Fnd) (k : Nat) : 0 ≤ mostZ l k ∧ ∀ i, i < k → (l[i]?.getD default).number ≤ mostZ l k := by
  induction k with
  | zero => exact ⟨Int.le_refl _, fun i hi => by omega⟩
  | succ k ih =>
    refine ⟨by show 0 ≤ max _ _; omega, fun i hi => ?_⟩
    show _ ≤ max (mostZ l k) (l[k]?.getD default).number
    rcases Nat.lt_or_ge i k with h | h
    · have := ih.2 i h; omega
    · have : i = k := by omega
      subst this; omega
theorem mostZ_mem (l : List Fnd) (k : Nat) (h : k ≤ l.length) (hb : ∀ i, i < k → 0 ≤ (l[i]?.getD default).number) (h0 : 0 < k) : ∃ f ∈ l, f.number = mostZ l k := by
  induction k with
  | zero => omega
  | succ k ih =>
    have hk := hb k (by omega)
    have hm := mem_at l k (by omega)
    show ∃ f ∈ l, f.number = max (mostZ l k) (l[k]?.getD default).number
    rcases Nat.eq_zero_or_pos k with e | e
    · subst e
      exact ⟨_, hm, by show _ = max 0 _; omega⟩
    · obtain ⟨f, hf, e1⟩ := ih (by omega) (fun i hi => hb i (by omega)) e
      rcases Int.le_total f.number (l[k]?.getD default).number with h1 | h1
      · exact ⟨_, hm, by omega⟩
      · exact ⟨f, hf, by omega⟩
theorem mostZ_le (l : List Fnd) (k : Nat) (M : Int) (h0 : 0 ≤ M) (h : ∀ i, i < k → (l[i]?.getD default).number ≤ M) : mostZ l k ≤ M := by
  induction k with
  | zero => exact h0
  | succ k ih =>
    have := ih (fun i hi => h i (by omega))
    have := h k (by omega)
    show max _ _ ≤ M
    omega
theorem FRow.drop {w : World} {b off len cap : Nat} {fs : List Fnd} (h : FRow w (some ⟨b, off, none⟩) len cap fs) (B : Nat) (hB : B ≤ len) : FRow w (some ⟨b, off + B * 5, none⟩) (len - B) (cap - B) (fs.drop B) := by
  refine ⟨by simp [h.hlen], by have := h.hcap; omega, by have := h.hmax; omega, by simp, fun h0 => ?_⟩
  obtain ⟨b', off', e, hb, hc⟩ := h.hcell (by omega)
  cases e
  refine ⟨b, off + B * 5, rfl, hb, fun i hi => ?_⟩
  have := hc (B + i) (by omega)
  rw [List.getElem?_drop, show off + B * 5 + i * 5 = off + (B + i) * 5 by omega]
  exact this
theorem FRow.take {w : World} {a : Option Addr} {len cap : Nat} {fs : List Fnd} (h : FRow w a len cap fs) (B : Nat) (hB : B ≤ len) : FRow w a B cap (fs.take B) := by
  refine ⟨by simp [h.hlen]; omega, by have := h.hcap; omega, h.hmax, h.hnil, fun h0 => ?_⟩
  obtain ⟨b, off, e, hb, hc⟩ := h.hcell (by omega)
  refine ⟨b, off, e, hb, fun i hi => ?_⟩
  rw [List.getElem?_take, if_pos hi]
  exact hc i (by omega)
/-- What is appended: the cells of a row that lies there. -/
theorem FRow.news {w : World} {b off len cap : Nat} {fs : List Fnd} (h : FRow w (some ⟨b, off, none⟩) len cap fs) : ∀ j u, (fcells fs)[j]? = some u → w.cell? ((⟨b, off, none⟩ : Addr).add j) = some u := by
  by_cases h0 : 0 < len
  · obtain ⟨b', off', e, hb, hc⟩ := h.hcell h0
    cases e
    exact frow_cells h.hlen hc
  · intro j u hj
    have hz : fs = [] := List.eq_nil_of_length_eq_zero (by rw [h.hlen]; omega)
    rw [hz] at hj
    simp [fcells] at hj
theorem belowN {B : Nat} {w w' : World} (h : Below B w w') (n : Nat) : Below B w (w'.drewN n) := by first | exact h.drewN n | exact ⟨h.os, h.tape, h.output, h.size, h.block⟩
set_option maxHeartbeats 6400000 in
set_option maxRecDepth 100000 in
theorem walk_attachOrder (lebs : Int) (a : Option Addr) (len cap : Nat) (fs : List Fnd) (by_ : Int) (w : World) (hr : FRow w a len cap fs) :
    Calls Try.prog 4 #[.int .i64 lebs, .slice a len cap, .int .i64 by_] w fun e w' => e = .returned (.bool true) ∧ Below w.heap.size w w' := by
  have hm := hr.hmax
  have hcp := hr.hcap
  unfold maxLen at hm
  by_cases hbig : 200 < len
  · have h1 : (200 : Int) < (len : Int) := by omega
    clear hr
    go_enter Try.func4, Try.ntmps4
    go_wp2_with fail
    go_ret
    exact ⟨rfl, Below.refl _ _⟩
  have h1 : ¬ (200 : Int) < (len : Int) := by omega
  by_cases hneg : by_ < 0
  · clear hr
    go_enter Try.func4, Try.ntmps4
    go_wp2_with fail
    go_ret
    exact ⟨rfl, Below.refl _ _⟩
  obtain ⟨B, rfl⟩ := Int.eq_ofNat_of_zero_le (show 0 ≤ by_ by omega)
  by_cases hge : (len : Int) ≤ (B : Int)
  · clear hr
    go_enter Try.func4, Try.ntmps4
    go_wp2_with fail
    go_ret
    exact ⟨rfl, Below.refl _ _⟩
  have hBl : B < len := by omega
  have hn0 : ¬ (B : Int) < 0 := by omega
  have hge2 : ¬ (len : Int) ≤ (B : Int) := hge
  obtain ⟨b, off, rfl, hb0, hc⟩ := hr.hcell (by omega)
  have HC : Hid (∀ i, i < len → FAt w b (off + i * 5) (fs[i]?.getD default)) := hc
  have HR : Hid (FRow w (some ⟨b, off, none⟩) len cap fs) := hr
  have HL : Hid (fs.length = len) := hr.hlen
  clear hc hr hneg hge
  go_enter Try.func4, Try.ntmps4
  go_wp2_with fail
  go_loopw [7, 8] (fun m i wr => ∃ k : Nat, k ≤ len ∧ i = .int .i64 (k : Int) ∧ m = .int .i64 (mostZ fs k) ∧ Hid (∀ j, j < k → 0 ≤ (fs[j]?.getD default).number ∧ (fs[j]?.getD default).number ≤ 1000000000) ∧ Hid (Below w.heap.size w wr)) (fun _ i _ => len - (intOf i).toNat)
  case atStart => exact ⟨0, by omega, rfl, rfl, fun j hj => by omega, Below.refl _ _⟩
  case round =>
    obtain ⟨k, hk, rfl, rfl, HN, Q⟩ := hrel
    by_cases hlt : k < len
    · have hlt' : (k : Int) < (len : Int) := by omega
      obtain ⟨c0, c1, c2, c3, c4⟩ := (HC.out k hlt).below Q.out (Nat.le_refl _)
      by_cases hlo : (fs[k]?.getD default).number < 0
      · generalize fs[k]?.getD default = x at *
        go_wp2_with fail
        go_ret
        exact ⟨rfl, Q.out⟩
      by_cases hhi : 1000000000 < (fs[k]?.getD default).number
      · generalize fs[k]?.getD default = x at *
        go_wp2_with fail
        go_ret
        exact ⟨rfl, Q.out⟩
      have HN2 : Hid (∀ j, j < k + 1 → 0 ≤ (fs[j]?.getD default).number ∧ (fs[j]?.getD default).number ≤ 1000000000) := fun j hj => by
        rcases Nat.lt_or_ge j k with h | h
        · exact HN.out j h
        · have : j = k := by omega
          subst this; omega
      have HM : Hid (mostZ fs (k + 1) = max (mostZ fs k) (fs[k]?.getD default).number) := rfl
      have HCK : Hid (FAt w b (off + k * 5) (fs[k]?.getD default)) := HC.out k hlt
      generalize fs[k]?.getD default = x at *
      generalize mostZ fs k = m at *
      rcases (show m < x.number ∨ x.number ≤ m by omega) with hmn | hmn
      · obtain ⟨wo, hwo⟩ : ∃ y, y = wr := ⟨_, rfl⟩
        subst hwo
        have HM2 : Hid (mostZ fs (k + 1) = x.number) := by show _ = _; rw [HM.out]; omega
        go_wp2_with fail
        clear c0 c1 c2 c3 c4
        go_loopw [9] (fun i wr => ∃ j : Nat, j ≤ k ∧ i = .int .i64 (j : Int) ∧ Hid (Below w.heap.size w wr)) (fun i _ => k - (intOf i).toNat)
        case atStart => exact ⟨0, by omega, rfl, Q⟩
        case round =>
          obtain ⟨j, hj, rfl, Q2⟩ := hrel
          by_cases hjk : j < k
          · have hjk' : (j : Int) < (k : Int) := by omega
            have hjl : (j : Int) < (len : Int) := by omega
            obtain ⟨c0, c1, c2, c3, c4⟩ := HCK.out.below Q2.out (Nat.le_refl _)
            obtain ⟨d0, d1, d2, d3, d4⟩ := (HC.out j (by omega)).below Q2.out (Nat.le_refl _)
            generalize fs[j]?.getD default = y at *
            clear c1 c2 c3 c4 d1 d2 d3 d4
            by_cases heq : y.block = x.block
            · go_wp2_with fail
              go_quiet (fail)
              go_wp2_with fail
              go_ret
              exact ⟨rfl, belowN Q2.out _⟩
            · go_wp2_with fail
              go_quiet (fail)
              go_wp2_with fail
              go_roundw
              case rel => exact ⟨j + 1, by omega, by go_num, belowN Q2.out _⟩
              case measure => simp [intOf]; omega
          · obtain rfl : j = k := by omega
            go_wp2_with fail
            go_roundw
            case rel => exact ⟨j + 1, by omega, by go_num, by rw [HM2.out], HN2, Q2⟩
            case measure => simp [intOf]; omega
      · obtain ⟨wo, hwo⟩ : ∃ y, y = wr := ⟨_, rfl⟩
        subst hwo
        have HM2 : Hid (mostZ fs (k + 1) = m) := by show _ = _; rw [HM.out]; omega
        go_wp2_with fail
        clear c0 c1 c2 c3 c4
        go_loopw [9] (fun i wr => ∃ j : Nat, j ≤ k ∧ i = .int .i64 (j : Int) ∧ Hid (Below w.heap.size w wr)) (fun i _ => k - (intOf i).toNat)
        case atStart => exact ⟨0, by omega, rfl, Q⟩
        case round =>
          obtain ⟨j, hj, rfl, Q2⟩ := hrel
          by_cases hjk : j < k
          · have hjk' : (j : Int) < (k : Int) := by omega
            have hjl : (j : Int) < (len : Int) := by omega
            obtain ⟨c0, c1, c2, c3, c4⟩ := HCK.out.below Q2.out (Nat.le_refl _)
            obtain ⟨d0, d1, d2, d3, d4⟩ := (HC.out j (by omega)).below Q2.out (Nat.le_refl _)
            generalize fs[j]?.getD default = y at *
            clear c1 c2 c3 c4 d1 d2 d3 d4
            by_cases heq : y.block = x.block
            · go_wp2_with fail
              go_quiet (fail)
              go_wp2_with fail
              go_ret
              exact ⟨rfl, belowN Q2.out _⟩
            · go_wp2_with fail
              go_quiet (fail)
              go_wp2_with fail
              go_roundw
              case rel => exact ⟨j + 1, by omega, by go_num, belowN Q2.out _⟩
              case measure => simp [intOf]; omega
          · obtain rfl : j = k := by omega
            go_wp2_with fail
            go_roundw
            case rel => exact ⟨j + 1, by omega, by go_num, by rw [HM2.out], HN2, Q2⟩
            case measure => simp [intOf]; omega
    · obtain rfl : k = len := by omega
      have HR2 : Hid (FRow wr (some ⟨b, off, none⟩) k cap fs) := HR.out.below Q.out (Nat.le_refl _)
      have hM1 : 0 ≤ mostZ fs k ∧ mostZ fs k ≤ 1000000000 := ⟨(mostZ_ge fs k).1, mostZ_le fs k _ (by omega) fun i hi => (HN.out i hi).2⟩
      have HNB : Hid (∀ f ∈ fs, 0 ≤ f.number ∧ f.number ≤ mostZ fs k) := fun f hf => by
        obtain ⟨i, hi, rfl⟩ := List.mem_iff_getElem.1 hf
        have h1 := HN.out i (by have := HL.out; omega)
        have h2 := (mostZ_ge fs k).2 i (by have := HL.out; omega)
        rw [List.getElem?_eq_getElem hi] at h1 h2
        exact ⟨h1.1, h2⟩
      have HME : Hid (∃ f ∈ fs, f.number = mostZ fs k) := mostZ_mem fs k (by have := HL.out; omega) (fun i hi => (HN.out i hi).1) (by omega)
      clear HN HC
      generalize mostZ fs k = M at *
      have hq0 := Q.out.size
      have hkB : (B : Int) ≤ (k : Int) := by omega
      have hkc : (k : Int) ≤ (cap : Int) := by omega
      obtain ⟨ip, hip, hip'⟩ : ∃ i, Try.prog.info? 26 = some i ∧ (i.zero, i.size, i.bytes) = (some (.agg #[.int .i64 0, .int .i64 0, .int .i64 0, .int .i64 0, .bool false]), 5, 40) := by
        have := infoFound
        rw [Option.map_eq_some_iff] at this
        exact this
      simp only [Prod.mk.injEq] at hip'
      obtain ⟨hip0, hip1, hip2⟩ := hip'
      have hl1 : (fcells (fs.drop B)).length = (k - B) * 5 := by rw [fcells_len, List.length_drop, HL.out]
      have hl2 : (fcells (fs.take B)).length = B * 5 := by rw [fcells_len, List.length_take, HL.out, Nat.min_eq_left (by omega)]
      have hl3 : (fcells fs).length = k * 5 := by rw [fcells_len, HL.out]
      have rd := HR2.out.drop B (by omega)
      go_wp2_with (at_builtin; refine wpList_append_own _ rfl _ _ 22 rfl w.heap.size 26 ip (.agg #[.int .i64 0, .int .i64 0, .int .i64 0, .int .i64 0, .bool false]) 5 40 Try.underlying22 hip hip0 hip1 hip2 rfl (by decide) (.slice none 0 0) 0 [] rfl (World.ownsRow_nil _ _ _ _) ⟨b, off + B * 5, none⟩ (k - B) (cap - B) (fcells (fs.drop B)) rfl hl1 rd.news (fcells_one _) ?c3 ?c4 ?c5 ?_)
      case c3 => unfold maxLen; omega
      case c4 => omega
      case c5 => first | omega | (simp; omega)
      intro v1 w1 own1 grow1 _
      have q1 : Below w.heap.size w w1 := Q.out.grown grow1 hq0 (by simp [Value.ownBlock])
      replace own1 : w1.ownsRow w.heap.size 26 5 v1 (k - B) (fcells (fs.drop B)) := by simpa using own1
      clear rd grow1 hl1
      have rt := (HR.out.below q1 (Nat.le_refl _)).take B (by omega)
      have hs1 := q1.size
      go_wp2_with (at_builtin; refine wpList_append_own _ rfl _ _ 22 rfl w.heap.size 26 ip (.agg #[.int .i64 0, .int .i64 0, .int .i64 0, .int .i64 0, .bool false]) 5 40 Try.underlying22 hip hip0 hip1 hip2 rfl (by decide) v1 (k - B) (fcells (fs.drop B)) rfl own1 ⟨b, off, none⟩ B cap (fcells (fs.take B)) rfl hl2 rt.news (fcells_one _) ?c3 ?c4 ?c5 ?_)
      case c3 => unfold maxLen; omega
      case c4 => omega
      case c5 => first | omega | (simp; omega)
      intro v2 w2 own2 grow2 _
      have q2 : Below w.heap.size w w2 := q1.grown grow2 hs1 (fun i hi => (owns_lt own1 hi).1)
      rw [← fcells_append, show k - B + B = k by omega] at own2
      clear rt grow2 own1 q1 hs1 hl2
      have r0 := HR.out.below q2 (Nat.le_refl _)
      have hs2 := q2.size
      go_wp2_with (at_builtin; refine wpList_append_own _ rfl _ _ 22 rfl w2.heap.size 26 ip (.agg #[.int .i64 0, .int .i64 0, .int .i64 0, .int .i64 0, .bool false]) 5 40 Try.underlying22 hip hip0 hip1 hip2 rfl (by decide) (.slice none 0 0) 0 [] rfl (World.ownsRow_nil _ _ _ _) ⟨b, off, none⟩ k cap (fcells fs) rfl hl3 r0.news (fcells_one _) ?c3 ?c4 ?c5 ?_)
      case c3 => unfold maxLen; omega
      case c4 => omega
      case c5 => first | omega | (simp; omega)
      intro v3 w3 own3 grow3 _
      have q3 : Below w2.heap.size w2 w3 := (Below.refl _ _).grown grow3 (Nat.le_refl _) (by simp [Value.ownBlock])
      replace own3 : w3.ownsRow w2.heap.size 26 5 v3 k (fcells fs) := by simpa using own3
      have own2' := owns_same (w' := w3) own2 (fun c hc => q3.block c (owns_lt own2 hc).2)
      have hs3 := q3.size
      have hv2 : ∀ c, v2.ownBlock = some c → c < w2.heap.size := fun c hc => (owns_lt own2 hc).2
      clear r0 grow3 own2 hl3
      have hwrap : wrap64 (M + 1) = M + 1 := by unfold wrap64; omega
      go_wp2_with (at_builtin; refine wpList_append_own _ rfl _ _ 22 rfl w2.heap.size 26 ip (.agg #[.int .i64 0, .int .i64 0, .int .i64 0, .int .i64 0, .bool false]) 5 40 Try.underlying22 hip hip0 hip1 hip2 rfl (by decide) v3 k (fcells fs) rfl (own3.alloc _) ⟨w3.heap.size, 0, none⟩ 1 1 [.int .i64 999, .int .i64 0, .int .i64 0, .int .i64 (M + 1), .bool false] rfl rfl (cells_new5 w3 (⟨999, 0, 0, M + 1, false⟩ : Fnd) 26) (Fnd.cells_one (⟨999, 0, 0, M + 1, false⟩ : Fnd)) ?c3 ?c4 ?c5 ?_)
      case c3 => unfold maxLen; omega
      case c4 => omega
      case c5 => first | omega | (simp; omega)
      intro v4 w4 own4 grow4 _
      have hv3 : ∀ c, v3.ownBlock = some c → w2.heap.size ≤ c := fun c hc => (owns_lt own3 hc).1
      have q4 : Below w2.heap.size w2 w4 := (q3.alloc (by omega) (.cells #[.int .i64 999, .int .i64 0, .int .i64 0, .int .i64 (M + 1), .bool false] 26)).grown grow4 (by simp; omega) hv3
      have own2 := owns_same (w' := w4) own2' (fun c hc => (q4.block c (hv2 c hc)).trans (q3.block c (hv2 c hc)).symm)
      replace own4 : w4.ownsRow w2.heap.size 26 5 v4 (k + 1) (fcells (fs ++ [(⟨999, 0, 0, M + 1, false⟩ : Fnd)])) := by
        rw [fcells_append]; simpa [fcells, Fnd.cells] using own4
      replace q4 := q2.trans (q4.mono (by omega))
      clear q2 q3 own2' own3 grow4 hv2 hv3 hs2 hs3
      obtain ⟨a5, c5, rfl, r5⟩ := frow_of_owns own2
      obtain ⟨a6, c6, rfl, r6⟩ := frow_of_owns own4
      clear own2 own4
      have r4 := HR.out.below q4 (Nat.le_refl _)
      have E4 : Hid (nextL fs = M + 1) := nextL_is (by intro e; have := HL.out; rw [e] at this; simp at this; omega) HME.out fun f hf => (HNB.out f hf).2
      have E5 : Hid (nextL (fs.drop B ++ fs.take B) = M + 1) := nextL_is (by intro e; have h1 := congrArg List.length e; have h2 := HL.out; simp at h1; omega) (by
        obtain ⟨f, hf, e⟩ := HME.out
        refine ⟨f, ?_, e⟩
        rw [← List.take_append_drop B fs] at hf
        simp only [List.mem_append] at hf ⊢
        exact hf.symm) (fun f hf => (HNB.out f (by
          rw [← List.take_append_drop B fs]
          simp only [List.mem_append] at hf ⊢
          exact hf.symm)).2)
      have E6 : Hid (nextL (fs ++ [(⟨999, 0, 0, M + 1, false⟩ : Fnd)]) = M + 2) := by
        have := nextL_is (l := fs ++ [(⟨999, 0, 0, M + 1, false⟩ : Fnd)]) (v := M + 1) (by simp) ⟨(⟨999, 0, 0, M + 1, false⟩ : Fnd), by simp, rfl⟩ (fun f hf => by
          simp only [List.mem_append, List.mem_singleton] at hf
          rcases hf with hf | rfl
          · have := (HNB.out f hf).2; omega
          · exact Int.le_refl _)
        show _ = _
        rw [this]; omega
      have P5 : Hid (∀ L, pickL L fs = pickL L (fs.drop B ++ fs.take B)) := fun L => pickL_same fun x _ => by
        rw [List.mem_append, Or.comm, ← List.mem_append, List.take_append_drop]
      have P6 : Hid (∀ L, pickL L fs = pickL L (fs ++ [(⟨999, 0, 0, M + 1, false⟩ : Fnd)])) := fun L => pickL_same fun x hx => by
        rw [List.mem_append, List.mem_singleton]
        constructor
        · exact .inl
        · rintro (h | rfl)
          · exact h
          · cases hx
      have N4 : Hid (∀ f ∈ fs, -4611686018427387904 ≤ f.number ∧ f.number ≤ 4611686018427387904) := fun f hf => by have := HNB.out f hf; omega
      have N5 : Hid (∀ f ∈ fs.drop B ++ fs.take B, -4611686018427387904 ≤ f.number ∧ f.number ≤ 4611686018427387904) := fun f hf => N4.out f (by
        rw [← List.take_append_drop B fs]
        simp only [List.mem_append] at hf ⊢
        exact hf.symm)
      have N6 : Hid (∀ f ∈ fs ++ [(⟨999, 0, 0, M + 1, false⟩ : Fnd)], -4611686018427387904 ≤ f.number ∧ f.number ≤ 4611686018427387904) := fun f hf => by
        simp only [List.mem_append, List.mem_singleton] at hf
        rcases hf with hf | rfl
        · exact N4.out f hf
        · simp only; omega
      clear HNB HME Q HR2 hq0
      have HQ4 : Hid _ := q4
      clear q4
      cases hlb : lebsB lebs
      · go_wp2_with fail
        refine (attPick_no lebs _ _ hlb).mono ?_
        rintro e w' ⟨rfl, rfl⟩
        go_wp2_with fail
        refine (attPick_no lebs _ _ hlb).mono ?_
        rintro e w' ⟨rfl, rfl⟩
        go_wp2_with fail
        refine (attPick_no lebs _ _ hlb).mono ?_
        rintro e w' ⟨rfl, rfl⟩
        go_wp2_with fail
        refine (awake10_any _).mono ?_
        rintro e w5 ⟨rfl, q5⟩
        go_wp2_with fail
        go_ret
        exact ⟨rfl, HQ4.out.trans (q5.mono HQ4.out.size)⟩
      · have hl2 : 1 ≤ lebs ∧ lebs ≤ 64 := by unfold lebsB at hlb; exact of_decide_eq_true hlb
        obtain ⟨L, rfl⟩ := Int.eq_ofNat_of_zero_le (show 0 ≤ lebs by omega)
        clear hlb
        go_wp2_with fail
        refine (attPick_yes L (by omega) (by omega) _ k cap fs _ r4 (by omega) N4.out).mono ?_
        rintro e w5 ⟨g5, rfl, p5, q5⟩
        rw [E4.out]
        replace r5 := r5.below q5 (Nat.le_refl _)
        replace r6 := r6.below q5 (Nat.le_refl _)
        have HQ5 : Hid _ := HQ4.out.trans (q5.mono HQ4.out.size)
        clear r4 q5 HQ4
        go_wp2_with fail
        refine (attPick_yes L (by omega) (by omega) _ k c5 _ _ r5 (by omega) N5.out).mono ?_
        rintro e w6 ⟨g6, rfl, p6, q6⟩
        rw [E5.out]
        rw [← P5.out L] at p6
        replace p5 := p5.below q6 (Nat.le_refl _)
        replace r6 := r6.below q6 (Nat.le_refl _)
        have HQ6 : Hid _ := HQ5.out.trans (q6.mono HQ5.out.size)
        clear r5 q6 HQ5
        go_wp2_with fail
        refine (attPick_yes L (by omega) (by omega) _ (k + 1) c6 _ _ r6 (by omega) N6.out).mono ?_
        rintro e w7 ⟨g7, rfl, p7, q7⟩
        rw [E6.out]
        rw [← P6.out L] at p7
        replace p5 := p5.below q7 (Nat.le_refl _)
        replace p6 := p6.below q7 (Nat.le_refl _)
        have HQ7 : Hid _ := HQ6.out.trans (q7.mono HQ6.out.size)
        clear r6 q7 HQ6
        go_wp2_with fail
        refine (awake10_any _).mono ?_
        rintro e w8 ⟨rfl, q8⟩
        replace p5 := p5.below q8 (Nat.le_refl _)
        replace p6 := p6.below q8 (Nat.le_refl _)
        replace p7 := p7.below q8 (Nat.le_refl _)
        have HQ8 : Hid _ := HQ7.out.trans (q8.mono HQ7.out.size)
        clear q8 HQ7
        go_wp2_with fail
        refine (ints_any _ _ L L L L _ _ _ p5 p6).mono ?_
        rintro e w9 ⟨rfl, q9⟩
        rw [show decide (pickL L fs = pickL L fs) = true from decide_eq_true rfl]
        replace p5 := p5.below q9 (Nat.le_refl _)
        replace p7 := p7.below q9 (Nat.le_refl _)
        have HQ9 : Hid _ := HQ8.out.trans (q9.mono HQ8.out.size)
        clear q9 HQ8 p6
        go_wp2_with fail
        refine (ints_any _ _ L L L L _ _ _ p5 p7).mono ?_
        rintro e w10 ⟨rfl, q10⟩
        rw [show decide (pickL L fs = pickL L fs) = true from decide_eq_true rfl]
        have HQ10 : Hid _ := HQ9.out.trans (q10.mono HQ9.out.size)
        clear q10 HQ9 p5 p7
        have hwrap2 : wrap64 (M + 2) = M + 2 := by unfold wrap64; omega
        go_wp2_with fail
        go_ret
        exact ⟨rfl, HQ10.out⟩
end Go.Proofs.Ytabiipibckmalaa
