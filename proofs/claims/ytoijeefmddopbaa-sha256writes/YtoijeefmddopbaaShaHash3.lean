/-
  The code of layer 13 (sha256): reckon, Once.Do, the count, New.
-/
import Derived.Test.YtoijeefmddopbaaShaHash2
namespace Go.Proofs.Ytoijeefmddopbaa
open Go.RowKit
set_option linter.unusedVariables false
set_option maxRecDepth 8192

theorem wpList_storeM {P : Program} {ops : Array Oper} {rest : List Oper} {o : Oper} {a : Act} {w : World} {Q : Exit → Act → World → Prop} (hgd : o.guard = none) (ty : TypeId) (x y : Operand) (ho : o.op = .store ty x y)
    (b p : Nat) {k : IntKind} (ys : List Int) (hx : a.eval x = .pointer (some ⟨b, p, none⟩)) (hy : a.eval y = .agg (ys.map (Value.int k)).toArray) {m : Nat} (ht : w.there b p m) (hi : (P.info? ty).map (·.size) = some m) (hl : ys.length = m)
    (h : wpList P ops Q rest (a.put o.dst undef) (w.setCells b p (ys.map (Value.int k)))) : wpList P ops Q (o :: rest) a w :=
  wpList_store_mid hgd ty x y ho b p _ hx hy (by simpa [hl] using ht) (by rw [hi]; simp [hl]) (ints_one k ys) (by simpa using h)
theorem wp_storeM {P : Program} {o : Oper} {a : Act} {w : World} {K : Act → World → Prop} {Q : Exit → Act → World → Prop} (ty : TypeId) (x y : Operand) (ho : o.op = .store ty x y)
    (b p : Nat) {k : IntKind} (ys : List Int) (hx : a.eval x = .pointer (some ⟨b, p, none⟩)) (hy : a.eval y = .agg (ys.map (Value.int k)).toArray) {m : Nat} (ht : w.there b p m) (hi : (P.info? ty).map (·.size) = some m) (hl : ys.length = m)
    (h : K (a.put o.dst undef) (w.setCells b p (ys.map (Value.int k)))) : o.wp P a w K Q :=
  wp_store_mid ty x y ho b p _ hx hy (by simpa [hl] using ht) (by rw [hi]; simp [hl]) (ints_one k ys) (by simpa using h)
theorem exec_loadM {P : Program} {a : Act} {o : Oper} {w : World} (ty : TypeId) (x : Operand) (ho : o.op = .load ty x) (b p : Nat) (hx : a.eval x = .pointer (some ⟨b, p, none⟩)) {k : IntKind} {zs : List Int} (hA : w.rangeAt b p (zs.map (Value.int k))) {n : Nat} {e : TypeId}
    (hu : P.underlying ty = some (.array n e)) {m : Nat} (hi : (P.info? ty).map (·.size) = some m) (hl : zs.length = m) : (execOp a.eval o).run P w = .ok (.value (.agg (zs.map (Value.int k)).toArray)) w := by
  unfold execOp
  simp only [ho, hx, Instr.loadAt, Instr.sureAddr, Sem.run_bind, Sem.run_pure, Result.andThen_ok, run_loadVar_mid w b p ty _ _ hA hu rfl (show (P.info? ty).map (·.size) = some (zs.map (Value.int k)).length by rw [hi]; simp [hl])]
theorem wpList_loadM {P : Program} {ops : Array Oper} {rest : List Oper} {o : Oper} {a : Act} {w : World} {Q : Exit → Act → World → Prop} (hgd : o.guard = none) (ty : TypeId) (x : Operand) (ho : o.op = .load ty x)
    (b p : Nat) (hx : a.eval x = .pointer (some ⟨b, p, none⟩)) {k : IntKind} {zs : List Int} (hA : w.rangeAt b p (zs.map (Value.int k))) {n : Nat} {e : TypeId} (hu : P.underlying ty = some (.array n e)) {m : Nat} (hi : (P.info? ty).map (·.size) = some m) (hl : zs.length = m)
    (h : wpList P ops Q rest (a.put o.dst (.agg (zs.map (Value.int k)).toArray)) w) : wpList P ops Q (o :: rest) a w :=
  wpList_load_mid hgd ty x ho b p hx _ _ hA hu rfl (by rw [hi]; simp [hl]) h

theorem SL_length : SL.length = 8 := by decide +kernel
set_option maxHeartbeats 800000 in
theorem reckon_gen (KX SX : List Nat) (hKX : KX.length = 64) (hSX : SX.length = 8) (hR : ∀ w, Calls Try.prog 14 #[] w fun e w' => e = .returned (.agg ((nI KX).map (Value.int .u32)).toArray) ∧ Below w.heap.size w w') (hS : ∀ w, Calls Try.prog 13 #[] w fun e w' => e = .returned (.agg ((nI SX).map (Value.int .u32)).toArray) ∧ Below w.heap.size w w')
    (w : World) (h : Nat) (d m : Int) (K s r : List Nat) (n : Nat) (H : HashAt w h d m K s r n) : Calls Try.prog 41 #[.pointer (some ⟨h, 0, none⟩)] w fun e w' => e = .returned (.tuple #[]) ∧ HashAt w' h d m KX SX r n ∧ w.grownBy w' (some h) := by
  have HKX : Hid (KX.length = 64) := hKX
  have HSX : Hid (SX.length = 8) := hSX
  clear hKX hSX
  go_enter Try.func41, Try.ntmps41
  go_wp2_with fail
  refine (hR _).mono ?_
  rintro e w1 ⟨rfl, q1⟩
  have H1 := H.below q1 H.lt
  have g1 : w.grownBy w1 (some h) := turned_below _ q1
  have t1 := there_part H1.th 3 64 (by decide)
  go_wp2_with (refine wpList_storeM rfl 32 _ _ rfl h 3 (nI KX) rfl rfl t1 Try.size32 (by rw [nI_length]; exact HKX.out) ?_)
  have H2 := H1.setK KX HKX.out
  have g2 : w.grownBy _ (some h) := turned_trans g1 (turned_cells w1 h ((nI KX).map (Value.int .u32)) 3)
  generalize w1.setCells h 3 ((nI KX).map (Value.int .u32)) = w2 at *
  clear H1 g1 t1 q1
  refine (hS _).mono ?_
  rintro e w3 ⟨rfl, q3⟩
  have H3 := H2.below q3 H2.lt
  have g3 : w.grownBy w3 (some h) := turned_trans g2 (turned_below _ q3)
  have t3 := there_part H3.th 67 8 (by decide)
  go_wp2_with (refine wpList_storeM rfl 30 _ _ rfl h 67 (nI SX) rfl rfl t3 Try.size30 (by rw [nI_length]; exact HSX.out) ?_)
  have H4 := H3.setS SX HSX.out
  have g4 : w.grownBy _ (some h) := turned_trans g3 (turned_cells w3 h ((nI SX).map (Value.int .u32)) 67)
  go_end0
  exact ⟨rfl, H4, g4⟩
theorem reckon_any (w : World) (h : Nat) (d m : Int) (K s r : List Nat) (n : Nat) (H : HashAt w h d m K s r n) : Calls Try.prog 41 #[.pointer (some ⟨h, 0, none⟩)] w fun e w' => e = .returned (.tuple #[]) ∧ HashAt w' h d m KL SL r n ∧ w.grownBy w' (some h) :=
  reckon_gen KL SL KL_length SL_length rounds_any start_any w h d m K s r n H
theorem boolLoad_any (a : Addr) (d : Int) (w : World) (hc : w.cell? a = some (.int .u32 d)) : Calls Try.prog 53 #[.pointer (some a)] w fun e w' => e = .returned (.bool (d != 0)) ∧ w = w' := by
  have hl := run_call_load (P := Try.prog) Try.func61 (by kernel_rfl) (by kernel_rfl) (by kernel_rfl) .u32 (by kernel_rfl) hc
  go_enter Try.func53, Try.ntmps53
  go_wp2
  go_ret
  exact ⟨rfl, rfl⟩
set_option maxRecDepth 100000 in
set_option maxHeartbeats 1600000 in
theorem slow_any (w : World) (h : Nat) (K s r : List Nat) (n : Nat) (H : HashAt w h 0 0 K s r n) :
    Calls Try.prog 54 #[.pointer (some ⟨h, 0, none⟩), .func (.func 41) #[.pointer (some ⟨h, 0, none⟩)] #[]] w fun e w' => e = .returned (.tuple #[]) ∧ HashAt w' h 1 0 KL SL r n ∧ w.grownBy w' (some h) := by
  have hnot : ∀ (x : Bool) (w : World), (Op.unary .not (.bool x)).run Try.prog w = .ok (.bool (!x)) w := fun _ _ => rfl
  have f0 : ∀ {w : World} {d m : Int} {K s r : List Nat} {n : Nat}, HashAt w h d m K s r n → ∀ j, j < 140 → w.frozen? ⟨h, j, none⟩ = false := fun H j hj => by have := (H.th j hj).2; rwa [Nat.zero_add] at this
  have HF : Hid (∀ {w : World} {d m : Int} {K s r : List Nat} {n : Nat}, HashAt w h d m K s r n → ∀ j, j < 140 → w.frozen? ⟨h, j, none⟩ = false) := f0
  clear f0
  go_enter_defers Try.func54, Try.ntmps54
  go_wp2_with fail
  refine (lock_free ⟨h, 1, none⟩ _ H.c1 (HF.out H 1 (by decide))).mono ?_
  rintro e w1 ⟨rfl, hw1⟩
  have H1 : HashAt w1 h 0 1 K s r n := by rw [hw1]; exact H.set1 1
  have g1 : w.grownBy w1 (some h) := by rw [hw1]; exact turned_cell w h 1 _
  clear hw1
  go_wp2_with fail
  refine (boolLoad_any ⟨h, 0, none⟩ 0 _ H1.c0).mono ?_
  rintro e w2 ⟨rfl, rfl⟩
  go_wp2_with fail
  refine (reckon_any _ h 0 1 K s r n H1).mono ?_
  rintro e w2 ⟨rfl, H2, g2⟩
  go_wp2
  refine leaves_cons (f := 64) (args := #[.pointer (some ⟨h, 0, none⟩), .bool true]) (by simp) (by simp [go_sem]) ?_
  refine (store_deferred ⟨h, 0, none⟩ (.int .u32 0) .returning _ H2.c0 (HF.out H2 0 (by decide))).mono ?_
  rintro e u' w3 ⟨rfl, rfl, hw3⟩
  have H3 : HashAt w3 h 1 1 KL SL r n := by rw [hw3]; exact H2.drew.set0 1
  have g3 : w.grownBy w3 (some h) := by rw [hw3]; exact turned_trans (turned_drew (turned_trans g1 g2)) (turned_cell _ h 0 _)
  clear hw3
  refine leaves_cons (f := 63) (args := #[.pointer (some ⟨h, 1, none⟩)]) (by simp [settle]) (by simp [go_sem]) ?_
  refine (unlock_deferred ⟨h, 1, none⟩ _ _ H3.c1 (HF.out H3 1 (by decide))).mono ?_
  rintro e u' w4 ⟨rfl, rfl, hw4⟩
  have H4 : HashAt w4 h 1 0 KL SL r n := by rw [hw4]; exact H3.set1 0
  have g4 : w.grownBy w4 (some h) := by rw [hw4]; exact turned_trans g3 (turned_cell _ h 1 _)
  simp [Leaves, settle, results, Try.results54]
  exact ⟨H4, g4⟩
set_option maxHeartbeats 800000 in
theorem once_first (w : World) (h : Nat) (K s r : List Nat) (n : Nat) (H : HashAt w h 0 0 K s r n) :
    Calls Try.prog 40 #[.pointer (some ⟨h, 0, none⟩), .func (.func 41) #[.pointer (some ⟨h, 0, none⟩)] #[]] w fun e w' => e = .returned (.tuple #[]) ∧ HashAt w' h 1 0 KL SL r n ∧ w.grownBy w' (some h) := by
  have hnot : ∀ (x : Bool) (w : World), (Op.unary .not (.bool x)).run Try.prog w = .ok (.bool (!x)) w := fun _ _ => rfl
  go_enter Try.func40, Try.ntmps40
  go_wp2_with fail
  refine (boolLoad_any ⟨h, 0, none⟩ 0 _ H.c0).mono ?_
  rintro e w2 ⟨rfl, rfl⟩
  go_wp2_with fail
  refine (slow_any _ h K s r n H).mono ?_
  rintro e w2 ⟨rfl, H2, g2⟩
  go_wp2
  go_end0
  exact ⟨rfl, H2, g2⟩
theorem once_done (w : World) (h : Nat) (fv : Value) (hc : w.cell? ⟨h, 0, none⟩ = some (.int .u32 1)) : Calls Try.prog 40 #[.pointer (some ⟨h, 0, none⟩), fv] w fun e w' => e = .returned (.tuple #[]) ∧ w = w' := by
  have hnot : ∀ (x : Bool) (w : World), (Op.unary .not (.bool x)).run Try.prog w = .ok (.bool (!x)) w := fun _ _ => rfl
  go_enter Try.func40, Try.ntmps40
  go_wp2_with fail
  refine (boolLoad_any ⟨h, 0, none⟩ 1 _ hc).mono ?_
  rintro e w2 ⟨rfl, rfl⟩
  go_wp2
  go_end0
  exact ⟨rfl, rfl⟩
theorem count_add (a : Addr) (n x : Nat) (w : World) (hc : w.cell? a = some (.int .u64 (n : Int))) (hz : w.frozen? a = false) (hb : n + x < 18446744073709551616) :
    Calls Try.prog 42 #[.pointer (some a), .int .u64 (x : Int)] w fun e w' => e = .returned (.int .u64 ((n + x : Nat) : Int)) ∧ w' = w.setCell a (.int .u64 ((n + x : Nat) : Int)) := by
  have hadd := run_call_add (P := Try.prog) Try.func55 (by kernel_rfl) (by kernel_rfl) (by kernel_rfl) .u64 (by kernel_rfl) (y := (x : Int)) (s := ((n + x : Nat) : Int)) hc hz (by
    have e : IntKind.u64.wrap ((n : Int) + (x : Int)) = ((n + x : Nat) : Int) := by rw [IntKind.wrap_u64]; omega
    simp [go_sem, e])
  go_enter Try.func42, Try.ntmps42
  go_wp2
  go_ret
  exact ⟨rfl, rfl⟩
theorem count_load (a : Addr) (n : Nat) (w : World) (hc : w.cell? a = some (.int .u64 (n : Int))) :
    Calls Try.prog 43 #[.pointer (some a)] w fun e w' => e = .returned (.int .u64 (n : Int)) ∧ w = w' := by
  have hl := run_call_load (P := Try.prog) Try.func56 (by kernel_rfl) (by kernel_rfl) (by kernel_rfl) .u64 (by kernel_rfl) hc
  go_enter Try.func43, Try.ntmps43
  go_wp2
  go_ret
  exact ⟨rfl, rfl⟩
end Go.Proofs.Ytoijeefmddopbaa
