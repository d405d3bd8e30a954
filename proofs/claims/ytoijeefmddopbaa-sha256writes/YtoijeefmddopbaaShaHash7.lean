/-
  The code of layer 13 (sha256): Sum.
-/
import Derived.Test.YtoijeefmddopbaaShaHash6
namespace Go.Proofs.Ytoijeefmddopbaa
open Go.RowKit
set_option linter.unusedVariables false
set_option maxRecDepth 8192

set_option maxHeartbeats 1600000 in
theorem sum_gen (K : List Nat) (S : S8) (hW : ∀ (w : World) (h : Nat) (D z : List Nat) (a : Option Addr) (len cap : Nat), HIs w h K S D → Row .u8 w a len cap (nI z) → (∀ x ∈ z, x < 256) → (0 < len → ∀ ad, a = some ad → ad.block ≠ h) → D.length + len < 1000000000000 →
      Calls Try.prog 24 #[.pointer (some ⟨h, 0, none⟩), .slice a len cap] w fun e w' => e = .returned (.int .i64 0) ∧ OnAt w' h K S (D ++ z) ∧ w.grownBy w' (some h))
    (hS : ∀ (w : World) (h : Nat) (D : List Nat), HIs w h K S D → D.length < 1000000000000 → Calls Try.prog 25 #[.pointer (some ⟨h, 0, none⟩)] w fun e w' => e = .returned (.agg ((nI (sumL K S D)).map (Value.int .u8)).toArray) ∧ OnAt w' h K S D ∧ w.grownBy w' (some h))
    (w : World) (z : List Nat) (a : Option Addr) (len cap : Nat) (hr : Row .u8 w a len cap (nI z)) (hz : ∀ x ∈ z, x < 256) (hb : len < 1000000000) :
    Calls Try.prog 21 #[.slice a len cap] w fun e w' => e = .returned (.agg ((nI (sumL K S z)).map (Value.int .u8)).toArray) ∧ Below w.heap.size w w' := by
  have HLz : Hid (z.length = len) := by have := hr.hlen; rw [nI_length] at this; exact this
  have hS' := fun w h H => hS w h z H (by rw [HLz.out]; omega)
  have HL : Hid ((nI (sumL K S z)).length = 32) := by show _ = _; rw [nI_length]; rfl
  clear hS
  generalize sumL K S z = sm at *
  have A2 := Arr.new w 43 .u8 (nI (List.replicate 32 0)) _ rfl
  have q0 := below_one w (.cells ((nI (List.replicate 32 0)).map (Value.int .u8)).toArray 43)
  have s0 : (w.alloc (.cells ((nI (List.replicate 32 0)).map (Value.int .u8)).toArray 43)).heap.size = w.heap.size + 1 := by simp
  go_enter Try.func21, Try.ntmps21
  go_wp2_with fail
  change Calls Try.prog _ _ (w.alloc (.cells ((nI (List.replicate 32 0)).map (Value.int .u8)).toArray 43)) _
  generalize w.alloc (.cells ((nI (List.replicate 32 0)).map (Value.int .u8)).toArray 43) = w0 at *
  refine (new_any _).mono ?_
  rintro e w1 ⟨rfl, H1, q1⟩
  have s1 := q1.size
  rw [s0] at H1
  have hlt1 := H1.lt
  have q01 : Below w.heap.size w w1 := q0.trans (q1.mono (by omega))
  replace A2 := A2.below q1 (by omega)
  have hr1 := hr.below q01 (Nat.le_refl _)
  go_wp2_with fail
  have hI : HIs w1 (w.heap.size + 1) K S [] := Or.inr ⟨rfl, H1⟩
  have hN : 0 < len → ∀ ad, a = some ad → ad.block ≠ (w.heap.size + 1) := fun h0 ad hd => by
    obtain ⟨b, off, hab, hbs, _⟩ := hr.hcell h0
    rw [hab, Option.some.injEq] at hd
    rw [← hd]
    show b ≠ _
    omega
  have hLn : ([] : List Nat).length + len < 1000000000000 := by rw [List.length_nil]; omega
  have hW' := hW w1 (w.heap.size + 1) [] z a len cap hI hr1 hz hN hLn
  clear hI hN hLn hW
  refine hW'.mono ?_
  rintro e w2 ⟨rfl, H2, g2⟩
  rw [List.nil_append] at H2
  have s2 := g2.size
  replace A2 := A2.turned g2 (by omega)
  have q02 : Below w.heap.size w w2 := turned_new q01 g2 (by omega) (by omega)
  go_wp2_with fail
  refine (hS' w2 (w.heap.size + 1) (.inl H2)).mono ?_
  rintro e w3 ⟨rfl, H3, g3⟩
  replace A2 := A2.turned g3 (by omega)
  have q03 : Below w.heap.size w w3 := turned_new q02 g3 (by omega) (by omega)
  clear hW' hS'
  go_wp2_with (refine wpList_storeA rfl 43 _ _ rfl w.heap.size (nI sm) rfl rfl A2 Try.size43 (by decide +kernel) HL.out ?_)
  exact bodyPost_ret (resA rfl _ _ w.heap.size rfl (A2.whole _) Try.underlying43 Try.size43 HL.out) rfl ⟨rfl, below_setRow q03 (Nat.le_refl _) _⟩
theorem sum13_any (w : World) (z : List Nat) (a : Option Addr) (len cap : Nat) (hr : Row .u8 w a len cap (nI z)) (hz : ∀ x ∈ z, x < 256) (hb : len < 1000000000) :
    Calls Try.prog 21 #[.slice a len cap] w fun e w' => e = .returned (.agg ((nI (sumL KL S0 z)).map (Value.int .u8)).toArray) ∧ Below w.heap.size w w' :=
  sum_gen KL S0 write13_any hsum13_any w z a len cap hr hz hb
end Go.Proofs.Ytoijeefmddopbaa
