/-
  The document's answer of layer 20 (casemateref20): Bytes.
-/
import Derived.Test.YtjcfooiibgidhaaManCode3
import Derived.Test.YtjcfooiibgidhaaHeadFour
namespace Go.Proofs.Ytjcfooiibgidhaa.N
open Go.RowKit
set_option linter.unusedVariables false
set_option maxRecDepth 8192

theorem Gr.below {B : Nat} {e : TypeId} {w w' : World} {v : Value} {t m : Nat} {D : List Int} (h : Gr B e w v t m D) (q : Below w.heap.size w w') : Gr B e w' v t m D := by
  rcases h with h | ⟨h0, hm, a, rfl, r⟩
  · exact .inl (own_below h q)
  · exact .inr ⟨h0, hm, a, rfl, r.below q (Nat.le_refl _)⟩
end Go.Proofs.Ytjcfooiibgidhaa.N
