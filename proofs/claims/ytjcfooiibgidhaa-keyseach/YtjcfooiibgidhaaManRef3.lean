/-
  The document's answer of layer 20 (casemateref20): Same, of two manifests that are one.
-/
import Derived.Test.YtjcfooiibgidhaaManBase
namespace Go.Proofs.Ytjcfooiibgidhaa.N
open Go.RowKit
set_option linter.unusedVariables false
set_option maxRecDepth 8192

theorem dig_arr {d : List Int} (h : IsB d) : (d.map (Value.int .u8)).toArray = arr .u8 (d.map Int.toNat) := by
  unfold arr nI
  rw [List.map_map, List.map_map]
  congr 1
  apply List.map_congr_left
  intro x hx
  have := h x hx
  simp only [Function.comp_apply]
  congr 1
  omega
theorem eqFields_three {P : Program} {D : Nat} {X : Array Value} {x y z : Value} {f g k : Field} {w : World} (hf : f.name ≠ "_") (hg : g.name ≠ "_") (hk : k.name ≠ "_") (p0 : (part f.type X f.offset).run P w = .ok x w) (p1 : (part g.type X g.offset).run P w = .ok y w) (p2 : (part k.type X k.offset).run P w = .ok z w)
    (e0 : (Op.equalIn D f.type x x).run P w = .ok true w) (e1 : (Op.equalIn D g.type y y).run P w = .ok true w) (e2 : (Op.equalIn D k.type z z).run P w = .ok true w) :
    (Op.eqFields D X X [f, g, k]).run P w = .ok true w := by
  simp [Op.eqFields, hf, hg, hk, p0, p1, p2, e0, e1, e2]
end Go.Proofs.Ytjcfooiibgidhaa.N
