/-
 The document's answer of layer 20 (casemateref20): Parse.
-/
import Derived.Test.YtcaloldcihpkfaaGreatDoorMPackMc
import Derived.Test.YtcaloldcihpkfaaGreatDoorMPackMr
namespace Go.Proofs.YtcaloldcihpkfaaGreatDoor.N
open Go.RowKit
set_option linter.unusedVariables false
set_option maxRecDepth 8192

structure PI (w:World) (D:List Int) (x y z u:Int) (i:Nat) (wr:World):Prop where
 bel:Below w.heap.size w wr
 b2:wr.heap[w.heap.size]? =some (.cells #[.int .i64 0, .int .i64 0, .int .i64 0, .int .i64 0, .slice none 0 0] 25 (0,0))
 b4:∃sv,wr.heap[w.heap.size+1]? =some (.cells #[.int .i64 x, .int .i64 y, .int .i64 z, .int .i64 u,sv] 25 (0,0))∧wr.ownsRow (w.heap.size+2) 66 34 sv i (sCs (ZaN D i))
theorem PI.put {w w8 w9:World} {D:List Int} {x y z u:Int} {i:Nat} {sv sv':Value} (bel:Below w.heap.size w w8) (b2:w8.heap[w.heap.size]? =some (.cells #[.int .i64 0, .int .i64 0, .int .i64 0, .int .i64 0, .slice none 0 0] 25 (0,0)))
  (b4:w8.heap[w.heap.size+1]? =some (.cells #[.int .i64 x, .int .i64 y, .int .i64 z, .int .i64 u,sv] 25 (0,0))) (own0:w8.ownsRow (w.heap.size+2) 66 34 sv i (sCs (ZaN D i)))
  (own:w9.ownsRow (w.heap.size+2) 66 34 sv' (i+1) (sCs (ZaN D i)++sC (sgAt D (24+40*i)))) (G:w8.grownBy w9 sv.ownBlock):
  PI w D x y z u (i+1) (w9.setCell ⟨w.heap.size+1,4,none⟩ sv')∧w9.cell? ⟨w.heap.size+1,4,none⟩=some sv∧w9.frozen? ⟨w.heap.size+1,4,none⟩=false:=by
 have l4:=Zat b4
 have q:Below (w.heap.size+2) w8 w9:=(Below.refl _ _).grown G (by omega) (fun k hk=>(own0.lt k hk).1)
 have hb4:w9.heap[w.heap.size+1]? =some (.cells #[.int .i64 x, .int .i64 y, .int .i64 z, .int .i64 u,sv] 25 (0,0)):=by rw [q.block _ (by omega)];exact b4
 have hb2:w9.heap[w.heap.size]? =some (.cells #[.int .i64 0, .int .i64 0, .int .i64 0, .int .i64 0, .slice none 0 0] 25 (0,0)):=by rw [q.block _ (by omega)];exact b2
 have q2:Below w.heap.size w9 (w9.setCell ⟨w.heap.size+1,4,none⟩ sv'):=(Below.refl w.heap.size w9).setCell (show w.heap.size≤(⟨w.heap.size+1,4,none⟩:Addr).block from Nat.le_succ _) sv'
 refine ⟨⟨(bel.trans (q.mono (by omega))).trans q2, ?_,sv', ?_, ?_⟩,Zag hb4 4,ZaJ hb4 4⟩
 ·rw [Below.heap_setCell w9 _ _ w.heap.size (by show w.heap.size≠w.heap.size+1;omega)]
  exact hb2
 ·rw [heap_setCell_same w9 _ 4 _ _ _ hb4]
  rfl
 ·rw [ZkP]
  refine own.kept (row:=some (w.heap.size+1)) ⟨rfl,rfl,rfl,by simp,fun k _ hk=>Below.heap_setCell w9 _ _ k (fun e=>hk (by rw [e]))⟩ ?_
  rcases hv:sv'.ownBlock with _|k
  ·exact .inl rfl
  ·right
   intro e
   have:=(own.lt k hv).1
   cases e
   omega
theorem Zvj (x y:Int) (d:List Int) (j:Nat) (v:Int):(sA ⟨x,y,d⟩).setIfInBounds (2+j) (.int .u8 v)=sA ⟨x,y,d.set j v⟩:=by
 unfold sA sC
 rw [List.setIfInBounds_toArray,show 2+j=j+1+1 by omega,List.set_cons_succ,List.set_cons_succ,List.map_set]
end Go.Proofs.YtcaloldcihpkfaaGreatDoor.N

