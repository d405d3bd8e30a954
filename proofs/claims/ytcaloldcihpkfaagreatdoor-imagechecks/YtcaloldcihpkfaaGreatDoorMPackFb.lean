/-
 Arrays of integers by value, in variables: what a function's array variables hold ('Vars'), and laws that make, read, write and compare them whole.
-/
import Derived.Test.YtcaloldcihpkfaaGreatDoorMPackNa
import Derived.Test.YtcaloldcihpkfaaGreatDoorMPackA
import Derived.Deep.MidRow
import Derived.Deep.WholeRow
import Derived.Laws.ResultCell
import Derived.ChangeKeysEq
import Derived.Test.YtcaloldcihpkfaaGreatDoorMPackFa
import Derived.Laws.Externs
import Derived.Laws.BitsAllLaws
import Derived.Shelf.Bits.Mul64
namespace Go.Proofs.YtcaloldcihpkfaaGreatDoor.N
open Go.RowKit
set_option linter.unusedVariables false
set_option maxRecDepth 8192

structure AV where
 g:Nat
 T:TypeId
 X:Array Value
structure Vars (w0 w:World) (l:List AV):Prop where
 bel:Below w0.heap.size w0 w
 low:∀v∈l,w0.heap.size≤v.g
 holds:∀v∈l,w.heap[v.g]? =some (.cells v.X v.T (0,0))
 apart:l.Pairwise (fun u v=>u.g≠v.g)
theorem Zat {w:World} {g:Nat} {o:Obj} (h:w.heap[g]? =some o):g<w.heap.size:=(Array.getElem?_eq_some_iff.1 h).1
theorem Vars.start (w:World):Vars w w []:=⟨Below.refl _ _,fun v hv=>absurd hv (List.not_mem_nil),fun v hv=>absurd hv (List.not_mem_nil), .nil⟩
theorem Vars.size {w0 w:World} {l:List AV} (h:Vars w0 w l):w0.heap.size≤w.heap.size:=h.bel.size
theorem Vars.call {w0 w w':World} {l:List AV} (h:Vars w0 w l) (q:Below w.heap.size w w'):Vars w0 w' l:=
 ⟨Zbp h.bel q,h.low,fun v hv=>by rw [q.block v.g (Zat (h.holds v hv))];exact h.holds v hv,h.apart⟩
theorem Vars.drew {w0 w:World} {l:List AV} (h:Vars w0 w l):Vars w0 w.drew l:=⟨h.bel.drew,h.low,h.holds,h.apart⟩
theorem Vars.drewN {w0 w:World} {l:List AV} (h:Vars w0 w l) (n:Nat):Vars w0 (w.drewN n) l:=⟨⟨h.bel.os,h.bel.tape,h.bel.output,h.bel.size,h.bel.block⟩,h.low,h.holds,h.apart⟩
theorem Vars.at {w0 w:World} {l:List AV} (h:Vars w0 w l) (i:Nat) {g:Nat} {T:TypeId} {X:Array Value} (hi:l[i]? =some ⟨g,T,X⟩):w.heap[g]? =some (.cells X T (0,0)):=
 h.holds ⟨g,T,X⟩ (List.mem_of_getElem? hi)
theorem Vars.tail {w0 w:World} {v:AV} {l:List AV} (h:Vars w0 w (v::l)):Vars w0 w l:=
 ⟨h.bel,fun u hu=>h.low u (List.mem_cons_of_mem _ hu),fun u hu=>h.holds u (List.mem_cons_of_mem _ hu),(List.pairwise_cons.1 h.apart).2⟩
theorem Vars.sub {w0 w:World} {l l':List AV} (h:Vars w0 w l) (hl:l'.Sublist l):Vars w0 w l':=
 ⟨h.bel,fun u hu=>h.low u (hl.subset hu),fun u hu=>h.holds u (hl.subset hu),h.apart.sublist hl⟩
theorem Vars.del {w0 w:World} {l:List AV} (h:Vars w0 w l) (i:Nat):Vars w0 w (l.eraseIdx i):=h.sub (List.eraseIdx_sublist l i)
theorem Vars.new {w0 w:World} {l:List AV} (h:Vars w0 w l) (T:TypeId) (X:Array Value):Vars w0 (w.alloc (.cells X T)) (⟨w.heap.size,T,X⟩::l):=by
 refine ⟨h.bel.alloc h.size _,fun v hv=> ?_,fun v hv=> ?_,List.pairwise_cons.2 ⟨fun v hv=> ?_,h.apart⟩⟩
 ·rcases List.mem_cons.1 hv with rfl|h1
  ·exact h.size
  ·exact h.low v h1
 ·rcases List.mem_cons.1 hv with rfl|h1
  ·exact heap_alloc_last w _
  ·rw [Below.heap_alloc w _ v.g (Zat (h.holds v h1))];exact h.holds v h1
 ·exact (Nat.ne_of_lt (Zat (h.holds v hv))).symm
theorem Vars.made {w0 w w':World} {l:List AV} {g:Nat} {T:TypeId} {X:Array Value} (h:Vars w0 w l) (q:Below w.heap.size w w') (hg:w.heap.size≤g) (hh:w'.heap[g]? =some (.cells X T (0,0))):Vars w0 w' (⟨g,T,X⟩::l):=by
 have h1:=h.call q
 refine ⟨h1.bel,fun v hv=> ?_,fun v hv=> ?_,List.pairwise_cons.2 ⟨fun v hv=> ?_,h1.apart⟩⟩
 ·rcases List.mem_cons.1 hv with rfl|h2
  ·exact Nat.le_trans h.size hg
  ·exact h1.low v h2
 ·rcases List.mem_cons.1 hv with rfl|h2
  ·exact hh
  ·exact h1.holds v h2
 ·exact (Nat.ne_of_lt (Nat.lt_of_lt_of_le (Zat (h.holds v hv)) hg)).symm
theorem Vars.turn {w0 w w':World} {l:List AV} (h:Vars w0 w l) (i:Nat) {g:Nat} {T:TypeId} {X Y:Array Value} (hi:l[i]? =some ⟨g,T,X⟩) (hb:Below w0.heap.size w w')
  (hg:w'.heap[g]? =some (.cells Y T (0,0))) (ho:∀k,k≠g→w'.heap[k]? =w.heap[k]?):Vars w0 w' (l.set i ⟨g,T,Y⟩):=by
 have hil:i<l.length:=(List.getElem?_eq_some_iff.1 hi).1
 have hiv:l[i]=⟨g,T,X⟩:=(List.getElem?_eq_some_iff.1 hi).2
 refine ⟨h.bel.trans hb,fun v hv=> ?_,fun v hv=> ?_, ?_⟩
 ·rcases List.mem_or_eq_of_mem_set hv with h1|rfl
  ·exact h.low v h1
  ·exact h.low ⟨g,T,X⟩ (List.mem_of_getElem? hi)
 ·obtain ⟨j,hj,hv⟩:=List.mem_iff_getElem.1 hv
  rw [List.getElem_set] at hv
  split at hv
  ·subst hv;exact hg
  ·rename_i hne
   rw [List.length_set] at hj
   have hne2:v.g≠g:=by
    intro e
    have hp:=List.pairwise_iff_getElem.1 h.apart
    rcases Nat.lt_or_ge i j with h1|h1
    ·have:=hp i j hil hj h1
     rw [hiv,hv] at this
     exact this e.symm
    ·have:=hp j i hj hil (by omega)
     rw [hiv,hv] at this
     exact this e
   rw [ho v.g hne2]
   exact h.holds v (hv▸List.getElem_mem hj)
 ·have hm:(l.set i ⟨g,T,Y⟩).map (·.g)=l.map (·.g):=by
   rw [List.map_set]
   apply List.ext_getElem (by simp)
   intro j h1 h2
   rw [List.getElem_set]
   split
   ·subst i;rw [List.getElem_map,hiv]
   ·rfl
  have hp:(l.map (·.g)).Pairwise (· ≠ ·):=List.pairwise_map.2 h.apart
  rw [←hm] at hp
  exact List.pairwise_map.1 hp
theorem Vars.store {w0 w:World} {l:List AV} (h:Vars w0 w l) (i:Nat) {g:Nat} {T:TypeId} {X:Array Value} (hi:l[i]? =some ⟨g,T,X⟩) (Y:Array Value):Vars w0 (w.setRow g Y) (l.set i ⟨g,T,Y⟩):=
 h.turn i hi (below_setRow (Below.refl _ _) (h.low _ (List.mem_of_getElem? hi)) _) (setRow_heap w g X Y T (0,0) (h.at i hi)) (fun k hk=>setRow_other w g k Y hk)

def arr (k:IntKind) (l:List Nat):Array Value:=((nI l).map (Value.int k)).toArray
theorem Zfh (k:IntKind) (l:List Nat):(arr k l).size=l.length:=by simp [arr,nI]
theorem ZhM (k:IntKind) (l:List Nat):(arr k l).all (·.oneCell')=true:=all_oneCell_toArray (by intro v hv;obtain ⟨z,_,rfl⟩:=List.mem_map.1 hv;rfl)
theorem ZdU (k:IntKind) (l:List Nat) (i:Nat) (hi:i<l.length):(arr k l)[i]? =some (.int k ((l[i]?.getD 0:Nat):Int)):=by
 simp [arr,nI,List.getElem?_eq_getElem hi]
theorem Zpb (k:IntKind) (l:List Nat) (i x:Nat):(arr k l).setIfInBounds i (.int k ((x:Nat):Int))=arr k (l.set i x):=by
 simp [arr,nI,List.map_set]
theorem Zds {w:World} {g:Nat} {T:TypeId} {k:IntKind} {l:List Nat} (h:w.heap[g]? =some (.cells (arr k l) T (0,0))) (i:Nat) (hi:i<l.length):w.cell? ⟨g,i,none⟩=some (.int k ((l[i]?.getD 0:Nat):Int)):=by
 rw [cell_of_row w g i _ T (0,0) h,ZdU k l i hi]
theorem ZaJ {w:World} {g:Nat} {T:TypeId} {X:Array Value} (h:w.heap[g]? =some (.cells X T (0,0))) (i:Nat):w.frozen? ⟨g,i,none⟩=false:=by
 simp [World.frozen?,h]
theorem Vars.setc {w0 w:World} {l:List AV} (h:Vars w0 w l) (i:Nat) {g:Nat} {T:TypeId} {k:IntKind} {z:List Nat} (hi:l[i]? =some ⟨g,T,arr k z⟩) (j x:Nat):Vars w0 (w.setCell ⟨g,j,none⟩ (.int k ((x:Nat):Int))) (l.set i ⟨g,T,arr k (z.set j x)⟩):=by
 refine h.turn i hi ((Below.refl _ _).setCell (h.low _ (List.mem_of_getElem? hi)) _) ?_ (fun k hk=>Below.heap_setCell w _ _ k hk)
 rw [heap_setCell_same w g j (arr k z) T _ (h.at i hi), ←Zpb]

section
variable {P:Program} {ops:Array Oper} {rest:List Oper} {o:Oper} {a:Act} {w w0:World} {Q:Exit→Act→World→Prop} {K:Act→World→Prop} {l:List AV}
theorem Zpc (V:Vars w0 w l) (d:Tmp) (T:TypeId) (x:Operand) (hd:o.dst=some d) (ho:o.op= .box T x) (X:Array Value) (hx:a.eval x= .agg X)
  (h:∀w' g,Vars w0 w' (⟨g,T,X⟩::l)→K (a.put (some d) (.pointer (some ⟨g,0,none⟩))) w'):o.wp P a w K Q:=by
 unfold Oper.wp execOp
 have hr:(Instr.box T (.agg X)).run P w= .ok (.pointer (some ⟨w.heap.size,0,none⟩)) (w.alloc (.cells X T)):=by simp [Instr.box,newVar,newRow,Value.cells]
 simp only [ho,hx,hr,Sem.run_bind,Sem.run_pure,Result.andThen_ok]
 have:=h _ _ (V.new T X)
 rw [←hd] at this
 exact this
theorem Zke (V:Vars w0 w l) (d:Tmp) (T:TypeId) (hd:o.dst=some d) (ho:o.op= .alloc T) (X:Array Value) (hz:∀w,(zeroValue T).run P w= .ok (.agg X) w)
  (h:∀w' g,Vars w0 w' (⟨g,T,X⟩::l)→K (a.put (some d) (.pointer (some ⟨g,0,none⟩))) w'):o.wp P a w K Q:=by
 unfold Oper.wp execOp
 have hr:(Instr.alloc T true (.tuple #[])).run P w= .ok (.pointer (some ⟨w.heap.size,0,none⟩)) (w.alloc (.cells X T)):=by simp [Instr.alloc,hz,newVar,newRow,Value.cells]
 simp only [ho,hr,Sem.run_bind,Sem.run_pure,Result.andThen_ok]
 have:=h _ _ (V.new T X)
 rw [←hd] at this
 exact this
theorem ZbD (V:Vars w0 w l) (i:Nat) {g:Nat} {T:TypeId} {X:Array Value} (hi:l[i]? =some ⟨g,T,X⟩) (x y:Operand) (hd:o.dst=none) (ho:o.op= .store T x y) (Y:Array Value)
  (hx:a.eval x= .pointer (some ⟨g,0,none⟩)) (hy:a.eval y= .agg Y) {n:Nat} (hn:(P.info? T).map (·.size)=some n) (hX:X.size=n) (hY:Y.size=n) (h1:Y.all (·.oneCell')=true)
  (h:∀w',Vars w0 w' (l.set i ⟨g,T,Y⟩)→K a w'):o.wp P a w K Q:=
 wp_store_row T x y ho g Y hx hy T X (V.at i hi) (by rw [hn,hY]) (by rw [hX,hY]) h1 (by rw [hd];exact h _ (V.store i hi Y))
theorem ZaH (V:Vars w0 w l) (i:Nat) {g:Nat} {T:TypeId} {X:Array Value} (hi:l[i]? =some ⟨g,T,X⟩) (x:Operand) (ho:o.op= .load T x) (hx:a.eval x= .pointer (some ⟨g,0,none⟩))
  {m:Nat} {e:TypeId} (hu:P.underlying T=some (.array m e)) {n:Nat} (hn:(P.info? T).map (·.size)=some n) (hX:X.size=n):(execOp a.eval o).run P w= .ok (.value (.agg X)) w:=by
 unfold execOp
 simp only [ho,hx,Instr.loadAt,Instr.sureAddr,Sem.run_bind,Sem.run_pure,Result.andThen_ok,run_loadVar_row w g T T X (0,0) _ (V.at i hi) hu rfl (by rw [hn,hX])]
theorem Zkf (x:Operand) {T:TypeId} (ho:o.op= .load T x) (g:Nat) (hx:a.eval x= .pointer (some ⟨g,0,none⟩)) {X:Array Value} (hg:w.heap[g]? =some (.cells X T (0,0)))
  {m:Nat} {e:TypeId} (hu:P.underlying T=some (.array m e)) {n:Nat} (hn:(P.info? T).map (·.size)=some n) (hX:X.size=n):(execOp a.eval o).run P w= .ok (.value (.agg X)) w:=by
 unfold execOp
 simp only [ho,hx,Instr.loadAt,Instr.sureAddr,Sem.run_bind,Sem.run_pure,Result.andThen_ok,run_loadVar_row w g T T X (0,0) _ hg hu rfl (by rw [hn,hX])]
theorem ZcT (T:TypeId) (ps:List (Nat×Operand)) (ho:o.op= .build T ps.toArray) (X:Array Value) (hb:P.built T (ps.map fun p=>(p.1,a.eval p.2))=some X):(execOp a.eval o).run P w= .ok (.value (.agg X)) w:=by
 unfold execOp
 have h:=run_build (P:=P) w T (ps.toArray.map fun (i,x)=>(i,a.eval x)) X (by rw [←hb];simp)
 simp only [ho,Sem.run_bind,Sem.run_pure]
 rw [show (Array.map (fun x=>(x.fst,a.eval x.snd)) ps.toArray)=(ps.toArray.map fun (i,x)=>(i,a.eval x)) from rfl,h]
 rfl
theorem Zkg {v:Value} (hr:(execOp a.eval o).run P w= .ok (.value v) w) (h:K (a.put o.dst v) w):o.wp P a w K Q:=by
 unfold Oper.wp
 rw [hr]
 exact h
theorem Zax {v:Value} (hw:Region.wanted o (yielded ops a.tmps)=true) (hr:(execOp a.eval o).run P w= .ok (.value v) w) (h:wpList P ops Q rest (a.put o.dst v) w):wpList P ops Q (o::rest) a w:=
 BigFrame.wpList_want hw fun K hK=>by
  unfold Oper.wp
  rw [hr]
  exact hK _ _ h
theorem Zaj (V:Vars w0 w l) (d:Tmp) (T:TypeId) (x:Operand) (hgd:o.guard=none) (hd:o.dst=some d) (ho:o.op= .box T x) (X:Array Value) (hx:a.eval x= .agg X)
  (h:∀w' g,Vars w0 w' (⟨g,T,X⟩::l)→wpList P ops Q rest (a.put (some d) (.pointer (some ⟨g,0,none⟩))) w'):wpList P ops Q (o::rest) a w:=
 wpList_plain hgd fun K hK=>Zpc V d T x hd ho X hx fun w' g V'=>hK _ _ (h w' g V')
theorem Zai (V:Vars w0 w l) (d:Tmp) (T:TypeId) (hgd:o.guard=none) (hd:o.dst=some d) (ho:o.op= .alloc T) (X:Array Value) (hz:∀w,(zeroValue T).run P w= .ok (.agg X) w)
  (h:∀w' g,Vars w0 w' (⟨g,T,X⟩::l)→wpList P ops Q rest (a.put (some d) (.pointer (some ⟨g,0,none⟩))) w'):wpList P ops Q (o::rest) a w:=
 wpList_plain hgd fun K hK=>Zke V d T hd ho X hz fun w' g V'=>hK _ _ (h w' g V')
theorem Zal (V:Vars w0 w l) (i:Nat) {g:Nat} {T:TypeId} {X:Array Value} (hi:l[i]? =some ⟨g,T,X⟩) (x y:Operand) (hgd:o.guard=none) (hd:o.dst=none) (ho:o.op= .store T x y) (Y:Array Value)
  (hx:a.eval x= .pointer (some ⟨g,0,none⟩)) (hy:a.eval y= .agg Y) {n:Nat} (hn:(P.info? T).map (·.size)=some n) (hX:X.size=n) (hY:Y.size=n) (h1:Y.all (·.oneCell')=true)
  (h:∀w',Vars w0 w' (l.set i ⟨g,T,Y⟩)→wpList P ops Q rest a w'):wpList P ops Q (o::rest) a w:=
 wpList_plain hgd fun K hK=>ZbD V i hi x y hd ho Y hx hy hn hX hY h1 fun w' V'=>hK _ _ (h w' V')
theorem ZaM (V:Vars w0 w l) (i:Nat) {g:Nat} {T:TypeId} {X:Array Value} (hi:l[i]? =some ⟨g,T,X⟩) (d:Tmp) (x:Operand) (hw:Region.wanted o (yielded ops a.tmps)=true) (hd:o.dst=some d) (ho:o.op= .load T x) (hx:a.eval x= .pointer (some ⟨g,0,none⟩))
  {m:Nat} {e:TypeId} (hu:P.underlying T=some (.array m e)) {n:Nat} (hn:(P.info? T).map (·.size)=some n) (hX:X.size=n)
  (h:wpList P ops Q rest (a.put (some d) (.agg X)) w):wpList P ops Q (o::rest) a w:=
 Zax hw (ZaH V i hi x ho hx hu hn hX) (by rw [hd];exact h)
theorem ZaR (d:Tmp) (T:TypeId) (ps:List (Nat×Operand)) (hw:Region.wanted o (yielded ops a.tmps)=true) (hd:o.dst=some d) (ho:o.op= .build T ps.toArray) (X:Array Value) (hb:P.built T (ps.map fun p=>(p.1,a.eval p.2))=some X)
  (h:wpList P ops Q rest (a.put (some d) (.agg X)) w):wpList P ops Q (o::rest) a w:=
 Zax hw (ZcT T ps ho X hb) (by rw [hd];exact h)
end
theorem Zkh {P:Program} {e:TypeId} {k:IntKind} (he:P.underlying e=some (.int k)) (x y:List Nat) (hl:x.length=y.length) (d:Nat) (w:World):∀is:List Nat,(∀i∈is,i<x.length)→
  (Op.eqItems (d+1) e 1 (arr k x) (arr k y) is).run P w= .ok (is.all fun i=>x[i]?.getD 0==y[i]?.getD 0) w
 | [],_=>by simp [Op.eqItems]
 | i::is,h=>by
  have hi:i<x.length:=h i (by simp)
  have px:(part e (arr k x) (i*1)).run P w= .ok (.int k ((x[i]?.getD 0:Nat):Int)) w:=by
   simp [part,isAgg,run_underlying he,ZdU k x i hi]
  have py:(part e (arr k y) (i*1)).run P w= .ok (.int k ((y[i]?.getD 0:Nat):Int)) w:=by
   simp [part,isAgg,run_underlying he,ZdU k y i (hl▸hi)]
  have pe:(Op.equalIn (d+1) e (.int k ((x[i]?.getD 0:Nat):Int)) (.int k ((y[i]?.getD 0:Nat):Int))).run P w= .ok (x[i]?.getD 0==y[i]?.getD 0) w:=by
   rw [run_equalIn_int w d e k k _ _ he]
   congr 1
   rw [Bool.eq_iff_iff]
   simp
   omega
  have ih:=Zkh he x y hl d w is (fun j hj=>h j (by simp [hj]))
  simp only [Op.eqItems,Sem.run_bind,px,py,pe,Result.andThen_ok,List.all_cons]
  cases hb:(x[i]?.getD 0==y[i]?.getD 0)
  ·simp
  ·simpa using ih
theorem Zpd {x y:List Nat} (hl:x.length=y.length):((List.range x.length).all fun i=>x[i]?.getD 0==y[i]?.getD 0)=decide (x=y):=by
 rw [Bool.eq_iff_iff,List.all_eq_true,decide_eq_true_iff]
 constructor
 ·intro h
  apply List.ext_getElem hl
  intro i h1 h2
  have:=h i (List.mem_range.2 h1)
  simpa [List.getElem?_eq_getElem h1,List.getElem?_eq_getElem h2] using this
 ·rintro rfl i hi
  simp
theorem ZhN {P:Program} {t e:TypeId} {n:Nat} {k:IntKind} (ht:P.underlying t=some (.array n e)) (he:P.underlying e=some (.int k)) (h1:(P.info? e).map (·.size)=some 1) (x y:List Nat) (hx:x.length=n) (hy:y.length=n) (d:Nat) (w:World):
  (Op.equalIn (d+2) t (.agg (arr k x)) (.agg (arr k y))).run P w= .ok (decide (x=y)) w:=by
 obtain ⟨i,hi,hs⟩:=Option.map_eq_some_iff.1 h1
 have hc:P.cellsOf e=1:=by simp [Program.cellsOf,hi,hs]
 rw [run_equalIn_array w (d+1) _ _ ht hi,hc,Zkh he x y (by rw [hx,hy]) d w _ (fun j hj=>by rw [hx];exact List.mem_range.1 hj), ←hx,Zpd (by rw [hx,hy])]
theorem Zpe {P:Program} {a:Act} {o:Oper} {w:World} (ty ty':TypeId) (x y:Operand) (ho:o.op= .binOp .eql ty x y ty') {e:TypeId} {n:Nat} {k:IntKind} (p q:List Nat) (b:Bool) (hb:decide (p=q)=b) (hx:a.eval x= .agg (arr k p)) (hy:a.eval y= .agg (arr k q))
  (hg:P.eqGuardType P.depth ty=false) (ht:P.underlying ty=some (.array n e)) (he:P.underlying e=some (.int k)) (h1:(P.info? e).map (·.size)=some 1) (hp:p.length=n) (hq:q.length=n):(execOp a.eval o).run P w= .ok (.value (.bool b)) w:=by
 unfold execOp
 simp only [ho,hx,hy,Sem.run_bind,Sem.run_pure,run_eqGuard_agg w .eql ty x y _ _ hg,Result.andThen_ok,run_eql_struct,ZhN ht he h1 p q hp hq 9998 w,hb]
theorem Zki {P:Program} {a:Act} {o:Oper} {w:World} (ty ty':TypeId) (x y:Operand) (ho:o.op= .binOp .neq ty x y ty') {e:TypeId} {n:Nat} {k:IntKind} (p q:List Nat) (b:Bool) (hb:decide (p=q)= !b) (hx:a.eval x= .agg (arr k p)) (hy:a.eval y= .agg (arr k q))
  (hg:P.eqGuardType P.depth ty=false) (ht:P.underlying ty=some (.array n e)) (he:P.underlying e=some (.int k)) (h1:(P.info? e).map (·.size)=some 1) (hp:p.length=n) (hq:q.length=n):(execOp a.eval o).run P w= .ok (.value (.bool b)) w:=by
 unfold execOp
 simp only [ho,hx,hy,Sem.run_bind,Sem.run_pure,run_eqGuard_agg w .neq ty x y _ _ hg,Result.andThen_ok,run_neq_struct,ZhN ht he h1 p q hp hq 9998 w,hb,Bool.not_not]

section
variable {P:Program} {fn:Func} {w w0:World} {l:List AV}
theorem ZaW {p:Tmp} {T:TypeId} (h:fn.results= #[.cell p T]) (tmps:Array Value) (V:Vars w0 w l) (i:Nat) {g:Nat} {X:Array Value} (hi:l[i]? =some ⟨g,T,X⟩) (hp:tmps.getD p undef= .pointer (some ⟨g,0,none⟩))
  {m:Nat} {e:TypeId} (hu:P.underlying T=some (.array m e)) {n:Nat} (hn:(P.info? T).map (·.size)=some n) (hX:X.size=n):(results fn tmps).run P w= .ok (.agg X) w:=
 results_cell_row h tmps w g T X (0,0) _ hp (V.at i hi) hu rfl (by rw [hn,hX])
theorem Zcv {p u:Tmp} {T:TypeId} (h:fn.results= #[.cell p T, .tmp u]) (tmps:Array Value) (V:Vars w0 w l) (i:Nat) {g:Nat} {X:Array Value} (hi:l[i]? =some ⟨g,T,X⟩) (hp:tmps.getD p undef= .pointer (some ⟨g,0,none⟩))
  {m:Nat} {e:TypeId} (hu:P.underlying T=some (.array m e)) {n:Nat} (hn:(P.info? T).map (·.size)=some n) (hX:X.size=n):(results fn tmps).run P w= .ok (.tuple #[.agg X,tmps.getD u undef]) w:=by
 have hl':=run_loadVar_row (P:=P) w g T T X (0,0) _ (V.at i hi) hu rfl (by rw [hn,hX])
 rw [results_cell_tmp h,hp]
 simp [asAddr,Result.andThen,hl']
theorem ZhO {p u v:Tmp} {T:TypeId} (h:fn.results= #[.cell p T, .tmp u, .tmp v]) (tmps:Array Value) (V:Vars w0 w l) (i:Nat) {g:Nat} {X:Array Value} (hi:l[i]? =some ⟨g,T,X⟩) (hp:tmps.getD p undef= .pointer (some ⟨g,0,none⟩))
  {m:Nat} {e:TypeId} (hu:P.underlying T=some (.array m e)) {n:Nat} (hn:(P.info? T).map (·.size)=some n) (hX:X.size=n):(results fn tmps).run P w= .ok (.tuple #[.agg X,tmps.getD u undef,tmps.getD v undef]) w:=by
 have hl':=run_loadVar_row (P:=P) w g T T X (0,0) _ (V.at i hi) hu rfl (by rw [hn,hX])
 simp only [results,h]
 simp only [Array.getD_eq_getD_getElem?] at hp ⊢
 simp [hp,asAddr,Result.andThen,hl']
end
section
variable {P:Program} {ops:Array Oper} {Q:Exit→Act→World→Prop} {md:Region.Mode} {S:World→Prop}
theorem Zar (S:World→Prop) {id:Nat} {a:Act} {w:World} (hm:P.follows .mixedOrders=true)
  (h:wpAnyH P .any ops Q S ops.size (Array.replicate ops.size false) a w.drew):(Code.region id ops true).wp P Q a w:=wp_region_held hm h
theorem Za3 {i:Nat} {o:Oper} {fuel:Nat} {listed:Array Bool} {a:Act} {w:World} (hr:Region.ready md ops listed=[i]) (ho:ops[i]? =some o)
  (hw:Region.wanted o (yielded ops a.tmps)=true)
  (h:∀K':Act→World→Prop,(∀a w1,S w1→wpAnyH P md ops Q S fuel (listed.setIfInBounds i true) a w1→K' a w1)→Oper.wp P o a w K' Q):
  wpAnyH P md ops Q S (fuel+1) listed a w:=by
 refine wpAnyH_all hr (by simp) fun j hj=> ?_
 simp only [List.mem_singleton] at hj
 subst hj
 refine wpOp_step ho fun K' hK=> ?_
 rw [if_pos hw]
 exact h K' fun a w1 hs hh=>hK a w1 ⟨hs,hh⟩
theorem Zeq {i j:Nat} {oi oj:Oper} {fuel:Nat} {listed:Array Bool} {a:Act} {w:World} (hr:Region.ready md ops listed=[i,j]) (hoi:ops[i]? =some oi)
  (hwi:Region.wanted oi (yielded ops a.tmps)=true) (hoj:ops[j]? =some oj) (hwj:Region.wanted oj (yielded ops a.tmps)=true)
  (hi:∀K':Act→World→Prop,(∀a w1,S w1→wpAnyH P md ops Q S fuel (listed.setIfInBounds i true) a w1→K' a w1)→Oper.wp P oi a w K' Q)
  (hj:∀K':Act→World→Prop,(∀a w1,S w1→wpAnyH P md ops Q S fuel (listed.setIfInBounds j true) a w1→K' a w1)→Oper.wp P oj a w K' Q):
  wpAnyH P md ops Q S (fuel+1) listed a w:=by
 refine wpAnyH_all hr (by simp) fun k hk=> ?_
 simp only [List.mem_cons,List.not_mem_nil,or_false] at hk
 rcases hk with rfl|rfl
 ·refine wpOp_step hoi fun K' hK=> ?_
  rw [if_pos hwi]
  exact hi K' fun a w1 hs hh=>hK a w1 ⟨hs,hh⟩
 ·refine wpOp_step hoj fun K' hK=> ?_
  rw [if_pos hwj]
  exact hj K' fun a w1 hs hh=>hK a w1 ⟨hs,hh⟩
end
theorem Zkj {G:Nat→World→Prop} {Vg:Nat→World→Prop} {R:Prop} (k:(∀g w,Vg g w→G g w)→R) (h:∀g w,Vg g w→G g w):R:=k h
end Go.Proofs.YtcaloldcihpkfaaGreatDoor.N

/-
 A region that draws its order, in which variables are made ('floats': allocs that may come up at any time) beside calls that turn nothing old: each call is walked ONCE, in whatever world; the variables are handed over at the end.
-/
namespace Go.Proofs.YtcaloldcihpkfaaGreatDoor.N
open Go.RowKit
set_option linter.unusedVariables false
set_option maxRecDepth 8192

section
variable {P:Program} {ops:Array Oper} {Q:Exit→Act→World→Prop} {md:Region.Mode}
structure Fresh (nw:List AV) (w w':World):Prop where
 low:∀v∈nw,w.heap.size≤v.g
 holds:∀v∈nw,w'.heap[v.g]? =some (.cells v.X v.T (0,0))
 apart:nw.Pairwise (fun u v=>u.g≠v.g)
theorem Fresh.nil (w w':World):Fresh [] w w':=⟨fun v hv=>absurd hv (List.not_mem_nil),fun v hv=>absurd hv (List.not_mem_nil), .nil⟩
theorem Fresh.one {w w':World} {g:Nat} {T:TypeId} {X:Array Value} (hg:w.heap.size≤g) (hh:w'.heap[g]? =some (.cells X T (0,0))):Fresh [⟨g,T,X⟩] w w':=
 ⟨fun v hv=>by rw [List.mem_singleton.1 hv];exact hg,fun v hv=>by rw [List.mem_singleton.1 hv];exact hh,List.pairwise_singleton _ _⟩
theorem Vars.fresh {w0 w w':World} {l nw:List AV} (h:Vars w0 w l) (q:Below w.heap.size w w') (f:Fresh nw w w'):Vars w0 w' (nw++l):=by
 have h1:=h.call q
 refine ⟨h1.bel,fun v hv=> ?_,fun v hv=> ?_,List.pairwise_append.2 ⟨f.apart,h.apart,fun u hu v hv=> ?_⟩⟩
 ·rcases List.mem_append.1 hv with h2|h2
  ·exact Nat.le_trans h.size (f.low v h2)
  ·exact h1.low v h2
 ·rcases List.mem_append.1 hv with h2|h2
  ·exact f.holds v h2
  ·exact h1.holds v h2
 ·exact (Nat.ne_of_lt (Nat.lt_of_lt_of_le (Zat (h.holds v hv)) (f.low u hu))).symm
theorem Vars.perm {w0 w:World} {l l':List AV} (h:Vars w0 w l) (p:l.Perm l'):Vars w0 w l':=
 ⟨h.bel,fun v hv=>h.low v (p.mem_iff.2 hv),fun v hv=>h.holds v (p.mem_iff.2 hv),p.pairwise h.apart (fun {x y} hxy=>Ne.symm hxy)⟩

def Down (md:Region.Mode) (ops:Array Oper) (listed:Array Bool):Prop:=∀j oj,ops[j]? =some oj→listed.getD j true=true→∀e∈oj.after,Region.binds md e=true→listed.getD e.on false=true
theorem Down.set {listed:Array Bool} {i:Nat} (h:Down md ops listed) (hi:i∈Region.ready md ops listed):Down md ops (listed.setIfInBounds i true):=fun j oj hj hl e he hb=>by
 have mono:∀k,listed.getD k false=true→(listed.setIfInBounds i true).getD k false=true:=fun k hk=>by
  by_cases hik:i=k
  ·subst hik;exact getD_set_true hk
  ·rw [getD_set_ne false hik];exact hk
 refine mono _ ?_
 by_cases hij:i=j
 ·subst hij
  obtain ⟨_,oi,hoi,hall⟩:=mem_ready.1 hi
  rw [hj] at hoi;cases hoi
  exact hall e he hb
 ·rw [getD_set_ne true hij] at hl
  exact h j oj hj hl e he hb
def Zkk (md:Region.Mode) (ops:Array Oper) (listed:Array Bool):Bool:=(List.range ops.size).all fun j=> !listed.getD j true||match ops[j]? with
 | some o=>o.after.all fun e=> !Region.binds md e||listed.getD e.on false
 | none=>true
theorem Zdt {listed:Array Bool} (h:Zkk md ops listed=true):Down md ops listed:=fun j oj hj hl e he hb=>by
 have h1:=List.all_eq_true.1 h j (List.mem_range.2 (Array.getElem?_eq_some_iff.1 hj).1)
 rw [hj,hl] at h1
 have h2:=Array.all_eq_true_iff_forall_mem.1 (show (oj.after.all fun e=> !Region.binds md e||listed.getD e.on false)=true by simpa using h1) e he
 simpa [hb] using h2

def Zdu (P:Program) (ops:Array Oper) (t:Nat) (a:Act):Prop:=∀o,ops[t]? =some o→∃v,Yields P ops o v a
def wpFl (P:Program) (md:Region.Mode) (ops:Array Oper) (Q:Exit→Act→World→Prop) (w0:World) (stop:Array Bool) (t:Nat) (R:List AV→Act→World→Prop):Nat→Array Bool→List AV→Act→World→Prop
 | 0,listed,l,a,w=>listed=stop∧Zdu P ops t a∧∀w',Zao w w'→Vars w0 w' l→R l a w'
 | fuel+1,listed,l,a,w=>Down md ops listed→((∃i∈Region.ready md ops listed,i≠t)∧(∀j∈Region.ready md ops listed,stop.getD j true=true∨j=t)∧(t∈Region.ready md ops listed→Zdu P ops t a))∧∀i∈Region.ready md ops listed,i≠t→∀w',Zao w w'→Vars w0 w' l→
   wpOp P ops Q i (fun a1 w1=>Zao w' w1∧∃nw,Fresh nw w' w1∧wpFl P md ops Q w0 stop t R fuel (listed.setIfInBounds i true) (nw++l) a1 w1) a w'
variable {w0:World} {stop:Array Bool} {t:Nat} {R:List AV→Act→World→Prop}
theorem ZhP:∀ {fuel:Nat} {listed:Array Bool} {l:List AV} {a:Act} {w w':World},wpFl P md ops Q w0 stop t R fuel listed l a w→Zao w w'→wpFl P md ops Q w0 stop t R fuel listed l a w'
 | 0,_,_,_,_,_,h,q=>⟨h.1,h.2.1,fun w2 q2 V=>h.2.2 w2 (q.trans q2) V⟩
 | _+1,_,_,_,_,_,h,q=>fun D=>⟨(h D).1,fun i hi hit w2 q2 V=>(h D).2 i hi hit w2 (q.trans q2) V⟩
def ZdV (md:Region.Mode) (ops:Array Oper) (i:Nat):Nat→Nat→Bool
 | 0,_=>false
 | fuel+1,j=>match ops[j]? with
  | some oj=>oj.after.any fun e=>Region.binds md e&&(e.on==i||ZdV md ops i fuel e.on)
  | none=>false
def Zc6 (md:Region.Mode) (ops:Array Oper) (stop:Array Bool) (t i:Nat):Bool:=
 i != t&&(List.range ops.size).all fun j=>j==t||(stop.getD j true||ZdV md ops i ops.size j)
theorem Zc7 {i:Nat} (h:Zc6 md ops stop t i=true):i≠t:=by
 simp only [Zc6,Bool.and_eq_true,bne_iff_ne] at h
 exact h.1
theorem Zpf {listed:Array Bool} {i:Nat} (h:listed.getD i false=true):listed.getD i true=true:=by
 rcases Nat.lt_or_ge i listed.size with h'|h'
 ·simpa [h'] using h
 ·simp [Array.getElem?_eq_none h'] at h
theorem ZhQ {i:Nat} {listed:Array Bool} (D:Down md ops listed):∀ {fuel j:Nat},ZdV md ops i fuel j=true→(∀oj,ops[j]? =some oj→∀e∈oj.after,Region.binds md e=true→listed.getD e.on false=true)→listed.getD i false=true
 | 0,_,h,_=>by cases h
 | fuel+1,j,h,hall=>by
  unfold ZdV at h
  cases hj:ops[j]? with
  | none=>rw [hj] at h;cases h
  | some oj=>
   rw [hj] at h
   obtain ⟨e,he,hb⟩:=Array.any_eq_true'.1 h
   simp only [Bool.and_eq_true,Bool.or_eq_true,beq_iff_eq] at hb
   have hl:=hall oj hj e he hb.1
   rcases hb.2 with h2|h2
   ·rw [←h2];exact hl
   ·exact ZhQ D h2 fun ok hk=>D _ ok hk (Zpf hl)
theorem Zer {i:Nat} (h:Zc6 md ops stop t i=true) {listed:Array Bool} (D:Down md ops listed) {j:Nat} (hj:j∈Region.ready md ops listed) (hjt:j≠t) (hi:listed.getD i false=false):stop.getD j true=true:=by
 obtain ⟨_,oj,hoj,hall⟩:=mem_ready.1 hj
 simp only [Zc6,Bool.and_eq_true] at h
 have h1:=List.all_eq_true.1 h.2 j (List.mem_range.2 (Array.getElem?_eq_some_iff.1 hoj).1)
 simp only [Bool.or_eq_true,beq_iff_eq,hjt,false_or] at h1
 rcases h1 with h2|h2
 ·exact h2
 ·have h3:=ZhQ D h2 (fun ok hk=>by rw [hoj] at hk;cases hk;exact hall)
  rw [hi] at h3;cases h3
theorem Zcl {listed:Array Bool} {i:Nat} (h:listed.getD i true=false):listed.getD i false=false:=by
 rcases Nat.lt_or_ge i listed.size with h'|h'
 ·simpa [h'] using h
 ·simp [Array.getElem?_eq_none h'] at h
theorem Zes {o:Oper} {v:Value} {a a':Act} (hy:Yields P ops o v a) (he:execOp a'.eval o=execOp a.eval o)
  (hw:Region.wanted o (yielded ops a'.tmps)=Region.wanted o (yielded ops a.tmps)):Yields P ops o v a':=by
 unfold Yields at*
 rw [he,hw]
 exact hy
theorem Zkl {i:Nat} {oi:Oper} {v:Value} (hi:ops[i]? =some oi) (hsel:∀(j:Nat) (o:Oper) cs b,ops[j]? =some o→o.op≠ .select cs b) {listed:Array Bool} {a:Act}
  (hfree:∀j oj,ops[j]? =some oj→j≠i→listed.getD j true=false→(∀e∈oj.after,Region.binds md e=true→e.on≠i)→oi.apart ops oj=true)
  (hst:Zc6 md ops stop t i=true) (htr:t∈Region.ready md ops listed) (hun:listed.getD i false=false) (h:Zdu P ops t (a.put oi.dst v)):Zdu P ops t a:=fun ot hot=>by
 obtain ⟨u,hu⟩:=h ot hot
 obtain ⟨htun,ot',hot',hall⟩:=mem_ready.1 htr
 rw [hot] at hot';cases hot'
 have hap:=hfree t ot hot (Ne.symm (Zc7 hst)) htun fun e he hb heq=>by
  have h1:=hall e he hb
  rw [heq,hun] at h1
  cases h1
 have k3:=(Oper.apart_spec hap).1
 exact ⟨u,Zes hu (execOp_put ot (fun cs b=>hsel t ot cs b hot) a oi.dst v k3).symm (wanted_put ot a oi.dst v k3).symm⟩
theorem Zpg {i:Nat} {oi:Oper} {v:Value} (hi:ops[i]? =some oi) (hsel:∀(j:Nat) (o:Oper) cs b,ops[j]? =some o→o.op≠ .select cs b)
  (hQ:∀c a w,Q (.panic c) (a.put oi.dst v) w→Q (.panic c) a w) (hst:Zc6 md ops stop t i=true):
  ∀(fuel:Nat) (listed:Array Bool) (l:List AV) (a:Act) (w:World),
   (∀j oj,ops[j]? =some oj→j≠i→listed.getD j true=false→(∀e∈oj.after,Region.binds md e=true→e.on≠i)→oi.apart ops oj=true)→
   i∈Region.ready md ops listed→YieldsIf P ops (Zao w) oi v a→
   wpFl P md ops Q w0 stop t R fuel (listed.setIfInBounds i true) l (a.put oi.dst v) w→wpFl P md ops Q w0 stop t R (fuel+1) listed l a w:=by
 intro fuel
 induction fuel with
 | zero=>
  intro listed l a w hfree hr hy H D
  refine ⟨⟨⟨i,hr,Zc7 hst⟩,fun j hj=>(Decidable.em (j=t)).elim .inr fun hjt=> .inl (Zer hst D hj hjt (Zcl (mem_ready.1 hr).1)),fun htr=>Zkl hi hsel hfree hst htr (Zcl (mem_ready.1 hr).1) H.2.1⟩,fun j hj hjt w' q V=> ?_⟩
  by_cases hji:j=i
  ·subst hji;exact hy.wpOp hi q ⟨Zao.refl _,[],Fresh.nil _ _,ZhP (fuel:=0) H q⟩
  ·have h1:=(mem_ready.1 hj).1
   rw [←getD_set_ne true (Ne.symm hji),H.1,Zer hst D hj hjt (Zcl (mem_ready.1 hr).1)] at h1
   cases h1
 | succ fuel ih=>
  intro listed l a w hfree hr hy H D
  refine ⟨⟨⟨i,hr,Zc7 hst⟩,fun j hj=>(Decidable.em (j=t)).elim .inr fun hjt=> .inl (Zer hst D hj hjt (Zcl (mem_ready.1 hr).1)),fun htr=>Zkl hi hsel hfree hst htr (Zcl (mem_ready.1 hr).1) ((H (D.set hr)).1.2.2 (ready_mono htr (Ne.symm (Zc7 hst))))⟩,fun j hj hjt w' q V=> ?_⟩
  by_cases hji:j=i
  ·subst hji;exact hy.wpOp hi q ⟨Zao.refl _,[],Fresh.nil _ _,ZhP (fuel:=fuel+1) H q⟩
  ·have h1:=(H (D.set hr)).2 j (ready_mono hj hji) hjt w' q V
   obtain ⟨hjun,oj,hoj,hall⟩:=mem_ready.1 hj
   have hnot:∀e∈oj.after,Region.binds md e=true→e.on≠i:=fun e he hb heq=>by
    have h1:=hall e he hb
    rw [heq,Zcl (mem_ready.1 hr).1] at h1
    cases h1
   have hy':YieldsIf P ops (Zao w') oi v a:=hy.imp (fun h=>⟨h.1,fun w2 q2=>h.2 w2 (q.trans q2)⟩) id
   have h2:=wpOp_putIf hoj (hfree j oj hoj hji hjun hnot) (fun cs b=>hsel i oi cs b hi) (fun cs b=>hsel j oj cs b hoj) hQ hy' h1
   have hfree':∀k ok,ops[k]? =some ok→k≠i→(listed.setIfInBounds j true).getD k true=false→
     (∀e∈ok.after,Region.binds md e=true→e.on≠i)→oi.apart ops ok=true:=fun k ok hk hki hun hno=>by
    refine hfree k ok hk hki ?_ hno
    by_cases hjk:j=k
    ·subst hjk;exact hjun
    ·rw [getD_set_ne true hjk] at hun;exact hun
   refine wpOp_mono (fun a' w1 h3=> ?_) h2
   obtain ⟨hya,q1,nw,fr,h4⟩:=h3
   refine ⟨q1,nw,fr,ih (listed.setIfInBounds j true) (nw++l) a' w1 hfree' (ready_mono hr (Ne.symm hji)) (hya.imp (fun h=>⟨h.1,fun w2 q2=>h.2 w2 (q1.trans q2)⟩) id) ?_⟩
   rw [Array.setIfInBounds_comm _ _ hji]
   exact h4
def Zge (md:Region.Mode) (ops:Array Oper) (stop:Array Bool) (t:Nat):List Nat→Array Bool→Bool
 | [],_=>true
 | i::rs,listed=>(Zc6 md ops stop t i&&Region.free md ops listed i)&&((Region.ready md ops listed).contains i&&Zge md ops stop t rs (listed.setIfInBounds i true))
theorem Zkm (hs:Region.noSelect ops=true) (hQ:∀c d v a w,Q (.panic c) (Act.put a d v) w→Q (.panic c) a w) {l:List AV} {w:World}:
  ∀(rs:List Nat) (fuel:Nat) (listed:Array Bool) (a:Act),Zge md ops stop t rs listed=true→
   ZbI P ops (Zao w) (fun a'=>wpFl P md ops Q w0 stop t R fuel (Za9 rs listed) l a' w) rs a→wpFl P md ops Q w0 stop t R (fuel+rs.length) listed l a w
 | [],fuel,listed,a,_,h=>h
 | i::rs,fuel,listed,a,hb,h=>by
  simp only [Zge,Bool.and_eq_true] at hb
  obtain ⟨o,v,ho,hy,hk⟩:=h
  exact Zpg ho (Region.noSelect_spec hs) (fun c a w=>hQ c _ _ a w) hb.1.1 (fuel+rs.length) listed l a w (Region.free_spec ho hb.1.2) (by simpa using hb.2.1) hy (Zkm hs hQ rs fuel _ _ hb.2.2 hk)
theorem Za4 {rs:List Nat} {fuel:Nat} {listed:Array Bool} {l:List AV} {a:Act} {w:World} (hs:Region.noSelect ops=true) (hQ:∀c d v a w,Q (.panic c) (Act.put a d v) w→Q (.panic c) a w)
  (hb:Zge md ops stop t rs listed=true) (h:∀K:Act→Prop,Hid (∀a',wpFl P md ops Q w0 stop t R fuel (Za9 rs listed) l a' w→K a')→ZbI P ops (Zao w) K rs a):
  wpFl P md ops Q w0 stop t R (fuel+rs.length) listed l a w:=
 Zkm hs hQ rs fuel listed a hb (h _ (fun _ h=>h))
theorem ZaE {i:Nat} {o:Oper} {fuel:Nat} {listed:Array Bool} {l:List AV} {a:Act} {w:World} (hr:Region.ready md ops listed=[i]) (hst:(stop.getD i true&&i != t)=true) (ho:ops[i]? =some o) (hw:Region.wanted o (yielded ops a.tmps)=true)
  (h:∀w',Zao w w'→Vars w0 w' l→∀K':Act→World→Prop,(∀nw a1 w1,Zao w' w1→Fresh nw w' w1→wpFl P md ops Q w0 stop t R fuel (listed.setIfInBounds i true) (nw++l) a1 w1→K' a1 w1)→Oper.wp P o a w' K' Q):
  wpFl P md ops Q w0 stop t R (fuel+1) listed l a w:=by
 simp only [Bool.and_eq_true,bne_iff_ne] at hst
 refine fun _=>⟨⟨⟨i,by rw [hr];simp,hst.2⟩,fun j hj=>by rw [hr,List.mem_singleton] at hj;rw [hj];exact .inl hst.1,fun htr=>by rw [hr,List.mem_singleton] at htr;exact absurd htr.symm hst.2⟩,fun j hj _ w' q V=> ?_⟩
 rw [hr,List.mem_singleton] at hj
 subst hj
 refine wpOp_step ho fun K' hK=> ?_
 rw [if_pos hw]
 exact h w' q V K' fun nw a1 w1 q1 fr hh=>hK a1 w1 ⟨q1,nw,fr,hh⟩

theorem Zkn {j:Nat} {oj:Oper} {d:Tmp} {v:Value} (hj:ops[j]? =some oj) (h1:d∉oj.looksAt ops) (h2:oj.dst≠some d) (hsj:∀cs b,oj.op≠ .select cs b)
  (hQ:∀c a w,Q (.panic c) a w→Q (.panic c) (a.put (some d) v) w) {K:Act→World→Prop} {a:Act} {w:World} (h:wpOp P ops Q j K a w):
  wpOp P ops Q j (fun a' w'=>∃a1,a'=a1.put (some d) v∧K a1 w') (a.put (some d) v) w:=by
 have k1:∀e,some d=some e→e∉oj.looksAt ops:=fun e he=>by cases he;exact h1
 have k2:∀e,some d=some e→oj.dst≠some e:=fun e he=>by cases he;exact h2
 have pc:∀(a:Act) u,((a.put (some d) v).put oj.dst u)=(a.put oj.dst u).put (some d) v:=fun a u=>Act.put_comm a v u k2
 unfold wpOp at*
 simp only [hj] at*
 rw [wanted_put oj a (some d) v k1]
 split
 ·rename_i hw
  simp only [hw,if_true] at h
  rcases h with h|⟨hasks,hlets⟩
  case inr=>exact .inr ⟨by unfold Oper.asks at*;rw [execOp_put oj hsj a (some d) v k1];exact hasks,hlets⟩
  refine .inl ?_
  unfold Oper.wp at*
  rw [execOp_put oj hsj a (some d) v k1]
  generalize (execOp a.eval oj).run P w=r at*
  cases r with
  | ok n w'=>
   cases n<;>simp only [Oper.upon] at h ⊢
   case value u=>exact ⟨_,pc a u,h⟩
   case skip=>exact ⟨_,pc a undef,h⟩
   case defer e=>exact ⟨_,by rw [Act.put_defers];exact pc _ undef,h⟩
   case enter f args=>
    refine Calls.mono h fun e w'' he=> ?_
    cases e with
    | returned u=>exact ⟨_,pc a u,he⟩
    | panicked c=>exact hQ _ _ _ he
    | outgrown=>exact he
   case row row args=>exact Rows.mono h fun u w'' he=>⟨_,pc a u,he⟩
  | halt x w'=>
   cases x<;>simp only [Oper.upon] at h ⊢
   case panic u=>exact hQ _ _ _ h
 ·rename_i hw
  simp only [hw] at h
  exact ⟨_,pc a undef,h⟩
def Zgf (md:Region.Mode) (ops:Array Oper) (stop:Array Bool) (t i:Nat) (d:Tmp) (T:TypeId):Bool:=
 (Zc6 md ops stop t i&&match ops[i]? with
  | some o=>(match o.op with| .alloc T'=>T'==T|_=>false)&&((o.dst==some d&&o.guard.isNone)&&(o.after.all fun e=> !Region.binds md e))
  | none=>false)&&
 ((List.range ops.size).all fun j=>j==i||((!stop.getD j true&&j != t)||match ops[j]? with
  | some o=> !(o.looksAt ops).contains d&&o.dst != some d
  | none=>true))
theorem Zet {i:Nat} {d:Tmp} {T:TypeId} (h:Zgf md ops stop t i d T=true):Zc6 md ops stop t i=true∧(∃o,ops[i]? =some o∧o.op= .alloc T∧o.dst=some d∧o.guard=none∧∀e∈o.after,Region.binds md e=false)∧
  ∀j o,ops[j]? =some o→j≠i→(stop.getD j true=true∨j=t)→d∉o.looksAt ops∧o.dst≠some d:=by
 unfold Zgf at h
 simp only [Bool.and_eq_true,List.all_eq_true,List.mem_range] at h
 obtain ⟨⟨h1,h2⟩,h3⟩:=h
 refine ⟨h1, ?_,fun j o hj hne hst=> ?_⟩
 ·cases ho:ops[i]? with
  | none=>rw [ho] at h2;cases h2
  | some o=>
   rw [ho] at h2
   simp only [Bool.and_eq_true,beq_iff_eq,Array.all_eq_true_iff_forall_mem,Bool.not_eq_true',Option.isNone_iff_eq_none] at h2
   refine ⟨o,rfl, ?_,h2.2.1.1,h2.2.1.2,h2.2.2⟩
   have h4:=h2.1
   split at h4
   ·rename_i T' e;rw [e];congr 1;exact eq_of_beq h4
   ·cases h4
 ·have h4:=h3 j (Array.getElem?_eq_some_iff.1 hj).1
  rw [hj] at h4
  simp only [Bool.or_eq_true,beq_iff_eq,hne,false_or,Bool.and_eq_true,Bool.not_eq_true',bne_iff_ne] at h4
  rcases h4 with h4|h4
  ·rcases hst with h5|h5
   ·rw [h5] at h4;cases h4.1
   ·exact absurd h5 h4.2
  ·exact ⟨by simpa using h4.1,h4.2⟩
def ZcU (w0:World) (d:Tmp) (T:TypeId) (X:Array Value) (R:List AV→Act→World→Prop) (l:List AV) (a:Act) (w:World):Prop:=
 ∀g la,la.Perm (⟨g,T,X⟩::l)→Vars w0 w la→R la (a.put (some d) (.pointer (some ⟨g,0,none⟩))) w
theorem Zko {i:Nat} {d:Tmp} {T:TypeId} {X:Array Value} (hf:Zgf md ops stop t i d T=true) (hsel:∀(j:Nat) (o:Oper) cs b,ops[j]? =some o→o.op≠ .select cs b)
  (hQ:∀c v a w,Q (.panic c) a w→Q (.panic c) (Act.put a (some d) v) w) {g:Nat}:
  ∀ {fuel:Nat} {listed:Array Bool} {l la:List AV} {a:Act} {w:World},listed.getD i false=true→la.Perm (⟨g,T,X⟩::l)→wpFl P md ops Q w0 stop t (ZcU w0 d T X R) fuel listed l a w→
   wpFl P md ops Q w0 stop t R fuel listed la (a.put (some d) (.pointer (some ⟨g,0,none⟩))) w
 | 0,_,_,_,_,_,_,p,h=>⟨h.1,fun ot hot=>by
   obtain ⟨u,hu⟩:=h.2.1 ot hot
   have k3:∀e,some d=some e→e∉ot.looksAt ops:=fun e he=>by cases he;exact ((Zet hf).2.2 t ot hot (Ne.symm (Zc7 (Zet hf).1)) (.inr rfl)).1
   exact ⟨u,Zes hu (execOp_put ot (fun cs b=>hsel t ot cs b hot) _ (some d) _ k3) (wanted_put ot _ (some d) _ k3)⟩,fun w' q V=>h.2.2 w' q ((V.perm p).tail) g _ p V⟩
 | fuel+1,listed,l,la,a,w,hl,p,h=>by
  refine fun D=>⟨⟨(h D).1.1,(h D).1.2.1,fun htr ot hot=>by
   obtain ⟨u,hu⟩:=(h D).1.2.2 htr ot hot
   have k3:∀e,some d=some e→e∉ot.looksAt ops:=fun e he=>by cases he;exact ((Zet hf).2.2 t ot hot (Ne.symm (Zc7 (Zet hf).1)) (.inr rfl)).1
   exact ⟨u,Zes hu (execOp_put ot (fun cs b=>hsel t ot cs b hot) _ (some d) _ k3) (wanted_put ot _ (some d) _ k3)⟩⟩,fun j hj hjt w' q V=> ?_⟩
  obtain ⟨_,oj,hoj,_⟩:=mem_ready.1 hj
  have hne:j≠i:=by
   rintro rfl
   rw [Zcl (mem_ready.1 hj).1] at hl
   cases hl
  have hap:=(Zet hf).2.2 j oj hoj hne ((h D).1.2.1 j hj)
  refine wpOp_mono (fun a' w1 h3=> ?_) (Zkn hoj hap.1 hap.2 (fun cs b=>hsel j oj cs b hoj) (fun c a w=>hQ c _ a w) ((h D).2 j hj hjt w' q (V.perm p).tail))
  obtain ⟨a1,rfl,q1,nw,fr,h4⟩:=h3
  exact ⟨q1,nw,fr,Zko hf hsel hQ (getD_set_true hl) ((p.append_left nw).trans List.perm_middle) h4⟩
theorem Za5 {i:Nat} (d:Tmp) (T:TypeId) (X:Array Value) (hf:Zgf md ops stop t i d T=true) (hs:Region.noSelect ops=true)
  (hQ:∀c d v a w,Q (.panic c) a w→Q (.panic c) (Act.put a d v) w) (hz:∀w,(zeroValue T).run P w= .ok (.agg X) w):
  ∀ {fuel:Nat} {listed:Array Bool} {l:List AV} {a:Act} {w:World},listed.getD i true=false→wpFl P md ops Q w0 stop t (ZcU w0 d T X R) fuel (listed.setIfInBounds i true) l a w→wpFl P md ops Q w0 stop t R (fuel+1) listed l a w:=by
 intro fuel
 obtain ⟨hlate,⟨o,ho,hop,hod,hog,hoa⟩,hap⟩:=Zet hf
 have hsel:=Region.noSelect_spec hs
 have key:∀ {fuel:Nat} {listed:Array Bool} {l:List AV} {a:Act} {w w':World},listed.getD i true=false→Zao w w'→Vars w0 w' l→wpFl P md ops Q w0 stop t (ZcU w0 d T X R) fuel (listed.setIfInBounds i true) l a w→
   wpOp P ops Q i (fun a1 w1=>Zao w' w1∧∃nw,Fresh nw w' w1∧wpFl P md ops Q w0 stop t R fuel (listed.setIfInBounds i true) (nw++l) a1 w1) a w':=fun {fuel listed l a w w'} hl q V H=>by
  refine wpOp_step ho fun K' hK=> ?_
  rw [if_pos (by unfold Region.wanted;rw [hog])]
  have hr:(Instr.alloc T true (.tuple #[])).run P w'= .ok (.pointer (some ⟨w'.heap.size,0,none⟩)) (w'.alloc (.cells X T)):=by simp [Instr.alloc,hz,newVar,newRow,Value.cells]
  unfold Oper.wp execOp
  simp only [hop,hr,Sem.run_bind,Sem.run_pure,Result.andThen_ok]
  refine hK _ _ ⟨ZaS w' _,[⟨w'.heap.size,T,X⟩],⟨fun v hv=> ?_,fun v hv=> ?_,List.pairwise_singleton _ _⟩, ?_⟩
  ·rw [List.mem_singleton.1 hv];exact Nat.le_refl _
  ·rw [List.mem_singleton.1 hv];exact heap_alloc_last w' _
  ·rw [hod]
   have hlt:i<listed.size:=by
    rcases Nat.lt_or_ge i listed.size with h'|h'
    ·exact h'
    ·simp [Array.getElem?_eq_none h'] at hl
   exact Zko hf hsel (fun c v a w=>hQ c _ v a w) (by simp [hlt]) (List.Perm.refl _) (ZhP H (q.trans (ZaS w' _)))
 have rdy:∀ {listed:Array Bool},listed.getD i true=false→i∈Region.ready md ops listed:=fun hl=>mem_ready.2 ⟨hl,o,ho,fun e he hb=>by rw [hoa e he] at hb;cases hb⟩
 induction fuel with
 | zero=>
  intro listed l a w hl H D
  refine ⟨⟨⟨i,rdy hl,Zc7 hlate⟩,fun j hj=>(Decidable.em (j=t)).elim .inr fun hjt=> .inl (Zer hlate D hj hjt (Zcl hl)),fun _=>H.2.1⟩,fun j hj hjt w' q V=> ?_⟩
  by_cases hji:j=i
  ·subst hji;exact key hl q V H
  ·have h1:=(mem_ready.1 hj).1
   rw [←getD_set_ne true (Ne.symm hji),H.1,Zer hlate D hj hjt (Zcl hl)] at h1
   cases h1
 | succ fuel ih=>
  intro listed l a w hl H D
  refine ⟨⟨⟨i,rdy hl,Zc7 hlate⟩,fun j hj=>(Decidable.em (j=t)).elim .inr fun hjt=> .inl (Zer hlate D hj hjt (Zcl hl)),fun htr=>(H (D.set (rdy hl))).1.2.2 (ready_mono htr (Ne.symm (Zc7 hlate)))⟩,fun j hj hjt w' q V=> ?_⟩
  by_cases hji:j=i
  ·subst hji;exact key hl q V H
  ·refine wpOp_mono (fun a' w1 h3=> ?_) ((H (D.set (rdy hl))).2 j (ready_mono hj hji) hjt w' q V)
   obtain ⟨q1,nw,fr,h4⟩:=h3
   refine ⟨q1,nw,fr,ih (by rw [getD_set_ne true hji];exact hl) ?_⟩
   rw [Array.setIfInBounds_comm _ _ hji]
   exact h4
theorem Zkp {S:World→Prop} {m:Nat} (ht:ops[t]? =none) (hS:∀w',Vars w0 w' []→S w'):∀ {fuel:Nat} {listed:Array Bool} {l:List AV} {a:Act} {w:World},Down md ops listed→Vars w0 w l→wpFl P md ops Q w0 stop t (fun _ a w=>wpAnyH P md ops Q S m stop a w) fuel listed l a w→wpAnyH P md ops Q S (fuel+m) listed a w
 | 0,_,l,a,w,_,V,h=>by
  rw [Nat.zero_add,h.1]
  exact h.2.2 w (Zao.refl w) V
 | fuel+1,listed,l,a,w,D,V,h=>by
  rw [show fuel+1+m=(fuel+m)+1 by omega]
  obtain ⟨i0,hi0,_⟩:=(h D).1.1
  refine ⟨fun h0=>(by rw [h0] at hi0;cases hi0),fun i hi=>wpOp_mono (fun a1 w1 h3=> ?_) ((h D).2 i hi (by
   rintro rfl
   obtain ⟨_,o,ho,_⟩:=mem_ready.1 hi
   rw [ht] at ho;cases ho) w (Zao.refl w) V)⟩
  obtain ⟨q1,nw,fr,h4⟩:=h3
  have V1:=V.fresh q1 fr
  exact ⟨hS _ (V1.sub (List.nil_sublist _)),Zkp ht hS (D.set hi) V1 h4⟩
theorem Zcw {S:World→Prop} {m:Nat} (hS:∀w',Vars w0 w' []→S w') {fuel:Nat} {listed:Array Bool} {l:List AV} {a:Act} {w:World} (V:Vars w0 w l) (h:wpFl P md ops Q w0 stop ops.size (fun _ a w=>wpAnyH P md ops Q S m stop a w) fuel listed l a w) (hd:Zkk md ops listed=true:=by kernel_rfl):wpAnyH P md ops Q S (fuel+m) listed a w:=
 Zkp (Array.getElem?_eq_none (Nat.le_refl _)) hS (Zdt hd) V h
def Zgg (md:Region.Mode) (ops:Array Oper) (stop:Array Bool) (t:Nat):Bool:=match ops[t]? with
 | none=>false
 | some ot=>(ot.dst.isSome&& !stop.getD t true&&ot.after.all fun e=> !Region.binds md e||stop.getD e.on false)&&(List.range ops.size).all fun j=>j==t||match ops[j]? with
  | none=>true
  | some oj=>(ot.after.any fun e=>Region.binds md e&&e.on==j)||(((oj.after.any fun e=>Region.binds md e&&e.on==t)&&(List.range ops.size).all fun i=> !stop.getD i true||ZdV md ops i ops.size j)||((oj.after.all fun e=> !(Region.binds md e&&e.on==t))&&ot.apart ops oj))
theorem Zkq {ot:Oper} (hot:ops[t]? =some ot) (h:Zgg md ops stop t=true):(∃d,ot.dst=some d)∧t∈Region.ready md ops stop∧∀j oj,ops[j]? =some oj→j≠t→
  (∃e∈ot.after,Region.binds md e=true∧e.on=j)∨((∃e∈oj.after,Region.binds md e=true∧e.on=t)∧∀i,stop.getD i true=true→i<ops.size→ZdV md ops i ops.size j=true)∨((∀e∈oj.after,Region.binds md e=true→e.on≠t)∧ot.apart ops oj=true):=by
 unfold Zgg at h
 rw [hot] at h
 simp only [Bool.and_eq_true,List.all_eq_true,List.mem_range,Option.isSome_iff_exists,Bool.not_eq_true',Array.all_eq_true_iff_forall_mem,Bool.or_eq_true] at h
 obtain ⟨⟨⟨h1,h2⟩,h3⟩,h4⟩:=h
 refine ⟨h1,mem_ready.2 ⟨h2,ot,hot,fun e he hb=>(h3 e he).elim (fun h=>by rw [hb] at h;cases h) id⟩,fun j oj hj hne=> ?_⟩
 have h5:=h4 j (Array.getElem?_eq_some_iff.1 hj).1
 rw [hj] at h5
 simp only [beq_iff_eq,hne,false_or,Bool.or_eq_true,Bool.and_eq_true,Array.any_eq_true',List.all_eq_true,List.mem_range,Bool.not_eq_true'] at h5
 rcases h5 with ⟨e,he,hb⟩|⟨⟨e,he,hb⟩,h6⟩|h6
 ·exact .inl ⟨e,he,hb.1,hb.2⟩
 ·exact .inr (.inl ⟨⟨e,he,hb.1,hb.2⟩,fun i hi hlt=>(h6 i hlt).elim (fun h=>by rw [hi] at h;cases h) id⟩)
 ·exact .inr (.inr ⟨fun e he hb heq=>by
   have h7:=Array.all_eq_true_iff_forall_mem.1 h6.1 e he
   simp [hb,heq] at h7,h6.2⟩)
theorem Zph {j:Nat} {oj ot:Oper} {v:Value} (hj:ops[j]? =some oj) (k3:∀d,oj.dst=some d→d∉ot.looksAt ops) (hst:∀cs b,ot.op≠ .select cs b) {K:Act→World→Prop} {a:Act} {w:World} (hy:Yields P ops ot v a) (h:wpOp P ops Q j K a w):
  wpOp P ops Q j (fun a1 w1=>K a1 w1∧Yields P ops ot v a1) a w:=by
 have keep:∀(a:Act) (u:Value),Yields P ops ot v a→Yields P ops ot v (a.put oj.dst u):=fun a u hy=>Zes hy (execOp_put ot hst a oj.dst u k3) (wanted_put ot a oj.dst u k3)
 have keepD:∀d,Yields P ops ot v { a with defers:=d::a.defers }:=fun d=>Zes hy rfl rfl
 unfold wpOp at*
 simp only [hj] at*
 split
 ·rename_i hw
  simp only [hw,if_true] at h
  rcases h with h|h
  case inr=>exact .inr h
  refine .inl ?_
  unfold Oper.wp at*
  generalize (execOp a.eval oj).run P w=r at*
  cases r with
  | ok n w'=>
   cases n<;>simp only [Oper.upon] at h ⊢
   case value u=>exact ⟨h,keep a u hy⟩
   case skip=>exact ⟨h,keep a undef hy⟩
   case defer e=>exact ⟨h,keep _ undef (keepD _)⟩
   case enter f args=>
    refine Calls.mono h fun e w'' he=> ?_
    cases e with
    | returned u=>exact ⟨he,keep a u hy⟩
    | panicked c=>exact he
    | outgrown=>exact he
   case row row args=>exact Rows.mono h fun u w'' he=>⟨he,keep a u hy⟩
  | halt x w'=>
   cases x<;>simp only [Oper.upon] at h ⊢
   case panic u=>exact h
 ·rename_i hw
  simp only [hw] at h
  exact ⟨h,keep a undef hy⟩
theorem Zkr {S:World→Prop} {m:Nat} {ot:Oper} {v:Value} (hot:ops[t]? =some ot) (hid:Zgg md ops stop t=true) (hsel:∀(j:Nat) (o:Oper) cs b,ops[j]? =some o→o.op≠ .select cs b)
  (hQ2:∀c d v a w,Q (.panic c) a w→Q (.panic c) (Act.put a d v) w) (hS:∀w',Vars w0 w' []→S w'):
  ∀ {fuel:Nat} {listed:Array Bool} {l:List AV} {a:Act} {w:World},Down md ops listed→Vars w0 w l→t∈Region.ready md ops listed→Yields P ops ot v a→
   wpFl P md ops Q w0 stop t (fun _ a w=>∀v,Yields P ops ot v a→wpAnyH P md ops Q S m (stop.setIfInBounds t true) (a.put ot.dst v) w) fuel listed l a w→wpAnyH P md ops Q S (fuel+m) (listed.setIfInBounds t true) (a.put ot.dst v) w
 | 0,_,l,a,w,_,V,_,hy,h=>by
  rw [Nat.zero_add,h.1]
  exact h.2.2 w (Zao.refl w) V v hy
 | fuel+1,listed,l,a,w,D,V,htr,hy,h=>by
  rw [show fuel+1+m=(fuel+m)+1 by omega]
  obtain ⟨i0,hi0,hne0⟩:=(h D).1.1
  have hst0:stop.getD i0 true=true:=((h D).1.2.1 i0 hi0).resolve_right hne0
  obtain ⟨htun,ot',hot',hall⟩:=mem_ready.1 htr
  rw [hot] at hot';cases hot'
  obtain ⟨⟨d,hd⟩,_,hsp⟩:=Zkq hot hid
  refine ⟨fun h0=>(by have:=ready_mono hi0 hne0;rw [h0] at this;cases this),fun i hi=> ?_⟩
  obtain ⟨hiun,oi,hoi,hiall⟩:=mem_ready.1 hi
  have hit:i≠t:=by
   rintro rfl
   have hlt:i<listed.size:=by
    rcases Nat.lt_or_ge i listed.size with h'|h'
    ·exact h'
    ·simp [Array.getElem?_eq_none h'] at htun
   simp [hlt] at hiun
  have hiun':listed.getD i true=false:=by rwa [getD_set_ne true (Ne.symm hit)] at hiun
  have n1:¬ ∃e∈ot.after,Region.binds md e=true∧e.on=i:=fun ⟨e,he,hb,h1⟩=>by
   have h2:=hall e he hb
   rw [h1,Zcl hiun'] at h2
   cases h2
  have n2:¬((∃e∈oi.after,Region.binds md e=true∧e.on=t)∧∀i',stop.getD i' true=true→i'<ops.size→ZdV md ops i' ops.size i=true):=fun ⟨_,h1⟩=>by
   have h2:=h1 i0 hst0 (by obtain ⟨_,o,ho,_⟩:=mem_ready.1 hi0;exact (Array.getElem?_eq_some_iff.1 ho).1)
   have h3:=ZhQ (D.set htr) h2 (fun o ho=>by rw [hoi] at ho;cases ho;exact hiall)
   rw [getD_set_ne false (Ne.symm hne0),Zcl (mem_ready.1 hi0).1] at h3
   cases h3
  obtain ⟨hno,hap⟩:=((hsp i oi hoi hit).resolve_left n1).resolve_left n2
  have hsp2:=Oper.apart_spec hap
  ·have hi':i∈Region.ready md ops listed:=mem_ready.2 ⟨hiun',oi,hoi,fun e he hb=>by
    have h1:=hiall e he hb
    rwa [getD_set_ne false (fun h=>hno e he hb h.symm)] at h1⟩
   have h2:=Zph hoi hsp2.2.2 (fun cs b=>hsel t ot cs b hot) hy ((h D).2 i hi' hit w (Zao.refl w) V)
   rw [hd]
   refine wpOp_mono (fun a' w1 h3=> ?_) (Zkn hoi (hsp2.1 d hd) (hsp2.2.1 d hd) (fun cs b=>hsel i oi cs b hoi) (fun c a w=>hQ2 c _ _ a w) h2)
   obtain ⟨a1,rfl,⟨q1,nw,fr,h4⟩,hy1⟩:=h3
   have V1:=V.fresh q1 fr
   refine ⟨hS _ (V1.sub (List.nil_sublist _)), ?_⟩
   have h5:=Zkr hot hid hsel hQ2 hS (D.set hi') V1 (ready_mono htr (Ne.symm hit)) hy1 h4
   rw [hd] at h5
   rw [Array.setIfInBounds_comm _ _ (Ne.symm hit)]
   exact h5
theorem ZdW (t:Nat) {S:World→Prop} {m:Nat} {ot:Oper} (hot:ops[t]? =some ot) (hid:Zgg md ops stop t=true) (hs:Region.noSelect ops=true)
  (hQ:∀c d v a w,Q (.panic c) (Act.put a d v) w→Q (.panic c) a w) (hQ2:∀c d v a w,Q (.panic c) a w→Q (.panic c) (Act.put a d v) w) (hS:∀w',Vars w0 w' []→S w'):
  ∀ {fuel:Nat} {listed:Array Bool} {l:List AV} {a:Act} {w:World},Down md ops listed→listed.getD t true=false→Vars w0 w l→
   wpFl P md ops Q w0 stop t (fun _ a w=>∀v,Yields P ops ot v a→wpAnyH P md ops Q S m (stop.setIfInBounds t true) (a.put ot.dst v) w) fuel listed l a w→wpAnyH P md ops Q S (fuel+(m+1)) listed a w:=by
 obtain ⟨_,hts,hsp⟩:=Zkq hot hid
 have hsel:=Region.noSelect_spec hs
 have free:∀ {listed:Array Bool},t∈Region.ready md ops listed→∀j oj,ops[j]? =some oj→j≠t→listed.getD j true=false→(∀e∈oj.after,Region.binds md e=true→e.on≠t)→ot.apart ops oj=true:=fun {listed} htr j oj hj hne hun hno=>by
  obtain ⟨_,ot',hot',hall⟩:=mem_ready.1 htr
  rw [hot] at hot';cases hot'
  rcases hsp j oj hj hne with ⟨e,he,hb,h1⟩|⟨⟨e,he,hb,h1⟩,_⟩|h1
  ·have h2:=hall e he hb
   rw [h1,Zcl hun] at h2
   cases h2
  ·exact absurd h1 (hno e he hb)
  ·exact h1.2
 intro fuel
 induction fuel with
 | zero=>
  intro listed l a w D hun V h
  obtain ⟨v,hy⟩:=h.2.1 ot hot
  rw [h.1,Nat.zero_add]
  exact wpAnyH_first hot hsel (fun c a w=>hQ c _ _ a w) m stop a w (free hts) hts hy.yieldsIf (hS _ (V.sub (List.nil_sublist _))) (h.2.2 w (Zao.refl w) V v hy)
 | succ fuel ih=>
  intro listed l a w D hun V h
  by_cases htr:t∈Region.ready md ops listed
  ·obtain ⟨v,hy⟩:=(h D).1.2.2 htr ot hot
   rw [show fuel+1+(m+1)=(fuel+1+m)+1 by omega]
   exact wpAnyH_first hot hsel (fun c a w=>hQ c _ _ a w) _ listed a w (free htr) htr hy.yieldsIf (hS _ (V.sub (List.nil_sublist _))) (Zkr hot hid hsel hQ2 hS D V htr hy h)
  ·rw [show fuel+1+(m+1)=(fuel+(m+1))+1 by omega]
   obtain ⟨i0,hi0,_⟩:=(h D).1.1
   refine ⟨fun h0=>(by rw [h0] at hi0;cases hi0),fun i hi=> ?_⟩
   have hit:i≠t:=by rintro rfl;exact htr hi
   refine wpOp_mono (fun a1 w1 h3=> ?_) ((h D).2 i hi hit w (Zao.refl w) V)
   obtain ⟨q1,nw,fr,h4⟩:=h3
   have V1:=V.fresh q1 fr
   exact ⟨hS _ (V1.sub (List.nil_sublist _)),ih (D.set hi) (by rw [getD_set_ne true hit];exact hun) V1 h4⟩
theorem ZhR {a:Act}:Zdu P ops ops.size a:=fun o ho=>by rw [Array.getElem?_eq_none (Nat.le_refl _)] at ho;cases ho
theorem ZdX {listed:Array Bool} {l:List AV} {a:Act} {w:World} {d:Tmp} {T:TypeId} {X:Array Value} {R:Act→World→Prop} (hs:listed=stop)
  (h:∀w' g,Zao w w'→Vars w0 w' (⟨g,T,X⟩::l)→R (a.put (some d) (.pointer (some ⟨g,0,none⟩))) w') (hy:Zdu P ops t a:=by exact ZhR):wpFl P md ops Q w0 stop t (ZcU w0 d T X (fun _=>R)) 0 listed l a w:=
 ⟨hs,hy,fun w' q _ g _ p V=>h w' g q (V.perm p)⟩
theorem ZhS {listed:Array Bool} {l:List AV} {a:Act} {w:World} {d d':Tmp} {T T':TypeId} {X X':Array Value} {R:Act→World→Prop} (hs:listed=stop)
  (h:∀w' g g',Zao w w'→Vars w0 w' (⟨g,T,X⟩::⟨g',T',X'⟩::l)→R ((a.put (some d') (.pointer (some ⟨g',0,none⟩))).put (some d) (.pointer (some ⟨g,0,none⟩))) w') (hy:Zdu P ops t a:=by exact ZhR):
  wpFl P md ops Q w0 stop t (ZcU w0 d' T' X' (ZcU w0 d T X (fun _=>R))) 0 listed l a w:=
 ⟨hs,hy,fun w' q _ g' _ p' _ g _ p V=>h w' g g' q (V.perm (p.trans (p'.cons _)))⟩
theorem Zks {listed:Array Bool} {l:List AV} {a:Act} {w:World} {d d' d'':Tmp} {T T' T'':TypeId} {X X' X'':Array Value} {R:Act→World→Prop} (hs:listed=stop)
  (h:∀w' g g' g'',Zao w w'→Vars w0 w' (⟨g,T,X⟩::⟨g',T',X'⟩::⟨g'',T'',X''⟩::l)→R (((a.put (some d'') (.pointer (some ⟨g'',0,none⟩))).put (some d') (.pointer (some ⟨g',0,none⟩))).put (some d) (.pointer (some ⟨g,0,none⟩))) w') (hy:Zdu P ops t a:=by exact ZhR):
  wpFl P md ops Q w0 stop t (ZcU w0 d'' T'' X'' (ZcU w0 d' T' X' (ZcU w0 d T X (fun _=>R)))) 0 listed l a w:=
 ⟨hs,hy,fun w' q _ g'' _ p'' _ g' _ p' _ g _ p V=>h w' g g' g'' q (V.perm (p.trans ((p'.trans (p''.cons _)).cons _)))⟩
theorem Zpi {o:Oper} {u v:Value} {a:Act} {w:World} (hu:Yields P ops o u a) (hv:Yields P ops o v a):v=u:=by
 rcases hu with ⟨h1,h2⟩|⟨h1,h2⟩<;>rcases hv with ⟨h3,h4⟩|⟨h3,h4⟩
 ·have:=(h2 w).symm.trans (h4 w)
  simp only [Result.ok.injEq,Next.value.injEq,and_true] at this
  exact this.symm
 ·rw [h1] at h3;cases h3
 ·rw [h1] at h3;cases h3
 ·rw [h2,h4]
theorem ZdY {S:World→Prop} {m:Nat} {ot:Oper} (u:Value) {listed:Array Bool} {l:List AV} {a:Act} {w:World} {d:Tmp} {T:TypeId} {X:Array Value} (hot:ops[t]? =some ot) (hu:Yields P ops ot u a) (hs:Region.noSelect ops=true) (hd:(ot.looksAt ops).contains d=false) (hl:listed=stop)
  (h:∀w' g,Zao w w'→Vars w0 w' (⟨g,T,X⟩::l)→wpAnyH P md ops Q S m (stop.setIfInBounds t true) ((a.put (some d) (.pointer (some ⟨g,0,none⟩))).put ot.dst u) w'):
  wpFl P md ops Q w0 stop t (ZcU w0 d T X (fun _ a w=>∀v,Yields P ops ot v a→wpAnyH P md ops Q S m (stop.setIfInBounds t true) (a.put ot.dst v) w)) 0 listed l a w:=
 ⟨hl,fun o ho=>by rw [hot] at ho;cases ho;exact ⟨u,hu⟩,fun w' q _ g _ p V v hv=>by
  have k3:∀e,some d=some e→e∉ot.looksAt ops:=fun e he=>by cases he;simpa using hd
  have hu':=Zes hu (execOp_put ot (fun cs b=>Region.noSelect_spec hs t ot cs b hot) a (some d) (.pointer (some ⟨g,0,none⟩)) k3) (wanted_put ot a (some d) (.pointer (some ⟨g,0,none⟩)) k3)
  obtain rfl:=Zpi (w:=w') hu' hv
  exact h w' g q (V.perm p)⟩
end
end Go.Proofs.YtcaloldcihpkfaaGreatDoor.N

/-
 The code of layer 16 (field), as it landed: arrays of words and bytes as values; step.
-/
namespace Go.Proofs.YtcaloldcihpkfaaGreatDoor.N
open Go.RowKit
set_option linter.unusedVariables false
set_option maxRecDepth 8192

theorem ZgZ {k1 k2:IntKind} {a b c d:Int} (h1:a=b) (h2:c=d):Ending.returned (.tuple #[.int k1 a, .int k2 c])= .returned (.tuple #[.int k1 b, .int k2 d]):=by rw [h1,h2]
def bA (a:Nat):Array Value:=arr .u8 (digL a 32)
def wA (a:Nat):Array Value:=arr .u64 (W.digL a 4)
def lA (a:Nat):Array Value:=arr .u64 (W.digL a 8)
theorem ZbE (a:Nat):bA a=arr .u8 (digL a 32):=rfl
theorem ZbZ (a:Nat):wA a=arr .u64 (W.digL a 4):=rfl
theorem ZhT (a:Nat):lA a=arr .u64 (W.digL a 8):=rfl
theorem Zaf (a:Nat):(bA a).size=32:=by rw [ZbE,Zfh,Zap]
theorem Zae (a:Nat):(wA a).size=4:=by rw [ZbZ,Zfh,W.Zap]
theorem Zpj (a:Nat):(lA a).size=8:=by rw [ZhT,Zfh,W.Zap]
theorem Zdv (a:Nat):(bA a).all (·.oneCell')=true:=ZhM _ _
theorem ZaO (a:Nat):(wA a).all (·.oneCell')=true:=ZhM _ _
theorem Zgh:bA 0=arr .u8 (List.replicate 32 0):=by rw [ZbE,Zfd]
theorem Zpk:wA 0=arr .u64 (List.replicate 4 0):=by rw [ZbZ,W.Zfd]
theorem Zc8 (a i:Nat) (hi:i<32):(bA a)[i]? =some (.int .u8 ((a/256^i%256:Nat):Int)):=by
 rw [ZbE,ZdU _ _ i (by rw [Zap];exact hi)]
 have:=Zbk (x:=a) (n:=32) hi
 unfold dg at this
 rw [this]
theorem Zgi (a i:Nat) (hi:i<4):(wA a)[i]? =some (.int .u64 ((a/18446744073709551616^i%18446744073709551616:Nat):Int)):=by
 rw [ZbZ,ZdU _ _ i (by rw [W.Zap];exact hi)]
 have:=W.Zbk (x:=a) (n:=4) hi
 unfold W.dg at this
 rw [this]
theorem w256:(18446744073709551616:Nat)^4=2^256:=by decide
theorem b256:(256:Nat)^32=2^256:=by decide
theorem Zkt {a b:Nat} (ha:a<2^256) (hb:b<2^256) (h:digL a 32=digL b 32):a=b:=by
 have:=congrArg vL h
 rwa [Zbg (by rw [b256];exact ha),Zbg (by rw [b256];exact hb)] at this
theorem Zpl {a b:Nat} (ha:a<2^256) (hb:b<2^256) (h:W.digL a 4=W.digL b 4):a=b:=by
 have:=congrArg W.vL h
 rwa [W.Zbg (by rw [w256];exact ha),W.Zbg (by rw [w256];exact hb)] at this
attribute [irreducible] bA wA lA
theorem Zpm {P:Program} {w:World} (ty e:TypeId) (m:Nat) (cs:Array Value) (k ek:IntKind) (i:Nat) (z:Int) (hu:P.underlying ty=some (.array m e)) (hue:P.underlying e=some (.int ek)) (he:(P.info? e).map (·.size)=some 1) (hi:i<m) (hv:cs[i]? =some (.int ek z)):
  (Instr.index ty (.agg cs) (.int k (i:Int))).run P w= .ok (.int ek z) w:=by
 have h1:(0:Int)≤(i:Int)∧(i:Int)<(m:Int):=by omega
 obtain ⟨inf,hq,hs⟩:=Option.map_eq_some_iff.1 he
 simp [Instr.index,asIntOf,run_underlying hu,run_underlying hue,sizeOf,typeInfo,hq,hs,h1,part,isAgg,hv,go_sem]
 omega
theorem Zfi {P:Program} {ops:Array Oper} {rest:List Oper} {o:Oper} {a:Act} {w:World} {Q:Exit→Act→World→Prop} (hgd:o.guard=none) (ty:TypeId) (x y:Operand) (ho:o.op= .index ty x y)
  (cs:Array Value) (k:IntKind) (i:Nat) (hx:a.eval x= .agg cs) (hy:a.eval y= .int k (i:Int)) {e:TypeId} {m:Nat} {ek:IntKind} {z:Int} (hu:P.underlying ty=some (.array m e)) (hue:P.underlying e=some (.int ek)) (he:(P.info? e).map (·.size)=some 1) (hi:i<m) (hv:cs[i]? =some (.int ek z))
  (h:wpList P ops Q rest (a.put o.dst (.int ek z)) w):wpList P ops Q (o::rest) a w:=
 wpList_plain hgd fun _ hK=>by
  unfold Oper.wp execOp
  simp only [ho,hx,hy,Sem.run_bind,Sem.run_pure,Result.andThen_ok,Zpm ty e m cs k ek i z hu hue he hi hv]
  exact hK _ _ h
theorem Tryz.szB:(Tryz.prog.info? 22).map (·.size)=some 32:=by kernel_rfl
theorem Tryz.szW:(Tryz.prog.info? 146).map (·.size)=some 4:=by kernel_rfl
theorem Tryz.sz8:(Tryz.prog.info? 5).map (·.size)=some 1:=by kernel_rfl
theorem Tryz.sz64:(Tryz.prog.info? 144).map (·.size)=some 1:=by kernel_rfl
theorem Zbu (w:World):(zeroValue 22).run Tryz.prog w= .ok (.agg (bA 0)) w:=by rw [Zgh];kernel_rfl
theorem ZaV (w:World):(zeroValue 146).run Tryz.prog w= .ok (.agg (wA 0)) w:=by rw [Zpk];kernel_rfl
theorem Zku (w:World):(zeroValue 146).run Tryz.prog w= .ok (.agg (arr .u64 (List.replicate 4 0))) w:=by kernel_rfl
theorem Zkv (w:World):(zeroValue 22).run Tryz.prog w= .ok (.agg (arr .u8 (List.replicate 32 0))) w:=by kernel_rfl
theorem Tryz.szL:(Tryz.prog.info? 157).map (·.size)=some 8:=by kernel_rfl
theorem Zpn (w:World):(zeroValue 157).run Tryz.prog w= .ok (.agg (arr .u64 (List.replicate 8 0))) w:=by kernel_rfl
set_option maxHeartbeats 1000000 in
theorem Zdk (x y:Nat) (hx:x<18446744073709551616) (hy:y<18446744073709551616) (w:World):
  Calls Tryz.prog 166 #[.int .u64 (x:Int), .int .u64 (y:Int)] w fun e w'=>e= .returned (.tuple #[.int .u64 ((x*y/18446744073709551616:Nat):Int), .int .u64 ((x*y%18446744073709551616:Nat):Int)])∧w=w':=by
 obtain ⟨bd,bt,bw,hhi⟩:=Lib.mul64_hi x y hx hy
 have ba:=Lib.half_mul_le (a:=x/4294967296) (b:=y/4294967296) (by omega) (by omega)
 have bb:=Lib.half_mul_le (a:=x/4294967296) (b:=y%4294967296) (by omega) (by omega)
 have bc:=Lib.half_mul_le (a:=x%4294967296) (b:=y/4294967296) (by omega) (by omega)
 have ba':x/4294967296*(y/4294967296)<18446744073709551616:=by omega
 have bb':x/4294967296*(y%4294967296)<18446744073709551616:=by omega
 have bc':x%4294967296*(y/4294967296)<18446744073709551616:=by omega
 have b1:x/4294967296*(y/4294967296)+(x/4294967296*(y%4294967296)+x%4294967296*(y%4294967296)/4294967296)/4294967296<18446744073709551616:=by omega
 have b2:x/4294967296*(y/4294967296)+(x/4294967296*(y%4294967296)+x%4294967296*(y%4294967296)/4294967296)/4294967296+((x/4294967296*(y%4294967296)+x%4294967296*(y%4294967296)/4294967296)%4294967296+x%4294967296*(y/4294967296))/4294967296<18446744073709551616:=by omega
 go_enter Tryz.func166,Tryz.ntmps166
 go_wp2
 simp only [Mul64.maskN x hx,Mul64.maskN y hy,Mul64.divN,Mul64.mulN,Mul64.addN,Mul64.wrapN _ bd,Mul64.wrapN _ bb',Mul64.wrapN _ bt,Mul64.maskN _ bt,Mul64.wrapN _ bc',Mul64.wrapN _ bw,Mul64.wrapN _ ba',Mul64.wrapN _ b1,Mul64.wrapN _ b2,Mul64.wrapM (x*y)]
 rw [hhi]
 go_ret2
 exact ⟨rfl,rfl⟩
theorem Ze3 (x y c:Nat) (hc:c≤1) (w:World):(callFunc 209 #[.int .u64 (x:Int), .int .u64 (y:Int), .int .u64 (c:Int)]).run Tryz.prog w=
  .ok (.value (.tuple #[.int .u64 (((x+y+c)%18446744073709551616:Nat):Int), .int .u64 (((x+y+c)/18446744073709551616:Nat):Int)])) w:=by
 rw [run_callFunc_extern Tryz.func209 (by kernel_rfl) (by kernel_rfl) (by kernel_rfl) (e:=add64Entry) (by kernel_rfl),run_add64 x y c (by omega) (by omega) (by omega) (by omega)]
 simp only [Result.andThen]
 congr 5<;>omega
theorem Zkw (x y:Nat) (w:World):(callFunc 209 #[.int .u64 (x:Int), .int .u64 (y:Int), .int .u64 0]).run Tryz.prog w=
  .ok (.value (.tuple #[.int .u64 (((x+y)%18446744073709551616:Nat):Int), .int .u64 (((x+y)/18446744073709551616:Nat):Int)])) w:=Ze3 x y 0 (by decide) w
def Zkx:Array Value→Sem Value:=fun args=>do
 let (x,y,b) ←Extern.MathBitsCarry.three "Sub64" args
 pure (Extern.MathBitsCarry.pair ((x+Extern.MathBitsCarry.m64 - y - b)%Extern.MathBitsCarry.m64) (if x<y+b then 1 else 0))
theorem Zpo {P:Program} (x y k:Nat) (hk:k≤1) (w:World):(Zkx #[.int .u64 (x:Int), .int .u64 (y:Int), .int .u64 (k:Int)]).run P w=
  .ok (Extern.MathBitsCarry.pair ((x+Extern.MathBitsCarry.m64 - y - k)%Extern.MathBitsCarry.m64) (if x<y+k then 1 else 0)) w:=by
 rcases (show k=0∨k=1 by omega) with rfl|rfl<;>rfl
theorem Zpp (x y c:Nat) (hc:c≤1) (w:World):(callFunc 149 #[.int .u64 (x:Int), .int .u64 (y:Int), .int .u64 (c:Int)]).run Tryz.prog w=
  .ok (.value (.tuple #[.int .u64 (((x+18446744073709551616 - y - c)%18446744073709551616:Nat):Int), .int .u64 (((if x<y+c then 1 else 0:Nat)):Int)])) w:=by
 rw [run_callFunc_extern Tryz.func149 (by kernel_rfl) (by kernel_rfl) (by kernel_rfl) (e:=Zkx) (by kernel_rfl),Zpo x y c hc]
 rfl
def stLo (x y s o:Nat):Nat:=(x*y+s+o)%18446744073709551616
def stHi (x y s o:Nat):Nat:=(x*y+s+o)/18446744073709551616
theorem Zg3 (x y s o:Nat) (hx:x<18446744073709551616) (hy:y<18446744073709551616) (hs:s<18446744073709551616) (ho:o<18446744073709551616) (hi lo c1 c2 l1 l2:Nat)
  (h1:x*y/18446744073709551616=hi) (h2:x*y%18446744073709551616=lo) (h3:(lo+s)%18446744073709551616=l1) (h4:(lo+s)/18446744073709551616=c1) (h5:(l1+o)%18446744073709551616=l2) (h6:(l1+o)/18446744073709551616=c2):
  l2=stLo x y s o∧hi+c1+c2=stHi x y s o∧hi+c1+c2<18446744073709551616:=by
 have hxy:x*y≤18446744073709551615*18446744073709551615:=Nat.mul_le_mul (by omega) (by omega)
 unfold stLo stHi
 generalize x*y=m at*
 omega
set_option maxHeartbeats 1600000 in
theorem Zc2 (x y s o:Nat) (w:World) (hx:x<18446744073709551616) (hy:y<18446744073709551616) (hs:s<18446744073709551616) (ho:o<18446744073709551616):
  Calls Tryz.prog 190 #[.int .u64 (x:Int), .int .u64 (y:Int), .int .u64 (s:Int), .int .u64 (o:Int)] w fun e w'=>e= .returned (.tuple #[.int .u64 ((stLo x y s o:Nat):Int), .int .u64 ((stHi x y s o:Nat):Int)])∧w=w':=by
 obtain ⟨hi,h1⟩:∃a,x*y/18446744073709551616=a:=⟨_,rfl⟩
 obtain ⟨lo,h2⟩:∃a,x*y%18446744073709551616=a:=⟨_,rfl⟩
 obtain ⟨l1,h3⟩:∃a,(lo+s)%18446744073709551616=a:=⟨_,rfl⟩
 obtain ⟨c1,h4⟩:∃a,(lo+s)/18446744073709551616=a:=⟨_,rfl⟩
 obtain ⟨l2,h5⟩:∃a,(l1+o)%18446744073709551616=a:=⟨_,rfl⟩
 obtain ⟨c2,h6⟩:∃a,(l1+o)/18446744073709551616=a:=⟨_,rfl⟩
 obtain ⟨r1,r2,r3⟩:=Zg3 x y s o hx hy hs ho hi lo c1 c2 l1 l2 h1 h2 h3 h4 h5 h6
 have hm:=Zdk x y hx hy w
 rw [h1,h2] at hm
 have a1:=fun w=>Zkw lo s w
 rw [h3,h4] at a1
 have a2:=fun w=>Zkw l1 o w
 rw [h5,h6] at a2
 have R1:Hid (l2=stLo x y s o):=r1
 have R2:Hid (hi+c1+c2=stHi x y s o):=r2
 clear h1 h2 h3 h4 h5 h6 r1 r2
 go_enter Tryz.func190,Tryz.ntmps190
 go_wp2_with fail
 refine hm.mono ?_
 rintro e w' ⟨rfl,rfl⟩
 clear hm
 go_wp2_with (first|rw [a1 _]|rw [a2 _])
 go_ret2
 exact ⟨ZgZ (by rw [R1.out]) (by rw [←R2.out];go_num),rfl⟩
end Go.Proofs.YtcaloldcihpkfaaGreatDoor.N

/-
 The laws of AvBase and Held in few words, as tools/mini.py writes them (a claim holds so many bytes and no more).
-/
namespace Go.Proofs.YtcaloldcihpkfaaGreatDoor.N
open Go.RowKit
set_option linter.unusedVariables false
set_option maxRecDepth 8192

abbrev Rt (P:Program) (f:FuncId) (args:Array Value) (v:Value) (w:World):Prop:=Calls P f args w fun e w'=>e= .returned v∧Below w.heap.size w w'
def tfL:Nat→Nat→List Bool
 | 0,_=>[]
 | n+1,m=>(m%2==1)::tfL n (m/2)
abbrev tf (n m:Nat):Array Bool:=(tfL n m).toArray
section
variable {P:Program} {ops:Array Oper} {Q:Exit→Act→World→Prop} {md:Region.Mode} {S:World→Prop}
theorem zR (rs:List Nat) (fuel:Nat) {listed:Array Bool} {a:Act} {w:World} (hb:(Region.noSelect ops&&Ze2 md ops rs listed)=true) (hQ:∀c d v a w,Q (.panic c) (Act.put a (some d) v) w→Q (.panic c) a w) (hS:S w)
  (h:∀K:Act→Prop,Hid (∀a',wpAnyH P md ops Q S fuel (Za9 rs listed) a' w→K a')→ZbI P ops S K rs a):wpAnyH P md ops Q S (fuel+rs.length) listed a w:=by
 rw [Bool.and_eq_true] at hb
 exact Zaz hb.1 (fun c d v a w hh=>by cases d with|none=>exact hh|some d=>exact hQ c d v a w hh) hb.2 hS h
theorem zO (i fuel:Nat) {o:Oper} {listed:Array Bool} {a:Act} {w:World} (hr:Region.ready md ops listed=[i]) (ho:ops[i]? =some o) (hw:Region.wanted o (yielded ops a.tmps)=true)
  (h:∀K':Act→World→Prop,(∀a w1,S w1→wpAnyH P md ops Q S fuel (listed.setIfInBounds i true) a w1→K' a w1)→Oper.wp P o a w K' Q):
  wpAnyH P md ops Q S (fuel+1) listed a w:=Za3 hr ho hw h
theorem zP (i j fuel:Nat) {oi oj:Oper} {listed:Array Bool} {a:Act} {w:World} (hr:Region.ready md ops listed=[i,j]) (hoi:ops[i]? =some oi)
  (hwi:Region.wanted oi (yielded ops a.tmps)=true) (hoj:ops[j]? =some oj) (hwj:Region.wanted oj (yielded ops a.tmps)=true)
  (hi:∀K':Act→World→Prop,(∀a w1,S w1→wpAnyH P md ops Q S fuel (listed.setIfInBounds i true) a w1→K' a w1)→Oper.wp P oi a w K' Q)
  (hj:∀K':Act→World→Prop,(∀a w1,S w1→wpAnyH P md ops Q S fuel (listed.setIfInBounds j true) a w1→K' a w1)→Oper.wp P oj a w K' Q):
  wpAnyH P md ops Q S (fuel+1) listed a w:=Zeq hr hoi hwi hoj hwj hi hj
theorem zC {K:Act→Prop} {i:Nat} {rs:List Nat} {a:Act} {o:Oper} (v:Value) (ho:ops[i]? =some o) (hw:Region.wanted o (yielded ops a.tmps)=true)
  (hv:∀w,S w→(execOp a.eval o).run P w= .ok (.value v) w) (h:ZbI P ops S K rs (a.put o.dst v)):ZbI P ops S K (i::rs) a:=Zad v ho hw hv h
end
section
variable {ops:Array Oper} {rest:List Oper} {o:Oper} {a:Act} {w w0:World} {Q:Exit→Act→World→Prop} {K:Act→World→Prop} {l:List AV}
theorem zB (V:Vars w0 w l) (i:Nat) {g n:Nat} (hi:l[i]? =some ⟨g,22,bA n⟩) (x:Operand) (ho:o.op= .load 22 x) (hx:a.eval x= .pointer (some ⟨g,0,none⟩)):(execOp a.eval o).run Tryz.prog w= .ok (.value (.agg (bA n))) w:=
 ZaH V i hi x ho hx Tryz.underlying22 Tryz.szB (Zaf _)
theorem zS (V:Vars w0 w l) (i:Nat) {g m:Nat} (hi:l[i]? =some ⟨g,22,bA m⟩) (x y:Operand) (hd:o.dst=none) (ho:o.op= .store 22 x y) (n:Nat)
  (hx:a.eval x= .pointer (some ⟨g,0,none⟩)) (hy:a.eval y= .agg (bA n)) (h:∀w',Vars w0 w' (l.set i ⟨g,22,bA n⟩)→K a w'):o.wp Tryz.prog a w K Q:=
 ZbD V i hi x y hd ho (bA n) hx hy Tryz.szB (Zaf _) (Zaf _) (Zdv _) h
theorem zL (V:Vars w0 w l) (i:Nat) {g m:Nat} (hi:l[i]? =some ⟨g,22,bA m⟩) (x y:Operand) (hgd:o.guard=none) (hd:o.dst=none) (ho:o.op= .store 22 x y) (n:Nat)
  (hx:a.eval x= .pointer (some ⟨g,0,none⟩)) (hy:a.eval y= .agg (bA n)) (h:∀w',Vars w0 w' (l.set i ⟨g,22,bA n⟩)→wpList Tryz.prog ops Q rest a w'):wpList Tryz.prog ops Q (o::rest) a w:=
 Zal V i hi x y hgd hd ho (bA n) hx hy Tryz.szB (Zaf _) (Zaf _) (Zdv _) h
theorem zD (V:Vars w0 w l) (i:Nat) {g n:Nat} (hi:l[i]? =some ⟨g,22,bA n⟩) (d:Tmp) (x:Operand) (hw:Region.wanted o (yielded ops a.tmps)=true) (hd:o.dst=some d) (ho:o.op= .load 22 x) (hx:a.eval x= .pointer (some ⟨g,0,none⟩))
  (h:wpList Tryz.prog ops Q rest (a.put (some d) (.agg (bA n))) w):wpList Tryz.prog ops Q (o::rest) a w:=
 ZaM V i hi d x hw hd ho hx Tryz.underlying22 Tryz.szB (Zaf _) h
theorem zA (V:Vars w0 w l) (d:Tmp) (hgd:o.guard=none) (hd:o.dst=some d) (ho:o.op= .alloc 22) (h:∀w' g,Vars w0 w' (⟨g,22,bA 0⟩::l)→wpList Tryz.prog ops Q rest (a.put (some d) (.pointer (some ⟨g,0,none⟩))) w'):wpList Tryz.prog ops Q (o::rest) a w:=
 Zai V d 22 hgd hd ho (bA 0) Zbu h
theorem zN (V:Vars w0 w l) (d:Tmp) (hd:o.dst=some d) (ho:o.op= .alloc 22) (h:∀w' g,Vars w0 w' (⟨g,22,bA 0⟩::l)→K (a.put (some d) (.pointer (some ⟨g,0,none⟩))) w'):o.wp Tryz.prog a w K Q:=
 Zke V d 22 hd ho (bA 0) Zbu h
end
end Go.Proofs.YtcaloldcihpkfaaGreatDoor.N

/-
 Arrays of 32 bytes in variables: as slices; a byte is read, a byte is written; one of a first byte.
-/
namespace Go.Proofs.YtcaloldcihpkfaaGreatDoor.N
open Go.RowKit
set_option linter.unusedVariables false
set_option maxRecDepth 8192

theorem Zgj {P:Program} (t e:TypeId) (n:Nat) (hu:P.underlying t=some (.array n e)) (he:(P.info? e).map (·.size)=some 1) (b o:Nat) (h3:0<n) (w:World):
  (Instr.sliceAt t (.pointer (some ⟨b,o,none⟩)) none none none).run P w= .ok (.slice (some ⟨b,o,none⟩) n n) w:=by
 have hal:P.arrayLen t=n:=by simp [Program.arrayLen,hu]
 have hel:P.elem t=e:=by simp [Program.elem,hu]
 obtain ⟨inf,hq,hs⟩:=Option.map_eq_some_iff.1 he
 rw [run_sliceAt_array_all w t ⟨b,o,none⟩ (by rw [hal,hel];exact hu)]
 rw [hal,hel]
 simp [sizeOf,typeInfo,hq,hs,slicedAt,show ¬n=0 by omega,Zbc]
theorem Zb0 {w:World} {g:Nat} {T:TypeId} {a:Nat} (h:w.heap[g]? =some (.cells (bA a) T (0,0))):Row .u8 w (some ⟨g,0,none⟩) 32 32 (nI (digL a 32)):=by
 refine ⟨by rw [Zaa,Zap],Nat.le_refl _,by unfold maxLen;omega,by simp,fun _=>⟨g,0,rfl,Zat h,fun i hi=> ?_⟩⟩
 rw [cell_of_row w g _ _ _ _ h,Nat.zero_add,Zc8 a i hi,ZbB,Zbk hi]
theorem vB {a:Nat} (h:a<2^256):vL (digL a 32)=a:=Zbg (by rw [b256];exact h)
theorem Zky {v x:Nat} (hv:v<2^256) (hx:x<256):(digL v 32).set 31 x=digL (v%256^31+x*256^31) 32:=by
 have h1:=ZbO (l:=digL v 32) (j:=31) (x:=x) (by rw [Zap];decide)
 rw [Zbg (by rw [b256];exact hv),Zbk (by decide)] at h1
 have h2:v/256^31%256=v/256^31:=Nat.mod_eq_of_lt (Nat.div_lt_of_lt_mul (by rw [show 256^31*256=2^256 by decide];exact hv))
 rw [h2] at h1
 have h3:=Nat.div_add_mod v (256^31)
 have h6:v%256^31<256^31:=Nat.mod_lt _ (Nat.pow_pos (by decide))
 have h4:vL ((digL v 32).set 31 x)=v%256^31+x*256^31:=by
  rw [Nat.mul_comm] at h3
  generalize 256^31=A at*
  omega
 have h5:v%256^31+x*256^31<256^32:=by
  rw [show (256:Nat)^32=256*256^31 by decide]
  generalize 256^31=A at*
  have:x*A≤255*A:=Nat.mul_le_mul_right _ (by omega)
  omega
 refine ((ZaD v 32).set 31 hx).ext (ZaD _ _) (by rw [List.length_set,Zap,Zap]) ?_
 rw [h4,Zbg h5]
section
variable {P:Program} {ops:Array Oper} {rest:List Oper} {o:Oper} {a:Act} {w w0:World} {Q:Exit→Act→World→Prop} {K:Act→World→Prop} {l:List AV}
theorem Zbz (V:Vars w0 w l) (i:Nat) {g:Nat} {T:TypeId} {X:Array Value} (hi:l[i]? =some ⟨g,T,X⟩) (off:Nat) {z:Int} (hz:X[off]? =some (.int .u8 z)):w.cell? ⟨g,off,none⟩=some (.int .u8 z):=by
 rw [cell_of_row w g off X T (0,0) (V.at i hi),hz]
theorem Vars.setB (V:Vars w0 w l) (i:Nat) {g:Nat} {T:TypeId} {v:Nat} (hi:l[i]? =some ⟨g,T,bA v⟩) (j:Nat) (x v':Nat) (hv:(digL v 32).set j x=digL v' 32):Vars w0 (w.setCell ⟨g,j,none⟩ (.int .u8 (x:Int))) (l.set i ⟨g,T,bA v'⟩):=by
 have hi2:l[i]? =some ⟨g,T,arr .u8 (digL v 32)⟩:=by rw [hi,ZbE]
 have V2:=V.setc i hi2 j x
 rw [hv, ←ZbE] at V2
 exact V2
end
theorem ZbL {a:Act} {o:Oper} {w w0:World} {l:List AV} (V:Vars w0 w l) (i:Nat) {g:Nat} {X:Array Value} (hi:l[i]? =some ⟨g,22,X⟩) (x:Operand) (ho:o.op= .slice 22 x none none none) (hx:a.eval x= .pointer (some ⟨g,0,none⟩)):
  (execOp a.eval o).run Tryz.prog w= .ok (.value (.slice (some ⟨g,0,none⟩) 32 32)) w:=by
 unfold execOp
 simp only [ho,hx,Option.map_none,Zgj 22 5 32 Tryz.underlying22 Tryz.sz8 g 0 (by decide) w,Sem.run_bind,Sem.run_pure,Result.andThen_ok]
theorem Zdw (n:Nat) (hn:n<256):Tryz.prog.built 22 [(0, .int .u8 (n:Int))]=some (bA n):=by
 have e:bA n=arr .u8 (n::List.replicate 31 0):=by
  rw [ZbE]
  congr 1
  refine (ZaD _ _).ext (fun y hy=> ?_) (by rw [Zap];rfl) ?_
  ·rcases List.mem_cons.1 hy with rfl|h
   ·exact hn
   ·rw [(List.mem_replicate.1 h).2];decide
  ·rw [Zbg (Nat.lt_of_lt_of_le hn (by decide))]
   have h1:=ZbO (l:=List.replicate 32 0) (j:=0) (x:=n) (by decide)
   rw [ZcM] at h1
   have h2:(List.replicate 32 0).set 0 n=n::List.replicate 31 0:=rfl
   have h3:dg (List.replicate 32 0) 0=0:=rfl
   rw [h2,h3] at h1
   omega
 rw [e]
 rfl
end Go.Proofs.YtcaloldcihpkfaaGreatDoor.N

/-
 The code of layer 16 (field): under, prime, read, told.
-/
namespace Go.Proofs.YtcaloldcihpkfaaGreatDoor.N
open Go.RowKit
set_option linter.unusedVariables false
set_option maxRecDepth 8192

set_option maxHeartbeats 1600000 in
theorem ZhU (n less n2 u v x0 x3:Nat) (w:World) (hb:Tryz.prog.built 146 [(0, .int .u64 (x0:Int)),(1, .int .u64 18446744073709551615),(2, .int .u64 18446744073709551615),(3, .int .u64 (x3:Int))]=some (wA v)) (hn:n - 192=n2) (hu:2^n2=u) (h0:18446744073709551616 - less=x0) (hx3:u - 1=x3) (h1:192≤n) (h2:n<256) (h3:0<less) (h4:less<100):
  Calls Tryz.prog 150 #[.int .i64 (n:Int), .int .u64 (less:Int)] w fun e w'=>e= .returned (.agg (wA v))∧Below w.heap.size w w':=by
 have V0:=Vars.start w
 have e1:IntKind.u64.wrap (-(less:Int))=(x0:Int):=by rw [IntKind.wrap_u64];omega
 have hp:u<18446744073709551616:=by
  have:2^n2<2^64:=Nat.pow_lt_pow_right (by decide) (by omega)
  omega
 have hp0:0<u:=by rw [←hu];exact Nat.two_pow_pos _
 have e2:IntKind.u64.wrap (2^n2)=(u:Int):=by rw [←hu,IntKind.wrap_u64];have:=hu;rw [show ((2:Int)^n2)=((2^n2:Nat):Int) from by simp];omega
 have e3:IntKind.u64.wrap ((u:Int) - 1)=(x3:Int):=by rw [IntKind.wrap_u64];omega
 have HB:Hid (Tryz.prog.built 146 [(0, .int .u64 (x0:Int)),(1, .int .u64 18446744073709551615),(2, .int .u64 18446744073709551615),(3, .int .u64 (x3:Int))]=some (wA v)):=hb
 clear hb hu h0 hx3
 go_enter Tryz.func150,Tryz.ntmps150
 go_wp2_with (first
  | (refine Zai V0 4 146 rfl rfl rfl (wA 0) ZaV ?_;intro w1 g1 V1)
  | (refine ZaR 11 146 _ rfl rfl rfl (wA v) HB.out ?_)
  | (refine Zal V1 0 rfl _ _ rfl rfl rfl (wA v) rfl rfl Tryz.szW (Zae _) (Zae _) (ZaO _) ?_;intro w2 V2))
 exact bodyPost_ret (ZaW rfl _ V2 0 rfl rfl Tryz.underlying146 Tryz.szW (Zae _)) rfl ⟨rfl,V2.bel⟩
theorem Zpq:arr .u64 [18446744073709551597,18446744073709551615,18446744073709551615,9223372036854775807]=wA fP:=by rw [ZbZ];congr 1
theorem Zpr:arr .u64 [18446744073709551595,18446744073709551615,18446744073709551615,9223372036854775807]=wA (fP - 2):=by rw [ZbZ];congr 1
theorem Zps:arr .u64 [18446744073709551613,18446744073709551615,18446744073709551615,1152921504606846975]=wA ((fP - 5)/8):=by rw [ZbZ];congr 1
theorem Zpt (w:World):Calls Tryz.prog 150 #[.int .i64 255, .int .u64 19] w fun e w'=>e= .returned (.agg (wA fP))∧Below w.heap.size w w':=
 ZhU 255 19 63 9223372036854775808 fP 18446744073709551597 9223372036854775807 w (by rw [←Zpq];kernel_rfl) rfl (by decide) rfl rfl (by decide) (by decide) (by decide) (by decide)
theorem Zpu (w:World):Calls Tryz.prog 150 #[.int .i64 255, .int .u64 21] w fun e w'=>e= .returned (.agg (wA (fP - 2)))∧Below w.heap.size w w':=
 ZhU 255 21 63 9223372036854775808 (fP - 2) 18446744073709551595 9223372036854775807 w (by rw [←Zpr];kernel_rfl) rfl (by decide) rfl rfl (by decide) (by decide) (by decide) (by decide)
theorem Zpv (w:World):Calls Tryz.prog 150 #[.int .i64 252, .int .u64 3] w fun e w'=>e= .returned (.agg (wA ((fP - 5)/8)))∧Below w.heap.size w w':=
 ZhU 252 3 60 1152921504606846976 ((fP - 5)/8) 18446744073709551613 1152921504606846975 w (by rw [←Zps];kernel_rfl) rfl (by decide) rfl rfl (by decide) (by decide) (by decide) (by decide)
theorem Zgk (w:World):Calls Tryz.prog 113 #[] w fun e w'=>e= .returned (.agg (wA fP))∧Below w.heap.size w w':=by
 have V0:=Vars.start w
 go_enter Tryz.func113,Tryz.ntmps113
 go_wp2_with (refine Zai V0 0 146 rfl rfl rfl (wA 0) ZaV ?_;intro w1 g1 V1)
 refine (Zpt w1).mono ?_
 rintro e w2 ⟨rfl,q2⟩
 have V2:=V1.call q2
 clear q2
 go_wp2_with (refine Zal V2 0 rfl _ _ rfl rfl rfl (wA fP) rfl rfl Tryz.szW (Zae _) (Zae _) (ZaO _) ?_;intro w3 V3)
 exact bodyPost_ret (ZaW rfl _ V3 0 rfl rfl Tryz.underlying146 Tryz.szW (Zae _)) rfl ⟨rfl,V3.bel⟩
set_option maxHeartbeats 1600000 in
theorem Zeu (a:Nat) (ha:a<2^256) (w:World):Calls Tryz.prog 112 #[.agg (bA a)] w fun e w'=>e= .returned (.agg (wA a))∧Below w.heap.size w w':=by
 have HA:Hid (a<2^256):=ha
 clear ha
 have V0:=Vars.start w
 go_enter Tryz.func112,Tryz.ntmps112
 go_wp2_with (first
  | (refine Zaj V0 1 22 _ rfl rfl rfl (bA a) rfl ?_;intro w1 g1 V1)
  | (refine Zai V1 2 146 rfl rfl rfl (wA 0) ZaV ?_;intro w2 g2 V2)
  | (refine Zai V2 3 146 rfl rfl rfl _ Zku ?_;intro w3 g3 V3)
  | (refine zD V3 2 rfl 6 _ rfl rfl rfl rfl ?_))
 clear V0 V1 V2
 go_loopw [7] (fun y wr=>∃(k:Nat) (m:List Nat),k≤32∧y= .int .i64 (k:Int)∧Hid (m.length=4∧W.Dig m∧W.vL m=a%256^k)∧Hid (Vars w wr [⟨g3,146,arr .u64 m⟩,⟨g2,146,wA 0⟩,⟨g1,22,bA a⟩])) (fun y _=>32 - (intOf y).toNat)
 case atStart=>exact ⟨0,List.replicate 4 0,by omega,rfl,⟨rfl,W.Dig.zero,by rw [W.ZcM,Nat.pow_zero,Nat.mod_one]⟩,V3⟩
 case round=>
  clear V3
  obtain ⟨k,m,hk,rfl,HM,HV⟩:=hrel
  by_cases hlt:k<32
  ·have HX:Hid ((bA a)[k]? =some (.int .u8 ((a/256^k%256:Nat):Int))):=Zc8 a k hlt
   have N:=W.Zpw HM.out.1 HM.out.2.1 HM.out.2.2 hlt rfl
   have hx9:a/256^k%256<256:=Nat.mod_lt _ (by decide)
   generalize a/256^k%256=x at*
   obtain ⟨n1,n2,n3,n4,n5⟩:=N
   have hq4:k/8<4:=by omega
   have V4:=HV.out
   have hc:=Zds (V4.at 0 rfl) (k/8) (by rw [HM.out.1];exact hq4)
   have hfz:=ZaJ (V4.at 0 rfl) (k/8)
   have V5:=V4.setc 0 rfl (k/8) (W.dg m (k/8)+x*256^(k%8))
   have HM5:Hid ((m.set (k/8) (W.dg m (k/8)+x*256^(k%8))).length=4∧W.Dig (m.set (k/8) (W.dg m (k/8)+x*256^(k%8)))∧W.vL (m.set (k/8) (W.dg m (k/8)+x*256^(k%8)))=a%256^(k+1)):=
    ⟨by rw [List.length_set];exact HM.out.1,HM.out.2.1.set _ n4,n5⟩
   have HV5:Hid (Vars w (wr.setCell ⟨g3,k/8,none⟩ (.int .u64 ((W.dg m (k/8)+x*256^(k%8):Nat):Int))) [⟨g3,146,arr .u64 (m.set (k/8) (W.dg m (k/8)+x*256^(k%8)))⟩,⟨g2,146,wA 0⟩,⟨g1,22,bA a⟩]):=V5
   rw [show m[k/8]?.getD 0=W.dg m (k/8) from rfl] at hc
   have hold:W.dg m (k/8)<18446744073709551616:=HM.out.2.1.at _
   generalize m.set (k/8) (W.dg m (k/8)+x*256^(k%8))=m5 at*
   generalize W.dg m (k/8)=old at*
   have et:(k:Int).tdiv 8=((k/8:Nat):Int):=by rw [Int.tdiv_eq_ediv_of_nonneg (by omega)];omega
   have em:(k:Int).tmod 8=((k%8:Nat):Int):=by rw [Int.tmod_eq_emod_of_nonneg (by omega)];omega
   have ep:(256:Nat)^(k%8)=2^(8*(k%8)):=by rw [Nat.pow_mul]
   have hr8:k%8<8:=Nat.mod_lt _ (by decide)
   rw [ep] at n2 n3 n4 HV5
   clear V4 V5 n1 n5 ep
   generalize k/8=q at*
   generalize k%8=r at*
   have es:(((r:Int)*8)).toNat=8*r:=by omega
   have ew:IntKind.u64.wrap ((x:Int)*2^(8*r))=((x*2^(8*r):Nat):Int):=by
    rw [IntKind.wrap_u64,show ((x:Int)*2^(8*r))=((x*2^(8*r):Nat):Int) from by simp];omega
   generalize x*2^(8*r)=y at*
   have eor:bits .or .u64 (old:Int) (y:Int)=((old+y:Nat):Int):=by rw [←n3];exact u64_or_nat old y hold n2
   generalize old+y=z at*
   go_wp2_with (refine Zfi rfl 22 _ _ rfl (bA a) _ k rfl rfl Tryz.underlying22 Tryz.underlying5 Tryz.sz8 hlt HX.out ?_)
   go_region
   go_wp2
   go_roundw
   case rel=>exact ⟨k+1,m5,by omega,by go_num,HM5,HV5.out.drew⟩
   case measure=>simp [intOf];omega
  ·obtain rfl:k=32:=by omega
   have HE:Hid (arr .u64 m=wA a):=by
    show _=_
    rw [ZbZ]
    congr 1
    refine HM.out.2.1.ext (W.ZaD _ _) (by rw [HM.out.1,W.Zap]) ?_
    rw [HM.out.2.2,W.Zdj,w256,b256]
   have V4:=HV.out
   rw [HE.out] at V4
   go_wp2_with (first
    | (refine ZaM V4 0 rfl 24 _ rfl rfl rfl rfl Tryz.underlying146 Tryz.szW (Zae _) ?_)
    | (refine Zal V4 1 rfl _ _ rfl rfl rfl (wA a) rfl rfl Tryz.szW (Zae _) (Zae _) (ZaO _) ?_;intro w5 V5))
   exact bodyPost_ret (ZaW rfl _ V5 1 rfl rfl Tryz.underlying146 Tryz.szW (Zae _)) rfl ⟨rfl,V5.bel⟩
def ZaU (L:List Nat) (n k:Nat):List Nat:=L.take k++List.replicate (n - k) 0
theorem ZcO {L:List Nat} {n k:Nat} (hL:L.length=n) (hk:k≤n):(ZaU L n k).length=n:=by simp [ZaU];omega
theorem Zeg (L:List Nat) (n:Nat):ZaU L n 0=List.replicate n 0:=by simp [ZaU]
theorem Zeh {L:List Nat} {n:Nat} (hL:L.length=n):ZaU L n n=L:=by simp [ZaU,List.take_of_length_le (show L.length≤n by omega)]
theorem Zei {L:List Nat} {n k:Nat} (hL:L.length=n) (hk:k<n):(ZaU L n k).set k (L[k]?.getD 0)=ZaU L n (k+1):=by
 unfold ZaU
 have hl:(L.take k).length=k:=by simp;omega
 rw [List.set_append_right _ _ (by omega),hl,Nat.sub_self,List.take_add_one,List.getElem?_eq_getElem (show k<L.length by omega),show n - k=(n - (k+1))+1 from by omega,List.replicate_succ,List.set_cons_zero,List.append_assoc]
 rfl
set_option maxHeartbeats 1600000 in
theorem Zdo (a:Nat) (w:World):Calls Tryz.prog 155 #[.agg (wA a)] w fun e w'=>e= .returned (.agg (bA a))∧Below w.heap.size w w':=by
 have V0:=Vars.start w
 go_enter Tryz.func155,Tryz.ntmps155
 go_wp2_with (first
  | (refine Zaj V0 1 146 _ rfl rfl rfl (wA a) rfl ?_;intro w1 g1 V1)
  | (refine zA V1 2 rfl rfl rfl ?_;intro w2 g2 V2)
  | (refine Zai V2 3 22 rfl rfl rfl _ Zkv ?_;intro w3 g3 V3))
 clear V0 V1 V2
 have HL:Hid ((digL a 32).length=32):=Zap a 32
 go_loopw [5] (fun y wr=>∃k:Nat,k≤32∧y= .int .i64 (k:Int)∧Hid (Vars w wr [⟨g3,22,arr .u8 (ZaU (digL a 32) 32 k)⟩,⟨g2,22,bA 0⟩,⟨g1,146,wA a⟩])) (fun y _=>32 - (intOf y).toNat)
 case atStart=>exact ⟨0,by omega,rfl,by rw [Zeg];exact V3⟩
 case round=>
  clear V3
  obtain ⟨k,hk,rfl,HV⟩:=hrel
  by_cases hlt:k<32
  ·have hq4:k/8<4:=by omega
   have V4:=HV.out
   have hc:wr.cell? ⟨g1,k/8,none⟩=some (.int .u64 ((a/18446744073709551616^(k/8)%18446744073709551616:Nat):Int)):=by rw [cell_of_row wr g1 _ _ _ _ (V4.at 2 rfl),Zgi a _ hq4]
   have hc2:=Zds (V4.at 0 rfl) k (by rw [ZcO HL.out hk];exact hlt)
   have hfz:=ZaJ (V4.at 0 rfl) k
   have V5:=V4.setc 0 rfl k ((digL a 32)[k]?.getD 0)
   rw [Zei HL.out hlt] at V5
   have e9:(digL a 32)[k]?.getD 0=a/18446744073709551616^(k/8)%18446744073709551616/256^(k%8)%256:=by
    rw [W.Zpx];exact Zbk hlt
   rw [e9] at V5
   have HV5:Hid (Vars w (wr.setCell ⟨g3,k,none⟩ (.int .u8 ((a/18446744073709551616^(k/8)%18446744073709551616/256^(k%8)%256:Nat):Int))) [⟨g3,22,arr .u8 (ZaU (digL a 32) 32 (k+1))⟩,⟨g2,22,bA 0⟩,⟨g1,146,wA a⟩]):=V5
   have et:(k:Int).tdiv 8=((k/8:Nat):Int):=by rw [Int.tdiv_eq_ediv_of_nonneg (by omega)];omega
   have em:(k:Int).tmod 8=((k%8:Nat):Int):=by rw [Int.tmod_eq_emod_of_nonneg (by omega)];omega
   have ep:(256:Nat)^(k%8)=2^(8*(k%8)):=by rw [Nat.pow_mul]
   have hr8:k%8<8:=Nat.mod_lt _ (by decide)
   rw [ep] at HV5
   clear V4 V5 ep e9
   generalize k/8=q at*
   generalize k%8=r at*
   have hx9:a/18446744073709551616^q%18446744073709551616<18446744073709551616:=Nat.mod_lt _ (by decide)
   generalize a/18446744073709551616^q%18446744073709551616=x at*
   generalize (ZaU (digL a 32) 32 k)[k]?.getD 0=old at*
   have es:(((r:Int)*8)).toNat=8*r:=by omega
   have ew:(x:Int)/2^(8*r)=((x/2^(8*r):Nat):Int):=by simp
   have hy9:x/2^(8*r)≤x:=Nat.div_le_self _ _
   generalize x/2^(8*r)=y at*
   have ew2:((y:Int)%256)=((y%256:Nat):Int):=by omega
   generalize y%256=z at*
   go_wp2
   go_roundw
   case rel=>exact ⟨k+1,by omega,by go_num,HV5⟩
   case measure=>simp [intOf];omega
  ·obtain rfl:k=32:=by omega
   have V4:=HV.out
   rw [Zeh HL.out, ←ZbE] at V4
   go_wp2_with (first
    | (refine zD V4 0 rfl 20 _ rfl rfl rfl rfl ?_)
    | (refine Zal V4 1 rfl _ _ rfl rfl rfl (bA a) rfl rfl Tryz.szB (Zaf _) (Zaf _) (Zdv _) ?_;intro w5 V5))
   exact bodyPost_ret (ZaW rfl _ V5 1 rfl rfl Tryz.underlying22 Tryz.szB (Zaf _)) rfl ⟨rfl,V5.bel⟩
end Go.Proofs.YtcaloldcihpkfaaGreatDoor.N

/-
 The code of layer 16 (field): plus, minus.
-/
namespace Go.Proofs.YtcaloldcihpkfaaGreatDoor.N
open Go.RowKit
set_option linter.unusedVariables false
set_option maxRecDepth 8192

theorem wD (a:Nat):W.Dig (W.digL a 4):=W.ZaD _ _
theorem wV {a:Nat} (h:a<2^256):W.vL (W.digL a 4)=a:=W.Zbg (by rw [w256];exact h)
theorem Zgl (b k:Nat) (hk:k<4):(wA b)[k]? =some (.int .u64 ((W.dg (W.digL b 4) k:Nat):Int)):=by rw [W.Zbk hk];exact Zgi b k hk
set_option maxHeartbeats 1600000 in
theorem Zkz (a b:Nat) (hs:a+b<2^256) (w:World):Calls Tryz.prog 208 #[.agg (wA a), .agg (wA b)] w fun e w'=>e= .returned (.agg (wA (a+b)))∧Below w.heap.size w w':=by
 have HS:Hid (a+b<2^256):=hs
 clear hs
 have V0:=Vars.start w
 go_enter Tryz.func208,Tryz.ntmps208
 go_wp2_with (first
  | (refine Zaj V0 2 146 _ rfl rfl rfl (wA a) rfl ?_;intro w1 g1 V1)
  | (refine Zaj V1 3 146 _ rfl rfl rfl (wA b) rfl ?_;intro w2 g2 V2)
  | (refine Zai V2 4 146 rfl rfl rfl (wA 0) ZaV ?_;intro w3 g3 V3)
  | (refine ZaM V3 1 rfl 8 _ rfl rfl rfl rfl Tryz.underlying146 Tryz.szW (Zae _) ?_))
 clear V0 V1 V2
 go_loopw [5,9] (fun cv y wr=>∃(k c:Nat) (m:List Nat),k≤4∧c≤1∧y= .int .i64 (k:Int)∧cv= .int .u64 (c:Int)∧Hid (W.PlusI (W.digL a 4) (W.digL b 4) m k c)∧Hid (Vars w wr [⟨g3,146,wA 0⟩,⟨g2,146,wA b⟩,⟨g1,146,arr .u64 m⟩])) (fun _ y _=>4 - (intOf y).toNat)
 case atStart=>exact ⟨0,0,W.digL a 4,by omega,by omega,rfl,rfl,W.PlusI.start _ (W.Zap _ _) (wD a),by rw [←ZbZ];exact V3⟩
 case round=>
  clear V3
  obtain ⟨k,c,m,hk,hc1,rfl,rfl,HI,HV⟩:=hrel
  by_cases hlt:k<4
  ·have HX:Hid ((wA b)[k]? =some (.int .u64 ((W.dg (W.digL b 4) k:Nat):Int))):=Zgl b k hlt
   have HN:=HI.out.next (wD b) hlt rfl
   have V4:=HV.out
   have hc:=Zds (V4.at 2 rfl) k (by rw [HI.out.len];exact hlt)
   have hfz:=ZaJ (V4.at 2 rfl) k
   have V5:=V4.setc 2 rfl k ((W.dg m k+W.dg (W.digL b 4) k+c)%18446744073709551616)
   have HI5:Hid (W.PlusI (W.digL a 4) (W.digL b 4) (m.set k ((W.dg m k+W.dg (W.digL b 4) k+c)%18446744073709551616)) (k+1) ((W.dg m k+W.dg (W.digL b 4) k+c)/18446744073709551616)):=HN
   have HV5:Hid (Vars w (wr.setCell ⟨g1,k,none⟩ (.int .u64 (((W.dg m k+W.dg (W.digL b 4) k+c)%18446744073709551616:Nat):Int))) [⟨g3,146,wA 0⟩,⟨g2,146,wA b⟩,⟨g1,146,arr .u64 (m.set k ((W.dg m k+W.dg (W.digL b 4) k+c)%18446744073709551616))⟩]):=V5
   have hd1:(W.dg m k+W.dg (W.digL b 4) k+c)/18446744073709551616≤1:=HN.cl
   rw [show m[k]?.getD 0=W.dg m k from rfl] at hc
   have ad:=fun w=>Ze3 (W.dg m k) (W.dg (W.digL b 4) k) c hc1 w
   clear V4 V5 HN
   generalize (W.dg m k+W.dg (W.digL b 4) k+c)/18446744073709551616=c5 at*
   generalize (W.dg m k+W.dg (W.digL b 4) k+c)%18446744073709551616=x5 at*
   generalize W.dg (W.digL b 4) k=y at*
   generalize W.dg m k=x at*
   go_wp2_with (first
    | (refine Zfi rfl 146 _ _ rfl (wA b) _ k rfl rfl Tryz.underlying146 Tryz.underlying144 Tryz.sz64 hlt HX.out ?_)
    | rw [ad _])
   go_roundw
   case rel=>exact ⟨k+1,c5,m.set k x5,by omega,hd1,by go_num,rfl,HI5,HV5⟩
   case measure=>simp [intOf];omega
  ·obtain rfl:k=4:=by omega
   have hab:a<2^256∧b<2^256:=by have:=HS.out;omega
   have HE:Hid (arr .u64 m=wA (a+b)):=by
    show _=_
    have:=HI.out.done (W.Zap _ _) (by rw [wV hab.1,wV hab.2,w256];exact HS.out)
    rw [wV hab.1,wV hab.2] at this
    rw [ZbZ,this]
   have V4:=HV.out
   rw [HE.out] at V4
   clear hab
   go_wp2_with (first
    | (refine ZaM V4 2 rfl 25 _ rfl rfl rfl rfl Tryz.underlying146 Tryz.szW (Zae _) ?_)
    | (refine Zal V4 0 rfl _ _ rfl rfl rfl (wA (a+b)) rfl rfl Tryz.szW (Zae _) (Zae _) (ZaO _) ?_;intro w5 V5))
   exact bodyPost_ret (ZaW rfl _ V5 0 rfl rfl Tryz.underlying146 Tryz.szW (Zae _)) rfl ⟨rfl,V5.bel⟩
set_option maxHeartbeats 1600000 in
theorem ZhV (a b:Nat) (ha:a<2^256) (hb:b<2^256) (w:World):Calls Tryz.prog 111 #[.agg (wA a), .agg (wA b)] w fun e w'=>e= .returned (.tuple #[.agg (wA ((a+2^256 - b)%2^256)), .bool (decide (a<b))])∧Below w.heap.size w w':=by
 have HS:Hid (a<2^256∧b<2^256):=⟨ha,hb⟩
 clear ha hb
 obtain ⟨z,hz⟩:∃z,(a+2^256 - b)%2^256=z:=⟨_,rfl⟩
 rw [hz]
 have HZ:Hid ((a+2^256 - b)%2^256=z):=hz
 clear hz
 have V0:=Vars.start w
 go_enter Tryz.func111,Tryz.ntmps111
 go_wp2_with (first
  | (refine Zaj V0 2 146 _ rfl rfl rfl (wA a) rfl ?_;intro w1 g1 V1)
  | (refine Zaj V1 3 146 _ rfl rfl rfl (wA b) rfl ?_;intro w2 g2 V2)
  | (refine Zai V2 4 146 rfl rfl rfl (wA 0) ZaV ?_;intro w3 g3 V3)
  | (refine ZaM V3 1 rfl 9 _ rfl rfl rfl rfl Tryz.underlying146 Tryz.szW (Zae _) ?_))
 clear V0 V1 V2
 go_loopw [6,10] (fun cv y wr=>∃(k c:Nat) (m:List Nat),k≤4∧c≤1∧y= .int .i64 (k:Int)∧cv= .int .u64 (c:Int)∧Hid (W.MinusI (W.digL a 4) (W.digL b 4) m k c)∧Hid (Vars w wr [⟨g3,146,wA 0⟩,⟨g2,146,wA b⟩,⟨g1,146,arr .u64 m⟩])) (fun _ y _=>4 - (intOf y).toNat)
 case atStart=>exact ⟨0,0,W.digL a 4,by omega,by omega,rfl,rfl,W.MinusI.start _ (W.Zap _ _) (wD a),by rw [←ZbZ];exact V3⟩
 case round=>
  clear V3
  obtain ⟨k,c,m,hk,hc1,rfl,rfl,HI,HV⟩:=hrel
  by_cases hlt:k<4
  ·have HX:Hid ((wA b)[k]? =some (.int .u64 ((W.dg (W.digL b 4) k:Nat):Int))):=Zgl b k hlt
   have V4:=HV.out
   have hc:=Zds (V4.at 2 rfl) k (by rw [HI.out.len];exact hlt)
   have hfz:=ZaJ (V4.at 2 rfl) k
   rw [show m[k]?.getD 0=W.dg m k from rfl] at hc
   have hx9:=HI.out.dig.at k
   have hy9:=(wD b).at k
   have ad:=fun w=>Zpp (W.dg m k) (W.dg (W.digL b 4) k) c hc1 w
   have hd1:(if W.dg m k<W.dg (W.digL b 4) k+c then 1 else 0:Nat)≤1:=by split<;>omega
   have hx5:(W.dg m k+18446744073709551616 - W.dg (W.digL b 4) k - c)%18446744073709551616<18446744073709551616:=Nat.mod_lt _ (by decide)
   have e5:(W.dg m k+18446744073709551616 - W.dg (W.digL b 4) k - c)%18446744073709551616+W.dg (W.digL b 4) k+c=W.dg m k+18446744073709551616*(if W.dg m k<W.dg (W.digL b 4) k+c then 1 else 0:Nat):=by split<;>omega
   generalize (if W.dg m k<W.dg (W.digL b 4) k+c then 1 else 0:Nat)=c5 at*
   generalize (W.dg m k+18446744073709551616 - W.dg (W.digL b 4) k - c)%18446744073709551616=x5 at*
   have HI5:Hid (W.MinusI (W.digL a 4) (W.digL b 4) (m.set k x5) (k+1) c5):=HI.out.next hlt hx5 hd1 e5
   have V5:=V4.setc 2 rfl k x5
   have HV5:Hid (Vars w (wr.setCell ⟨g1,k,none⟩ (.int .u64 ((x5:Nat):Int))) [⟨g3,146,wA 0⟩,⟨g2,146,wA b⟩,⟨g1,146,arr .u64 (m.set k x5)⟩]):=V5
   clear V4 V5 e5
   generalize W.dg (W.digL b 4) k=y at*
   generalize W.dg m k=x at*
   go_wp2_with (first
    | (refine Zfi rfl 146 _ _ rfl (wA b) _ k rfl rfl Tryz.underlying146 Tryz.underlying144 Tryz.sz64 hlt HX.out ?_)
    | rw [ad _])
   go_roundw
   case rel=>exact ⟨k+1,c5,m.set k x5,by omega,hd1,by go_num,rfl,HI5,HV5⟩
   case measure=>simp [intOf];omega
  ·obtain rfl:k=4:=by omega
   have hd:=HI.out.done (by rw [wV HS.out.1,w256];exact HS.out.1) (W.Zap _ _) (by rw [wV HS.out.2,w256];exact HS.out.2)
   rw [wV HS.out.1,wV HS.out.2,w256,HZ.out] at hd
   have HE:Hid (arr .u64 m=wA z):=by show _=_;rw [ZbZ, ←hd.2]
   have HC:Hid ((c==1)=decide (a<b)):=hd.1
   have hcc:((c:Int)==1)=(c==1):=by rw [Bool.eq_iff_iff];simp;omega
   have V4:=HV.out
   rw [HE.out] at V4
   clear hd
   generalize (c==1)=bc at*
   go_wp2_with (first
    | (refine ZaM V4 2 rfl 26 _ rfl rfl rfl rfl Tryz.underlying146 Tryz.szW (Zae _) ?_)
    | (refine Zal V4 0 rfl _ _ rfl rfl rfl (wA z) rfl rfl Tryz.szW (Zae _) (Zae _) (ZaO _) ?_;intro w5 V5))
   exact bodyPost_ret (Zcv rfl _ V5 0 rfl rfl Tryz.underlying146 Tryz.szW (Zae _)) rfl ⟨by rw [←HC.out];rfl,V5.bel⟩
end Go.Proofs.YtcaloldcihpkfaaGreatDoor.N

/-
 The code of layer 16 (field): folded, product.
-/
namespace Go.Proofs.YtcaloldcihpkfaaGreatDoor.N
open Go.RowKit
set_option linter.unusedVariables false
set_option maxRecDepth 8192

theorem ZkA (b k:Nat) (hk:k<8):(lA b)[k]? =some (.int .u64 ((W.dg (W.digL b 8) k:Nat):Int)):=by
 rw [ZhT,ZdU _ _ k (by rw [W.Zap];exact hk)]
 rfl
theorem lV {a:Nat} (h:a<18446744073709551616^8):W.vL (W.digL a 8)=a:=W.Zbg h
theorem ZhW:2*fP<2^256:=by have:=ZhX;omega
theorem Zpy {m c hi lo p:Nat} (hp:p=2^256) (hm:m<p) (hlo:lo<p) (h:m+c*p=38*hi+lo) (hc:c≤38) (t r:Nat) (ht:t=2*c+m/2^255) (hr:r=m%2^255) (V:Nat) (hV:V=lo+p*hi):(r+t*19)<2*fP∧(r+t*19)%fP=V%fP∧t≤77:=by
 have e1:=Nat.div_add_mod m (2^255)
 have e2:m/2^255<2:=Nat.div_lt_of_lt_mul (by omega)
 have e3:m%2^255<2^255:=Nat.mod_lt _ (by decide)
 have e4:fP=2^255 - 19:=ZhX
 refine ⟨by omega, ?_,by omega⟩
 have e5:V=(r+t*19)+fP*(t+2*hi):=by
  generalize fP=f at*
  have e6:f*t+19*t=2^255*t:=by rw [←Nat.add_mul,show f+19=2^255 from by omega]
  have e7:f*(2*hi)+19*(2*hi)=2^255*(2*hi):=by rw [←Nat.add_mul,show f+19=2^255 from by omega]
  rw [Nat.mul_add]
  generalize f*t=ft at*
  generalize f*(2*hi)=fh at*
  subst hp hV
  omega
 rw [e5,Nat.add_mul_mod_self_left]
theorem ZkB (x:Nat) (hx:x<18446744073709551616):Tryz.prog.built 146 [(0, .int .u64 (x:Int))]=some (wA x):=by
 have e:wA x=arr .u64 [x,0,0,0]:=by
  rw [ZbZ]
  congr 1
  refine (W.ZaD _ _).ext (fun y hy=> ?_) (by rw [W.Zap];rfl) ?_
  ·simp only [List.mem_cons,List.not_mem_nil,or_false] at hy
   rcases hy with rfl|rfl|rfl|rfl<;>omega
  ·rw [W.Zbg (by omega)]
   simp [W.vL,W.vTo,W.dg]
 rw [e]
 rfl
set_option maxHeartbeats 1600000 in
theorem Zpz (a:Nat) (ha:a<18446744073709551616^8) (cR:∀(x:Nat) (w:World),x<2*fP→Rt Tryz.prog 207 #[.agg (wA x)] (.agg (wA (x%fP))) w) (w:World):
  Calls Tryz.prog 191 #[.agg (lA a)] w fun e w'=>e= .returned (.agg (wA (a%fP)))∧Below w.heap.size w w':=by
 have HA:Hid (a<18446744073709551616^8):=ha
 clear ha
 have V0:=Vars.start w
 go_enter Tryz.func191,Tryz.ntmps191
 go_wp2_with (first
  | (refine Zaj V0 1 157 _ rfl rfl rfl (lA a) rfl ?_;intro w1 g1 V1)
  | (refine Zai V1 2 146 rfl rfl rfl (wA 0) ZaV ?_;intro w2 g2 V2)
  | (refine Zai V2 3 146 rfl rfl rfl _ Zku ?_;intro w3 g3 V3))
 clear V0 V1 V2
 have HD:Hid (W.Dig (W.digL a 8)):=W.ZaD _ _
 go_loopw [4,7] (fun cv y wr=>∃(k c:Nat) (m:List Nat),k≤4∧c≤38∧y= .int .i64 (k:Int)∧cv= .int .u64 (c:Int)∧Hid (W.FoldI (W.digL a 8) m k c)∧Hid (Vars w wr [⟨g3,146,arr .u64 m⟩,⟨g2,146,wA 0⟩,⟨g1,157,lA a⟩])) (fun _ y _=>4 - (intOf y).toNat)
 case atStart=>exact ⟨0,0,List.replicate 4 0,by omega,by omega,rfl,rfl,W.FoldI.start _,V3⟩
 case round=>
  clear V3
  obtain ⟨k,c,m,hk,hc1,rfl,rfl,HI,HV⟩:=hrel
  by_cases hlt:k<4
  ·have V4:=HV.out
   have hc:=Zds (V4.at 0 rfl) k (by rw [HI.out.len];exact hlt)
   have hfz:=ZaJ (V4.at 0 rfl) k
   have hx9:=HD.out.at k
   have hy9:=HD.out.at (k+4)
   have HN:=HI.out.next HD.out hlt rfl
   have hst:=fun w=>Zc2 (W.dg (W.digL a 8) (k+4)) 38 (W.dg (W.digL a 8) k) c w hy9 (by decide) hx9 (by omega)
   have HI5:Hid (W.FoldI (W.digL a 8) (m.set k (stLo (W.dg (W.digL a 8) (k+4)) 38 (W.dg (W.digL a 8) k) c)) (k+1) (stHi (W.dg (W.digL a 8) (k+4)) 38 (W.dg (W.digL a 8) k) c)):=HN
   have hc5:stHi (W.dg (W.digL a 8) (k+4)) 38 (W.dg (W.digL a 8) k) c≤38:=HN.cl
   clear HN
   generalize stLo (W.dg (W.digL a 8) (k+4)) 38 (W.dg (W.digL a 8) k) c=x5 at*
   generalize stHi (W.dg (W.digL a 8) (k+4)) 38 (W.dg (W.digL a 8) k) c=c5 at*
   have V5:=V4.setc 0 rfl k x5
   have HV5:Hid (Vars w (wr.setCell ⟨g3,k,none⟩ (.int .u64 ((x5:Nat):Int))) [⟨g3,146,arr .u64 (m.set k x5)⟩,⟨g2,146,wA 0⟩,⟨g1,157,lA a⟩]):=V5
   have HCL:Hid (∀w':World,(∃z:List Nat,z.length=4∧Vars w w' [⟨g3,146,arr .u64 z⟩,⟨g2,146,wA 0⟩,⟨g1,157,lA a⟩])→w'.cell? ⟨g1,k,none⟩=some (.int .u64 ((W.dg (W.digL a 8) k:Nat):Int))):=by
    rintro w' ⟨z,hz,hv⟩
    rw [cell_of_row w' g1 _ _ _ _ (hv.at 2 rfl),ZkA a _ (by omega)]
   have HCH:Hid (∀w':World,(∃z:List Nat,z.length=4∧Vars w w' [⟨g3,146,arr .u64 z⟩,⟨g2,146,wA 0⟩,⟨g1,157,lA a⟩])→w'.cell? ⟨g1,k+4,none⟩=some (.int .u64 ((W.dg (W.digL a 8) (k+4):Nat):Int))):=by
    rintro w' ⟨z,hz,hv⟩
    rw [cell_of_row w' g1 _ _ _ _ (hv.at 2 rfl),ZkA a _ (by omega)]
   clear V4 V5
   generalize W.dg (W.digL a 8) (k+4)=y at*
   generalize W.dg (W.digL a 8) k=x at*
   generalize m[k]?.getD 0=old at*
   have ek:(((k:Int)+4)).toNat=k+4:=by omega
   have ekw:IntKind.i64.wrap ((k:Int)+4)=(k:Int)+4:=by rw [IntKind.wrap_i64];omega
   have ek1:(0:Int)≤(k:Int)+4:=by omega
   have ek2:(k:Int)+4<8:=by omega
   have ek3:(k:Int)<8:=by omega
   have ek4:(k:Int)<4:=by omega
   go_wp2
   have sD:(fun w':World=>∃z:List Nat,z.length=4∧Vars w w' [⟨g3,146,arr .u64 z⟩,⟨g2,146,wA 0⟩,⟨g1,157,lA a⟩]) wr.drew:=⟨m,HI.out.len,HV.out.drew⟩
   refine Zar (fun w':World=>∃z:List Nat,z.length=4∧Vars w w' [⟨g3,146,arr .u64 z⟩,⟨g2,146,wA 0⟩,⟨g1,157,lA a⟩]) (by kernel_rfl) ?_
   refine zR [0,1,2,3,4,5,6,7,8] 7 (by kernel_rfl) (fun _ _ _ _ _ h=>h) sD fun K hK=> ?_
   refine Zah _ rfl (by rfl) rfl ?_
   go_simp
   refine Zah _ rfl (by rfl) rfl ?_
   go_simp
   refine zC (.int .i64 ((k:Int)+4)) rfl (by rfl) (fun w' hw'=> ?_) ?_
   ·go_simp
   go_simp
   refine zC (.pointer (some ⟨g1,k+4,none⟩)) rfl (by rfl) (fun w' hw'=> ?_) ?_
   ·go_simp
   go_simp
   refine zC (.int .u64 (y:Int)) rfl (by rfl) (fun w' hw'=> ?_) ?_
   ·have hcc:=HCH.out w' hw'
    go_simp
   go_simp
   refine Zah _ rfl (by rfl) rfl ?_
   go_simp
   refine zC (.pointer (some ⟨g1,k,none⟩)) rfl (by rfl) (fun w' hw'=> ?_) ?_
   ·go_simp
   go_simp
   refine zC (.int .u64 (x:Int)) rfl (by rfl) (fun w' hw'=> ?_) ?_
   ·have hcc:=HCL.out w' hw'
    go_simp
   go_simp
   refine Zah _ rfl (by rfl) rfl ?_
   go_simp
   refine Zac (hK.out _ ?_)
   clear hK K
   refine zO 9 6 (by kernel_rfl) rfl (by rfl) fun K hK=> ?_
   go_simp
   refine (hst _).mono ?_
   rintro e w' ⟨rfl,rfl⟩
   refine hK _ _ sD ?_
   clear hK K
   refine zR [10,11,12,13] 2 (by kernel_rfl) (fun _ _ _ _ _ h=>h) sD fun K hK=> ?_
   go_simp
   refine Zah _ rfl (by rfl) rfl ?_
   go_simp
   refine zC (.int .u64 (x5:Int)) rfl (by rfl) (fun w' hw'=> ?_) ?_
   ·go_simp
   go_simp
   refine zC (.int .u64 (c5:Int)) rfl (by rfl) (fun w' hw'=> ?_) ?_
   ·go_simp
   go_simp
   refine zC (.pointer (some ⟨g3,k,none⟩)) rfl (by rfl) (fun w' hw'=> ?_) ?_
   ·go_simp
   go_simp
   refine Zac (hK.out _ ?_)
   clear hK K
   refine zO 14 1 (by kernel_rfl) rfl (by rfl) fun K hK=> ?_
   go_simp
   have sE:(fun w':World=>∃z:List Nat,z.length=4∧Vars w w' [⟨g3,146,arr .u64 z⟩,⟨g2,146,wA 0⟩,⟨g1,157,lA a⟩]) (wr.drew.setCell ⟨g3,k,none⟩ (.int .u64 (x5:Int))):=⟨m.set k x5,by rw [List.length_set];exact HI.out.len,HV5.out.drew⟩
   refine hK _ _ sE ?_
   clear hK K
   refine zR [15] 0 (by kernel_rfl) (fun _ _ _ _ _ h=>h) sE fun K hK=> ?_
   go_simp
   refine ZaB _ rfl (by rfl) rfl ?_
   go_simp
   refine Zac (hK.out _ ?_)
   clear hK K
   refine wpAnyH_done (by kernel_rfl) ?_ _
   go_wp2
   go_roundw
   case rel=>exact ⟨k+1,c5,m.set k x5,by omega,hc5,by go_num,rfl,HI5,HV5.out.drew⟩
   case measure=>simp [intOf];omega
  ·obtain rfl:k=4:=by omega
   have hm:=HI.out.dig.vL_lt
   rw [HI.out.len] at hm
   obtain ⟨hi,lo,f1,f2,f3⟩:=HI.out.done rfl (k:=8) rfl (W.Zap _ _) HD.out
   rw [lV HA.out] at f1
   have F:=Zpy w256 hm f2 f3 HI.out.cl _ _ rfl rfl a (by rw [f1])
   have hx9:=HI.out.dig.at 3
   have ht:=W.ZpA HI.out.len HI.out.dig
   have HF1:Hid (W.vL m%2^255+(2*c+W.vL m/2^255)*19<2*fP):=F.1
   have HF2:Hid ((W.vL m%2^255+(2*c+W.vL m/2^255)*19)%fP=a%fP):=F.2.1
   have ht77:=F.2.2
   rw [←ht.1] at HF1 HF2 ht77
   have HM5:Hid (arr .u64 (m.set 3 (W.dg m 3%9223372036854775808))=wA (W.vL m%2^255)):=by
    show _=_
    rw [ZbZ, ←ht.2]
   clear F f1 f2 f3 hm ht
   have V4:=HV.out
   have hc:=Zds (V4.at 0 rfl) 3 (by rw [HI.out.len];decide)
   rw [show m[3]?.getD 0=W.dg m 3 from rfl] at hc
   have hfz:=ZaJ (V4.at 0 rfl) 3
   have V5:=V4.setc 0 rfl 3 (W.dg m 3%9223372036854775808)
   have HV5:Hid (Vars w (wr.setCell ⟨g3,3,none⟩ (.int .u64 ((W.dg m 3%9223372036854775808:Nat):Int))) [⟨g3,146,wA (W.vL m%2^255)⟩,⟨g2,146,wA 0⟩,⟨g1,157,lA a⟩]):=by rw [←HM5.out];exact V5
   clear V4 V5 HM5
   generalize W.vL m%2^255=r at*
   generalize W.dg m 3=x at*
   have e1b:(c:Int)*2=((2*c:Nat):Int):=by omega
   have e2:(x:Int)/9223372036854775808=((x/9223372036854775808:Nat):Int):=by omega
   have hxb:x/9223372036854775808<2:=by omega
   have e3:bits .and .u64 (x:Int) 9223372036854775807=((x%9223372036854775808:Nat):Int):=by
    have h:=bits_and_u64_nat x 9223372036854775807 (by omega) (by decide)
    rw [show x&&& 9223372036854775807=x%9223372036854775808 from Nat.and_two_pow_sub_one_eq_mod _ 63] at h
    exact h
   have e4:bits .or .u64 ((2*c:Nat):Int) ((x/9223372036854775808:Nat):Int)=((2*c+x/9223372036854775808:Nat):Int):=by
    rw [u64_or_nat _ _ (by omega) (by omega)]
    congr 1
    rw [Nat.mul_comm, ←Nat.shiftLeft_eq c 1, ←Nat.shiftLeft_add_eq_or_of_lt (by omega)]
   generalize x/9223372036854775808=xb at*
   generalize x%9223372036854775808=xm at*
   obtain ⟨t,ht⟩:∃t,2*c+xb=t:=⟨_,rfl⟩
   rw [ht] at e4 HF1 HF2 ht77
   rw [←e1b] at e4
   obtain ⟨t9,ht9⟩:∃t9,t*19=t9:=⟨_,rfl⟩
   rw [ht9] at HF1 HF2
   have e5:IntKind.u64.wrap ((t:Int)*19)=(t9:Int):=by rw [IntKind.wrap_u64];omega
   clear e1b
   have ht99:t9<18446744073709551616:=by omega
   have HB:=ZkB t9 ht99
   have V5:=HV5.out
   go_wp2_with (first
    | (refine ZaM V5 0 rfl 35 _ rfl rfl rfl rfl Tryz.underlying146 Tryz.szW (Zae _) ?_)
    | (refine ZaR 38 146 _ rfl rfl rfl (wA t9) HB ?_))
   refine (Zkz r t9 (Nat.lt_trans HF1.out ZhW) _).mono ?_
   rintro e w6 ⟨rfl,q6⟩
   have V6:=V5.call q6
   clear q6 V5 HV5 hc hfz
   go_wp2_with fail
   refine (cR (r+t9) _ HF1.out).mono ?_
   rintro e w7 ⟨rfl,q7⟩
   have V7:=V6.call q7
   clear q7 V6
   go_wp2_with (refine Zal V7 1 rfl _ _ rfl rfl rfl _ rfl rfl Tryz.szW (Zae _) (Zae _) (ZaO _) ?_;intro w8 V8)
   exact bodyPost_ret (ZaW rfl _ V8 1 rfl rfl Tryz.underlying146 Tryz.szW (Zae _)) rfl ⟨by rw [HF2.out],V8.bel⟩
set_option maxHeartbeats 1600000 in
theorem ZpB (a b:Nat) (ha:a<2^256) (hb:b<2^256) (cF:∀(x:Nat) (w:World),x<18446744073709551616^8→Rt Tryz.prog 191 #[.agg (lA x)] (.agg (wA (x%fP))) w) (w:World):
  Calls Tryz.prog 153 #[.agg (wA a), .agg (wA b)] w fun e w'=>e= .returned (.agg (wA (a*b%fP)))∧Below w.heap.size w w':=by
 have HS:Hid (a<2^256∧b<2^256):=⟨ha,hb⟩
 clear ha hb
 have V0:=Vars.start w
 go_enter Tryz.func153,Tryz.ntmps153
 go_wp2_with (first
  | (refine Zaj V0 2 146 _ rfl rfl rfl (wA a) rfl ?_;intro w1 g1 V1)
  | (refine Zaj V1 3 146 _ rfl rfl rfl (wA b) rfl ?_;intro w2 g2 V2)
  | (refine Zai V2 4 146 rfl rfl rfl (wA 0) ZaV ?_;intro w3 g3 V3)
  | (refine Zai V3 5 157 rfl rfl rfl _ Zpn ?_;intro w4 g4 V4)
  | (refine ZaM V4 3 rfl 11 _ rfl rfl rfl rfl Tryz.underlying146 Tryz.szW (Zae _) ?_))
 clear V0 V1 V2 V3
 have HD:Hid (W.Dig (W.digL a 4)∧W.Dig (W.digL b 4)):=⟨wD a,wD b⟩
 go_loopw [12] (fun y wr=>∃(i:Nat) (m:List Nat),i≤4∧y= .int .i64 (i:Int)∧Hid (W.MulI (W.digL a 4) (W.digL b 4) m i 0 0)∧Hid (Vars w wr [⟨g4,157,arr .u64 m⟩,⟨g3,146,wA 0⟩,⟨g2,146,wA b⟩,⟨g1,146,wA a⟩])) (fun y _=>4 - (intOf y).toNat)
 case atStart=>exact ⟨0,List.replicate 8 0,by omega,rfl,W.MulI.start _ _,V4⟩
 case round=>
  clear V4
  obtain ⟨i,m,hi,rfl,HI,HV⟩:=hrel
  by_cases hlt:i<4
  ·have HX:Hid ((wA a)[i]? =some (.int .u64 ((W.dg (W.digL a 4) i:Nat):Int))):=Zgl a i hlt
   have hx9:W.dg (W.digL a 4) i<18446744073709551616:=HD.out.1.at i
   have HDX:Hid (W.dg (W.digL a 4) i=W.dg (W.digL a 4) i):=rfl
   obtain ⟨x,hx⟩:∃x,W.dg (W.digL a 4) i=x:=⟨_,rfl⟩
   have HXx:Hid (W.dg (W.digL a 4) i=x):=hx
   rw [hx] at HX hx9
   clear hx HDX
   have V5:=HV.out
   go_wp2_with (first
    | (refine Zfi rfl 146 _ _ rfl (wA a) _ i rfl rfl Tryz.underlying146 Tryz.underlying144 Tryz.sz64 hlt HX.out ?_)
    | (refine ZaM V5 2 rfl 16 _ rfl rfl rfl rfl Tryz.underlying146 Tryz.szW (Zae _) ?_))
   obtain ⟨wo,hwo⟩:∃z,z=wr:=⟨_,rfl⟩
   subst hwo
   clear V5
   go_loopw [8,17] (fun cv y wr=>∃(k c:Nat) (m:List Nat),k≤4∧c<18446744073709551616∧y= .int .i64 (k:Int)∧cv= .int .u64 (c:Int)∧Hid (W.MulI (W.digL a 4) (W.digL b 4) m i k c)∧Hid (Vars w wr [⟨g4,157,arr .u64 m⟩,⟨g3,146,wA 0⟩,⟨g2,146,wA b⟩,⟨g1,146,wA a⟩])) (fun _ y _=>4 - (intOf y).toNat)
   case atStart=>exact ⟨0,0,m,by omega,by omega,rfl,rfl,HI.out,HV.out⟩
   case round=>
    clear HI HV m
    obtain ⟨k,c,m,hk,hc9,rfl,rfl,HI,HV⟩:=hrel
    by_cases hlk:k<4
    ·have HY:Hid ((wA b)[k]? =some (.int .u64 ((W.dg (W.digL b 4) k:Nat):Int))):=Zgl b k hlk
     have V5:=HV.out
     have hc:=Zds (V5.at 0 rfl) (i+k) (by rw [HI.out.len];omega)
     rw [show m[i+k]?.getD 0=W.dg m (i+k) from rfl] at hc
     have hfz:=ZaJ (V5.at 0 rfl) (i+k)
     have hy9:W.dg (W.digL b 4) k<18446744073709551616:=HD.out.2.at k
     have hz9:W.dg m (i+k)<18446744073709551616:=HI.out.dig.at (i+k)
     have HN:=HI.out.next HD.out.1 HD.out.2 hlt hlk rfl
     rw [HXx.out] at HN
     have hst:=fun w=>Zc2 x (W.dg (W.digL b 4) k) (W.dg m (i+k)) c w hx9 hy9 hz9 hc9
     have HI5:Hid (W.MulI (W.digL a 4) (W.digL b 4) (m.set (i+k) (stLo x (W.dg (W.digL b 4) k) (W.dg m (i+k)) c)) i (k+1) (stHi x (W.dg (W.digL b 4) k) (W.dg m (i+k)) c)):=HN
     have hc5:stHi x (W.dg (W.digL b 4) k) (W.dg m (i+k)) c<18446744073709551616:=HN.cl
     clear HN
     generalize stLo x (W.dg (W.digL b 4) k) (W.dg m (i+k)) c=x5 at*
     generalize stHi x (W.dg (W.digL b 4) k) (W.dg m (i+k)) c=c5 at*
     have V6:=V5.setc 0 rfl (i+k) x5
     have HV6:Hid (Vars w (wr.setCell ⟨g4,i+k,none⟩ (.int .u64 ((x5:Nat):Int))) [⟨g4,157,arr .u64 (m.set (i+k) x5)⟩,⟨g3,146,wA 0⟩,⟨g2,146,wA b⟩,⟨g1,146,wA a⟩]):=V6
     clear V5 V6
     generalize W.dg (W.digL b 4) k=y at*
     generalize W.dg m (i+k)=z at*
     have eik:(i:Int)+(k:Int)=((i+k:Nat):Int):=by omega
     obtain ⟨ik,hik⟩:∃ik,i+k=ik:=⟨_,rfl⟩
     have hik8:ik<8:=by omega
     rw [hik] at eik HV6 hc hfz HI5
     clear hik
     go_wp2_with (refine Zfi rfl 146 _ _ rfl (wA b) _ k rfl rfl Tryz.underlying146 Tryz.underlying144 Tryz.sz64 hlk HY.out ?_)
     refine (hst _).mono ?_
     rintro e w' ⟨rfl,rfl⟩
     go_wp2
     go_roundw
     case rel=>exact ⟨k+1,c5,m.set ik x5,by omega,hc5,by go_num,rfl,HI5,HV6⟩
     case measure=>simp [intOf];omega
    ·obtain rfl:k=4:=by omega
     have HI5:Hid (W.MulI (W.digL a 4) (W.digL b 4) (m.set (i+4) c) (i+1) 0 0):=HI.out.line (W.Zap _ _) hlt
     have V5:=HV.out
     have hc:=Zds (V5.at 0 rfl) (i+4) (by rw [HI.out.len];omega)
     have hfz:=ZaJ (V5.at 0 rfl) (i+4)
     generalize m[i+4]?.getD 0=old at*
     have V6:=V5.setc 0 rfl (i+4) c
     have HV6:Hid (Vars w (wr.setCell ⟨g4,i+4,none⟩ (.int .u64 ((c:Nat):Int))) [⟨g4,157,arr .u64 (m.set (i+4) c)⟩,⟨g3,146,wA 0⟩,⟨g2,146,wA b⟩,⟨g1,146,wA a⟩]):=V6
     clear V5 V6
     have eik:(i:Int)+4=((i+4:Nat):Int):=by omega
     obtain ⟨ik,hik⟩:∃ik,i+4=ik:=⟨_,rfl⟩
     have hik8:ik<8:=by omega
     rw [hik] at eik HV6 hc hfz HI5
     clear hik
     go_wp2
     go_roundw
     case rel=>exact ⟨i+1,m.set ik c,by omega,by go_num,HI5,HV6⟩
     case measure=>simp [intOf];omega
  ·obtain rfl:i=4:=by omega
   have hs:W.vL (W.digL a 4)*W.vL (W.digL b 4)<18446744073709551616^8:=by
    rw [wV HS.out.1,wV HS.out.2]
    exact W.ZpC (n:=4) (m:=4) rfl (by rw [w256];exact HS.out.1) (by rw [w256];exact HS.out.2)
   have HE:=HI.out.done (W.Zap _ _) HI.out.len hs
   rw [wV HS.out.1,wV HS.out.2] at HE hs
   have HE2:Hid (arr .u64 m=lA (a*b)):=by show _=_;rw [ZhT,HE]
   have HS2:Hid (a*b<18446744073709551616^8):=hs
   clear HE hs
   have V5:=HV.out
   rw [HE2.out] at V5
   obtain ⟨ab,hab⟩:∃ab,a*b=ab:=⟨_,rfl⟩
   have HAB:Hid (a*b=ab):=hab
   rw [hab] at V5 HS2
   clear hab
   go_wp2_with (refine ZaM V5 0 rfl 43 _ rfl rfl rfl rfl Tryz.underlying157 Tryz.szL (Zpj _) ?_)
   refine (cF ab _ HS2.out).mono ?_
   rintro e w7 ⟨rfl,q7⟩
   have V7:=V5.call q7
   clear q7 V5
   go_wp2_with (refine Zal V7 1 rfl _ _ rfl rfl rfl _ rfl rfl Tryz.szW (Zae _) (Zae _) (ZaO _) ?_;intro w8 V8)
   exact bodyPost_ret (ZaW rfl _ V8 1 rfl rfl Tryz.underlying146 Tryz.szW (Zae _)) rfl ⟨by rw [HAB.out],V8.bel⟩
end Go.Proofs.YtcaloldcihpkfaaGreatDoor.N
