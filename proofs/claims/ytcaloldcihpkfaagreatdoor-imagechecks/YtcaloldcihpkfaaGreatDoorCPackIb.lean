/-
 Layer 23: what ed answers, by bytes: whether a signature holds, as one number.
-/
import Derived.Test.YtcaloldcihpkfaaGreatDoorMEdCode3
import Derived.Test.YtcaloldcihpkfaaGreatDoorMEdCode4
import Derived.Test.YtcaloldcihpkfaaGreatDoorCPackIa
import Derived.Test.YtcaloldcihpkfaaGreatDoorCPackKa
import Derived.Test.YtcaloldcihpkfaaGreatDoorCPackMc
import Derived.Test.YtcaloldcihpkfaaGreatDoorCPackKb
import Derived.Test.YtcaloldcihpkfaaGreatDoorMPackCb
import Derived.Test.YtcaloldcihpkfaaGreatDoorCPackMb
namespace Go.Proofs.YtcaloldcihpkfaaGreatDoor.N
open Go.RowKit
set_option linter.unusedVariables false
set_option maxRecDepth 8192

def n32 (d:List Int):Nat:=vL (d.map Int.toNat)
theorem Zui {d:List Int} (h:IsB d) (hl:d.length=32):n32 d<2^256:=by
 have h1:=(Zdy h).vL_lt
 rw [List.length_map,hl,p256] at h1
 exact h1
theorem Zuj {d:List Int} (h:IsB d) (hl:d.length=32):nI (digL (n32 d) 32)=d:=by
 have h1:=Zca (Zdy h)
 rw [List.length_map,hl] at h1
 rw [n32, ←h1,Zdx h]
theorem Zuk {x:Nat} (h:x<2^256):n32 (nI (digL x 32))=x:=by
 have e:=ZkE (digL x 32)
 rw [n32,e,Zbg (by rw [p256];exact h)]
theorem Zul {d:List Int} (h:IsB d) (hl:d.length=32):dA d=bA (n32 d):=by
 rw [ZbE];unfold dA dC arr;rw [Zuj h hl]
theorem Zum (x:Nat):bA x=dA (nI (digL x 32)):=by rw [ZbE];rfl
def n64 (d:List Int):Nat:=vL (d.map Int.toNat)
theorem Zun {d:List Int} (h:IsB d) (hl:d.length=64):n64 d<2^256*2^256:=by
 have h1:=(Zdy h).vL_lt
 rw [List.length_map,hl,show 64=32+32 from rfl,Nat.pow_add,p256] at h1
 exact h1
theorem Zuo {d:List Int} (h:IsB d) (hl:d.length=64):nI (digL (n64 d) 64)=d:=by
 have h1:=Zca (Zdy h)
 rw [List.length_map,hl] at h1
 rw [n64, ←h1,Zdx h]
theorem Zup {x:Nat} (h:x<2^256*2^256):n64 (nI (digL x 64))=x:=by
 have e:=ZkE (digL x 64)
 rw [n64,e,vH h]

def Zmn (pu:Nat) (m:List Nat) (s:Nat) (r:Int):Prop:=∀(pm ps:Option Addr) (lm km ks:Nat) (w:World),OAt w→DAt w→Row .u8 w pm lm km (nI m)→lm≤10000→Row .u8 w ps 64 ks (nI (digL s 64))→
 Calls Tryz.prog 13 #[.agg (bA pu), .slice pm lm km, .slice ps 64 ks] w fun e w'=>e= .returned (.int .i64 r)∧Below w.heap.size w w'
theorem ZiY (pu:Nat) (m:List Nat) (s:Nat):∃r:Int,pu<2^256→s<2^256*2^256→Dig m→Zmn pu m s r∧((∃sd,pu=pubN sd∧s=sgN sd m)→r=0):=by
 by_cases hp:pu<2^256
 case neg=>exact ⟨0,fun h=>absurd h hp⟩
 by_cases hs:s<2^256*2^256
 case neg=>exact ⟨0,fun _ h=>absurd h hs⟩
 by_cases hsd:∃sd,pu=pubN sd∧s=sgN sd m
 ·obtain ⟨sd,rfl,rfl⟩:=hsd
  exact ⟨0,fun _ _ dm=>⟨fun pm ps lm km ks w ho hd hm hl hr=>Zmm (Zs6 sd) (Zs7 sd m) (Zs8 sd m) m dm (sign_holds sd m) pm ps lm km ks w ho hd hm hl hr,fun _=>rfl⟩⟩
 have e:s=s%2^256+2^256*(s/2^256):=(Nat.mod_add_div s (2^256)).symm
 have h1:=ZlS s
 have h2:=Zs2 hs
 generalize s%2^256=R at*
 generalize s/2^256=sg at*
 subst e
 by_cases hb:(∀p,OnC p→Zaw p≠pu)∨(∀p,OnC p→Zaw p≠R)
 ·exact ⟨170,fun _ _ dm=>⟨fun pm ps lm km ks w ho hd hm hl hr=>Zue hp h1 h2 hb pm ps lm km ks w hd hr,fun h=>absurd h hsd⟩⟩
 obtain ⟨A,hA,rfl⟩:∃p,OnC p∧Zaw p=pu:=by
  by_cases h:∃p,OnC p∧Zaw p=pu
  ·exact h
  ·exact absurd (.inl fun p hp e=>h ⟨p,hp,e⟩) hb
 obtain ⟨Q,hQ,rfl⟩:∃p,OnC p∧Zaw p=R:=by
  by_cases h:∃p,OnC p∧Zaw p=R
  ·exact h
  ·exact absurd (.inr fun p hp e=>h ⟨p,hp,e⟩) hb
 by_cases hn:sg<oL
 case neg=>exact ⟨191,fun _ _ dm=>⟨fun pm ps lm km ks w ho hd hm hl hr=>Zuf hA hQ h2 hn pm ps lm km ks w ho hd hr,fun h=>absurd h hsd⟩⟩
 by_cases he:Zau sg ZaA=psum Q (Zau (kN (Zaw Q) (Zaw A) m) A)
 ·exact ⟨0,fun _ _ dm=>⟨fun pm ps lm km ks w ho hd hm hl hr=>Zmm hA hQ hn m dm he pm ps lm km ks w ho hd hm hl hr,fun _=>rfl⟩⟩
 ·exact ⟨191,fun _ _ dm=>⟨fun pm ps lm km ks w ho hd hm hl hr=>Zuh hA hQ hn m dm he pm ps lm km ks w ho hd hm hl hr,fun h=>absurd h hsd⟩⟩
noncomputable def verN (pu:Nat) (m:List Nat) (s:Nat):Int:=Classical.choose (ZiY pu m s)
theorem Zuq {pu:Nat} {m:List Nat} {s:Nat} (hp:pu<2^256) (hs:s<2^256*2^256) (dm:Dig m):Zmn pu m s (verN pu m s):=(Classical.choose_spec (ZiY pu m s) hp hs dm).1
theorem Zmo (sd:Nat) (m:List Nat):sgN sd m<2^256*2^256:=ZlX (ZlU sd m) (Zs9 sd m)
theorem Zur (sd:Nat) {m:List Nat} (dm:Dig m):verN (pubN sd) m (sgN sd m)=0:=(Classical.choose_spec (ZiY (pubN sd) m (sgN sd m)) (ZlT sd) (Zmo sd m) dm).2 ⟨sd,rfl,rfl⟩
noncomputable def verB (pub m s:List Int):Int:=verN (n32 pub) (m.map Int.toNat) (n64 s)
theorem Zmp {pub m s:List Int} (hp:IsB pub) (hpl:pub.length=32) (hm:IsB m) (hs:IsB s) (hsl:s.length=64) {pm ps:Option Addr} {lm km ks:Nat} {w:World} (ho:OAt w) (hd:DAt w) (rm:Row .u8 w pm lm km m) (hl:lm≤10000) (rs:Row .u8 w ps 64 ks s):
  Calls Tryz.prog 13 #[.agg (dA pub), .slice pm lm km, .slice ps 64 ks] w fun e w'=>e= .returned (.int .i64 (verB pub m s))∧Below w.heap.size w w':=by
 rw [Zul hp hpl]
 exact Zuq (Zui hp hpl) (Zun hs hsl) (Zdy hm) pm ps lm km ks w ho hd (by rwa [Zdx hm]) hl (by rwa [Zuo hs hsl])
def pubI (sd:Nat):List Int:=nI (digL (pubN sd) 32)
def sgnI (sd:Nat) (m:List Int):List Int:=nI (digL (sgN sd (m.map Int.toNat)) 64)
theorem Zmq {z:List Nat} (h:Dig z):IsB (nI z):=ZkC h
theorem ZiZ (sd:Nat):(pubI sd).length=32:=by unfold pubI;rw [Zaa,Zap]
theorem Zmr (sd:Nat):IsB (pubI sd):=Zmq (ZaD _ _)
theorem ZgH (sd:Nat) (m:List Int):(sgnI sd m).length=64:=by unfold sgnI;rw [Zaa,Zap]
theorem Zms (sd:Nat) (m:List Int):IsB (sgnI sd m):=Zmq (ZaD _ _)
theorem Zmt (sd:Nat) {m:List Int} (hm:IsB m):verB (pubI sd) m (sgnI sd m)=0:=by
 unfold verB pubI sgnI
 rw [Zuk (ZlT sd),Zup (Zmo sd _)]
 exact Zur sd (Zdy hm)
theorem Zmu (sd:Nat) (hs:sd<2^256) (w:World) (hd:DAt w):Calls Tryz.prog 14 #[.agg (bA sd)] w fun e w'=>e= .returned (.agg (dA (pubI sd)))∧Below w.heap.size w w':=by
 have h:=Zt5 sd hs w hd
 rwa [Zum (pubN sd)] at h
theorem Zus (sd:Nat) (hs:sd<2^256) {pm:Option Addr} {lm km:Nat} {m:List Int} (hm:IsB m) (w:World) (ho:OAt w) (hd:DAt w) (rm:Row .u8 w pm lm km m) (hl:lm≤10000):
  Calls Tryz.prog 27 #[.agg (bA sd), .slice pm lm km] w fun e w'=>e= .returned (.agg (hA (sgN sd (m.map Int.toNat))))∧Below w.heap.size w w':=
 Zt7 sd hs pm lm km _ (Zdy hm) w ho hd (by rwa [Zdx hm]) hl
end Go.Proofs.YtcaloldcihpkfaaGreatDoor.N

/-
 The code of layer 23 (image): Head's questions.
-/
namespace Go.Proofs.YtcaloldcihpkfaaGreatDoor.N
open Go.RowKit
set_option linter.unusedVariables false
set_option maxRecDepth 8192

theorem SegRow.off {w w':World} {a:Option Addr} {n c g:Nat} {l:List Sg} {X:Array Value} {T:TypeId} (h:SegRow w a n c l) (ok:∀s∈l,s.Ok) (hg:w.heap[g]? =some (.cells X T (0,0))) (hX:X.size<34) (hs:w.heap.size≤w'.heap.size) (ho:∀k,k≠g→w'.heap[k]? =w.heap[k]?):SegRow w' a n c l:=by
 refine ⟨h.hlen,h.hcap,h.hmax,h.hnil,fun h0=> ?_⟩
 obtain ⟨b,off,rfl,hb,hc⟩:=h.hcell h0
 have hne:b≠g:=by
  rintro rfl
  have h3:=ZbK (ZcP ok 0)
  have:=hc 0 h0 33 _ (List.getElem?_eq_getElem (by omega))
  rw [cell_of_row w b _ _ _ _ hg,Array.getElem?_eq_none (by omega)] at this
  cases this
 exact ⟨b,off,rfl,Nat.lt_of_lt_of_le hb hs,fun i hi=>Zfc (hc i hi) (ho b hne)⟩
section
variable {P:Program} {ops:Array Oper} {rest:List Oper} {o:Oper} {a:Act} {w w0:World} {Q:Exit→Act→World→Prop} {l:List AV}
theorem Zd6 (V:Vars w0 w l) (d:Tmp) (T:TypeId) (x:Operand) (hgd:o.guard=none) (hd:o.dst=some d) (ho:o.op= .box T x) (v:Value) (hx:a.eval x=v) (hv:v.cells= #[v])
  (h:∀w' g,Vars w0 w' (⟨g,T, #[v]⟩::l)→wpList P ops Q rest (a.put (some d) (.pointer (some ⟨g,0,none⟩))) w'):wpList P ops Q (o::rest) a w:=
 wpList_plain hgd fun K hK=>by
  unfold Oper.wp execOp
  have hr:(Instr.box T v).run P w= .ok (.pointer (some ⟨w.heap.size,0,none⟩)) (w.alloc (.cells #[v] T)):=by simp [Instr.box,newVar,newRow,hv]
  simp only [ho,hx,hr,Sem.run_bind,Sem.run_pure,Result.andThen_ok]
  have:=hK _ _ (h _ _ (V.new T #[v]))
  rw [←hd] at this
  exact this
theorem Zmv (V:Vars w0 w l) (d:Tmp) (T:TypeId) (hgd:o.guard=none) (hd:o.dst=some d) (ho:o.op= .alloc T) (v:Value) (hv:v.cells= #[v]) (hz:∀w,(zeroValue T).run P w= .ok v w)
  (h:∀w' g,Vars w0 w' (⟨g,T, #[v]⟩::l)→wpList P ops Q rest (a.put (some d) (.pointer (some ⟨g,0,none⟩))) w'):wpList P ops Q (o::rest) a w:=
 wpList_plain hgd fun K hK=>by
  unfold Oper.wp execOp
  have hr:(Instr.alloc T true (.tuple #[])).run P w= .ok (.pointer (some ⟨w.heap.size,0,none⟩)) (w.alloc (.cells #[v] T)):=by simp [Instr.alloc,hz,newVar,newRow,hv]
  simp only [ho,hr,Sem.run_bind,Sem.run_pure,Result.andThen_ok]
  have:=hK _ _ (h _ _ (V.new T #[v]))
  rw [←hd] at this
  exact this
theorem Zb3 (V:Vars w0 w l) (i:Nat) {g:Nat} {T:TypeId} {X:Array Value} (hi:l[i]? =some ⟨g,T,X⟩) (x:Operand) (ho:o.op= .load T x) (hx:a.eval x= .pointer (some ⟨g,0,none⟩))
  {d:TypeDesc} (hu:P.underlying T=some d) (hd:d.isRow=true) {n:Nat} (hn:(P.info? T).map (·.size)=some n) (hX:X.size=n):(execOp a.eval o).run P w= .ok (.value (.agg X)) w:=by
 unfold execOp
 simp only [ho,hx,Instr.loadAt,Instr.sureAddr,Sem.run_bind,Sem.run_pure,Result.andThen_ok,run_loadVar_row w g T T X (0,0) d (V.at i hi) hu (by cases d<;>first|rfl|exact hd) (by rw [hn,hX])]
theorem ZeM {fn:Func} {p u:Tmp} {T:TypeId} (h:fn.results= #[.cell p T, .tmp u]) (tmps:Array Value) (V:Vars w0 w l) (i:Nat) {g:Nat} {X:Array Value} (hi:l[i]? =some ⟨g,T,X⟩) (hp:tmps.getD p undef= .pointer (some ⟨g,0,none⟩))
  {fs:Array Field} (hu:P.underlying T=some (.struct fs)) {n:Nat} (hn:(P.info? T).map (·.size)=some n) (hX:X.size=n):(results fn tmps).run P w= .ok (.tuple #[.agg X,tmps.getD u undef]) w:=by
 have hl':=run_loadVar_row (P:=P) w g T T X (0,0) _ (V.at i hi) hu rfl (by rw [hn,hX])
 rw [results_cell_tmp h,hp]
 simp [asAddr,Result.andThen,hl']
end
theorem Zut {w:World} {g:Nat} {T:TypeId} {ra:Option Addr} {rn rc:Nat} {l:List Ky} (hg:w.heap[g]? =some (.cells #[.slice ra rn rc] T (0,0))) (hr:KRow w ra rn rc l) (ok:∀s∈l,s.Ok):
  Calls Tryz.prog 41 #[.pointer (some ⟨g,0,none⟩)] w fun e w'=>e= .returned (.int .i64 (bif mayK l then 0 else 1))∧Below w.heap.size w w':=by
 have c0:w.cell? ⟨g,0,none⟩=some (.slice ra rn rc):=Zag hg 0
 cases hm:mayK l
 ·have h:=ZqO hr ok hm
  go_enter Tryz.func41,Tryz.ntmps41
  go_wp2_with fail
  refine h.mono ?_
  rintro e w1 ⟨rfl,q⟩
  go_wp2
  go_ret
  exact ⟨rfl,q⟩
 ·have h:=ZqP hr ok hm
  go_enter Tryz.func41,Tryz.ntmps41
  go_wp2_with fail
  refine h.mono ?_
  rintro e w1 ⟨u,rfl,own,q⟩
  go_wp2
  go_ret
  exact ⟨rfl,q⟩
structure Two (B:Nat) (w:World) (ov sv:Value) (m:Nat) (D:List Int):Prop where
 ov:∃a c,ov= .slice a m c∧Row .u8 w a m c (D.take m)∧∀q,a=some q→B≤q.block
 sv:∃a c,sv= .slice a 64 c∧Row .u8 w a 64 c (D.drop m)∧∀q,a=some q→B≤q.block
theorem Two.keep {B:Nat} {w w':World} {ov sv:Value} {m:Nat} {D:List Int} (h:Two B w ov sv m D) (hs:w.heap.size≤w'.heap.size) (hb:∀k,B≤k→k<w.heap.size→w'.heap[k]? =w.heap[k]?):Two B w' ov sv m D:=by
 have key:∀ {a:Option Addr} {n c:Nat} {z:List Int},Row .u8 w a n c z→(∀q,a=some q→B≤q.block)→Row .u8 w' a n c z:=fun {a n c z} r hB=>by
  refine ⟨r.hlen,r.hcap,r.hmax,r.hnil,fun h0=> ?_⟩
  obtain ⟨b,off,rfl,hlt,hc⟩:=r.hcell h0
  exact ⟨b,off,rfl,Nat.lt_of_lt_of_le hlt hs,fun i hi=>(World.cell?_of_block (w:=w) (a:=⟨b,off+i,none⟩) (hb b (hB _ rfl) hlt)).trans (hc i hi)⟩
 obtain ⟨⟨a,c,e,r,k⟩,⟨a',c',e',r',k'⟩⟩:=h
 exact ⟨⟨a,c,e,key r k,k⟩,⟨a',c',e',key r' k',k'⟩⟩
theorem Zuu {w:World} {g5 g8 g9:Nat} {T T':TypeId} {a:Option Addr} {n c:Nat} {D:List Int} {o0 s0:Value} (h5:w.heap[g5]? =some (.cells #[.slice a n c] T (0,0))) (h8:w.heap[g8]? =some (.cells #[o0] T' (0,0))) (h9:w.heap[g9]? =some (.cells #[s0] T' (0,0))) (h89:g8≠g9)
  (hr:Row .u8 w a n c D) (hn:n≤10064):
  Calls Tryz.prog 43 #[.pointer (some ⟨g5,0,none⟩), .pointer (some ⟨g8,0,none⟩), .pointer (some ⟨g9,0,none⟩)] w fun e w'=>∃w1 ov sv,Below w.heap.size w w1∧w'=(w1.setCell ⟨g8,0,none⟩ ov).setCell ⟨g9,0,none⟩ sv∧
   ((64≤n∧e= .returned (.int .i64 0)∧Two w.heap.size w' ov sv (n - 64) D)∨(n<64∧e= .returned (.int .i64 4))):=by
 have c5:w.cell? ⟨g5,0,none⟩=some (.slice a n c):=Zag h5 0
 have l8:=Zat h8
 have l9:=Zat h9
 by_cases hlt:n<64
 ·have h:=Zqw (w:=w) (a:=a) (n:=n) (c:=c) hlt
  have c8:w.cell? ⟨g8,0,none⟩=some o0:=Zag h8 0
  have f8:=ZaJ h8 0
  have c9:(w.setCell ⟨g8,0,none⟩ (.slice none 0 0)).cell? ⟨g9,0,none⟩=some s0:=by rw [World.cell?_setCell_other _ _ _ _ (by simp<;>omega)];exact Zag h9 0
  have f9:(w.setCell ⟨g8,0,none⟩ (.slice none 0 0)).frozen? ⟨g9,0,none⟩=false:=by rw [World.frozen?_setCell];exact ZaJ h9 0
  go_enter Tryz.func43,Tryz.ntmps43
  go_wp2_with fail
  refine h.mono ?_
  rintro e w1 ⟨rfl,rfl⟩
  go_wp2
  go_ret
  exact ⟨w,_,_,Below.refl _ _,rfl, .inr ⟨hlt,rfl⟩⟩
 ·obtain ⟨m,rfl⟩:∃m,n=m+64:=⟨n - 64,by omega⟩
  have h:=Zqx hr (by omega)
  go_enter Tryz.func43,Tryz.ntmps43
  go_wp2_with fail
  refine h.mono ?_
  rintro e w1 ⟨v1,v2,rfl,own1,own2,q⟩
  have k1:=own1.lt
  have k2:=own2.lt
  obtain ⟨a1,c1,rfl,r1⟩:=ZaF own1
  obtain ⟨a2,c2,rfl,r2⟩:=ZaF own2
  have g8':=h8
  rw [←q.block g8 l8] at g8'
  have g9':=h9
  rw [←q.block g9 l9] at g9'
  have c8:w1.cell? ⟨g8,0,none⟩=some o0:=Zag g8' 0
  have f8:=ZaJ g8' 0
  have c9:(w1.setCell ⟨g8,0,none⟩ (.slice a1 m c1)).cell? ⟨g9,0,none⟩=some s0:=by rw [World.cell?_setCell_other _ _ _ _ (by simp<;>omega)];exact Zag g9' 0
  have f9:(w1.setCell ⟨g8,0,none⟩ (.slice a1 m c1)).frozen? ⟨g9,0,none⟩=false:=by rw [World.frozen?_setCell];exact ZaJ g9' 0
  have HT:Hid (Two w.heap.size ((w1.setCell ⟨g8,0,none⟩ (.slice a1 m c1)).setCell ⟨g9,0,none⟩ (.slice a2 64 c2)) (.slice a1 m c1) (.slice a2 64 c2) m D):=by
   have m1:∀q,a1=some q→w.heap.size≤q.block:=fun x hx=>(k1 x.block (by rw [hx];rfl)).1
   have m2:∀q,a2=some q→w.heap.size≤q.block:=fun x hx=>(k2 x.block (by rw [hx];rfl)).1
   refine ⟨⟨a1,c1,rfl,ZcF (ZcF r1 (fun x hx=> ?_) _) (fun x hx=> ?_) _,m1⟩,⟨a2,c2,rfl,ZcF (ZcF r2 (fun x hx=> ?_) _) (fun x hx=> ?_) _,m2⟩⟩
   ·have:=m1 x hx;omega
   ·have:=m1 x hx;omega
   ·have:=m2 x hx;omega
   ·have:=m2 x hx;omega
  clear own1 own2 g8' g9' h k1 k2 r1 r2
  go_wp2
  go_ret
  exact ⟨w1,_,_,q,rfl, .inl ⟨by omega,rfl,by rw [Nat.add_sub_cancel];exact HT.out⟩⟩
theorem Zuv {w:World} {g8 g10:Nat} {T:TypeId} {a:Option Addr} {n c:Nat} {D:List Int} {M:Array Value} (h8:w.heap[g8]? =some (.cells #[.slice a n c] T (0,0))) (h10:w.heap[g10]? =some (.cells M 25 (0,0))) (hM:M.size=5)
  (hr:Row .u8 w a n c D) (hD:IsB D):
  Calls Tryz.prog 45 #[.pointer (some ⟨g8,0,none⟩), .pointer (some ⟨g10,0,none⟩)] w fun e w'=>∃w1 Y,Below w.heap.size w w1∧w'=w1.setRow g10 Y∧Y.size=5∧
   ((isMf D=true∧e= .returned (.int .i64 0)∧∃sa sc,Y= #[.int .i64 (Zab D 4), .int .i64 (Zab D 8), .int .i64 (Zab D 12), .int .i64 (Zab D 16), .slice sa ((cnt D)) sc]∧SegRow w' sa (cnt D) sc (ZaN D (cnt D)))∨(isMf D=false∧e= .returned (.int .i64 4))):=by
 have c8:w.cell? ⟨g8,0,none⟩=some (.slice a n c):=Zag h8 0
 have l10:=Zat h10
 have h:=Zqs hr hD
 go_enter Tryz.func45,Tryz.ntmps45
 go_wp2_with fail
 refine h.mono ?_
 rintro e w1 ⟨q,⟨hm,sa,sc,rfl,row⟩|⟨hm,rfl⟩⟩
 ·have g10':=h10
  rw [←q.block g10 l10] at g10'
  have ok:=Zel hD (k:=cnt D) (by have:=Zf5 (Zf6 hm).2.1;omega)
  have HR:Hid (SegRow (w1.setRow g10 #[.int .i64 (Zab D 4), .int .i64 (Zab D 8), .int .i64 (Zab D 12), .int .i64 (Zab D 16), .slice sa ((cnt D)) sc]) sa (cnt D) sc (ZaN D (cnt D))):=row.off ok g10' (by omega) (by simp [World.setRow]) (fun k hk=>setRow_other w1 g10 k _ hk)
  have HM:Hid (isMf D=true):=hm
  clear row hm h ok
  go_wp2_with (refine ZcH g10' _ (.tmp 6) rfl rfl rfl #[.int .i64 (Zab D 4), .int .i64 (Zab D 8), .int .i64 (Zab D 12), .int .i64 (Zab D 16), .slice sa ((cnt D)) sc] rfl rfl Tryz.szMf hM rfl (Zce _ _ _ _ _ _ _) ?_)
  refine bodyPost_ret (v:= .int .i64 0) (by simp [results,Tryz.results45,go_sem]) rfl ?_
  exact ⟨w1,_,q,rfl,rfl, .inl ⟨HM.out,rfl,sa,sc,rfl,HR.out⟩⟩
 ·have g10':=h10
  rw [←q.block g10 l10] at g10'
  have HM:Hid (isMf D=false):=hm
  clear hm h
  go_wp2_with (refine ZcH g10' _ (.tmp 6) rfl rfl rfl #[.int .i64 0, .int .i64 0, .int .i64 0, .int .i64 0, .slice none 0 0] rfl rfl Tryz.szMf hM rfl (Zce _ _ _ _ _ _ _) ?_)
  go_ret
  exact ⟨w1,_,q,rfl,rfl, .inr ⟨HM.out,rfl⟩⟩
theorem Zuw {w:World} {g3 g10 g11:Nat} {T T':TypeId} {ra:Option Addr} {rn rc:Nat} {l:List Ky} {M X:Array Value} {x:Int} (h3:w.heap[g3]? =some (.cells #[.slice ra rn rc] T (0,0))) (h10:w.heap[g10]? =some (.cells M T' (0,0))) (hx:M[2]? =some (.int .i64 x))
  (h11:w.heap[g11]? =some (.cells X 22 (0,0))) (hX:X.size=32) (hr:KRow w ra rn rc l) (ok:∀s∈l,s.Ok) (hm:mayK l=true):
  Calls Tryz.prog 47 #[.pointer (some ⟨g3,0,none⟩), .pointer (some ⟨g10,0,none⟩), .pointer (some ⟨g11,0,none⟩)] w fun e w'=>∃w1,Below w.heap.size w w1∧w'=w1.setRow g11 (dA (fndD l x))∧e= .returned (.int .i64 (fndC l x)):=by
 have c3:w.cell? ⟨g3,0,none⟩=some (.slice ra rn rc):=Zag h3 0
 have c10:w.cell? ⟨g10,2,none⟩=some (.int .i64 x):=(Zag h10 2).trans hx
 have l11:=Zat h11
 have h:=Zux (x:=x) hr ok hm
 have hl:=(Zh9 ok x).1
 generalize fndD l x=d at*
 generalize fndC l x=r at*
 go_enter Tryz.func47,Tryz.ntmps47
 go_wp2_with fail
 refine h.mono ?_
 rintro e w1 ⟨rfl,q⟩
 have g11':=h11
 rw [←q.block g11 l11] at g11'
 clear h
 go_wp2_with (refine ZcH g11' _ (.tmp 9) rfl rfl rfl (dA d) rfl rfl Tryz.szDg hX (Zcm hl) (Zgr d) ?_)
 go_ret
 exact ⟨w1,q,rfl,rfl⟩
theorem Zuy {w:World} {g8 g9 g11:Nat} {T:TypeId} {pa sa:Option Addr} {pn pc sc:Nat} {pub m s:List Int} (h8:w.heap[g8]? =some (.cells #[.slice pa pn pc] T (0,0))) (h9:w.heap[g9]? =some (.cells #[.slice sa 64 sc] T (0,0))) (h11:w.heap[g11]? =some (.cells (dA pub) 22 (0,0)))
  (hp:IsB pub) (hpl:pub.length=32) (hm:IsB m) (hs:IsB s) (ho:OAt w) (hd:DAt w) (rm:Row .u8 w pa pn pc m) (hl:pn≤10000) (rs:Row .u8 w sa 64 sc s):
  Calls Tryz.prog 48 #[.pointer (some ⟨g11,0,none⟩), .pointer (some ⟨g8,0,none⟩), .pointer (some ⟨g9,0,none⟩)] w fun e w'=>e= .returned (.int .i64 (bif decide (verB pub m s=0) then 0 else 191))∧Below w.heap.size w w':=by
 have c8:w.cell? ⟨g8,0,none⟩=some (.slice pa pn pc):=Zag h8 0
 have c9:w.cell? ⟨g9,0,none⟩=some (.slice sa 64 sc):=Zag h9 0
 have hsl:s.length=64:=rs.hlen
 have h:=Zmp hp hpl hm hs hsl ho hd rm hl rs
 generalize verB pub m s=r at*
 go_enter Tryz.func48,Tryz.ntmps48
 go_wp2_with (refine Zax rfl (Zkf _ rfl g11 rfl h11 Tryz.underlying22 Tryz.szDg (Zcm hpl)) ?_)
 refine h.mono ?_
 rintro e w1 ⟨rfl,q⟩
 go_wp2_with fail
 refine (Zgn _ _ _).mono ?_
 rintro e w2 ⟨rfl,rfl⟩
 go_wp2
 go_ret
 exact ⟨rfl,q⟩
theorem Zuz {w:World} {g10 g4:Nat} {T T':TypeId} {M:Array Value} {x y:Int} (h10:w.heap[g10]? =some (.cells M T (0,0))) (hx:M[1]? =some (.int .i64 x)) (h4:w.heap[g4]? =some (.cells #[.int .i64 y] T' (0,0))):
  Calls Tryz.prog 50 #[.pointer (some ⟨g10,0,none⟩), .pointer (some ⟨g4,0,none⟩)] w fun e w'=>e= .returned (.int .i64 (bif decide (y≤x) then 0 else 230))∧w=w':=by
 have c10:w.cell? ⟨g10,1,none⟩=some (.int .i64 x):=(Zag h10 1).trans hx
 have c4:w.cell? ⟨g4,0,none⟩=some (.int .i64 y):=Zag h4 0
 go_enter Tryz.func50,Tryz.ntmps50
 go_wp2_with fail
 refine (Zgn _ _ _).mono ?_
 rintro e w2 ⟨rfl,rfl⟩
 go_wp2
 go_ret
 exact ⟨rfl,rfl⟩
end Go.Proofs.YtcaloldcihpkfaaGreatDoor.N

/-
 The code of layer 23 (image): Head.
-/
namespace Go.Proofs.YtcaloldcihpkfaaGreatDoor.N
open Go.RowKit
set_option linter.unusedVariables false
set_option maxRecDepth 8192

def ovI (D:List Int):List Int:=D.take (D.length - 64)
def snI (D:List Int):List Int:=D.drop (D.length - 64)
noncomputable def Za8 (l:List Ky) (fuse:Int) (D:List Int):Int:=
 bif mayK l then bif decide (64≤D.length) then bif isMf (ovI D) then bif decide (fndC l (Zab (ovI D) 12)=0) then bif decide (verB (fndD l (Zab (ovI D) 12)) (ovI D) (snI D)=0) then bif decide (fuse≤Zab (ovI D) 8) then 0 else 230 else 191 else fndC l (Zab (ovI D) 12) else 4 else 4 else 1
structure HB where
 gs:Nat
 pu:Nat
 mf:Nat
 sg:Nat
 ov:Nat
 an:Nat
 si:Nat
 fu:Nat
 ri:Nat
def hFn:Nat→Nat
 | 0=>41
 | 1=>43
 | 2=>45
 | 3=>47
 | 4=>48
 | _=>50
abbrev ptrV (g:Nat):Value:= .pointer (some ⟨g,0,none⟩)
def hBx (b:HB):Nat→List Value
 | 0=>[ptrV b.ri]
 | 1=>[ptrV b.si,ptrV b.ov,ptrV b.sg]
 | 2=>[ptrV b.ov,ptrV b.mf]
 | 3=>[ptrV b.ri,ptrV b.mf,ptrV b.pu]
 | 4=>[ptrV b.pu,ptrV b.ov,ptrV b.sg]
 | _=>[ptrV b.mf,ptrV b.fu]
abbrev hQ (b:HB) (k:Nat):Value:= .func (.func (hFn k)) #[] (hBx b k).toArray
abbrev hQs (b:HB):Array Value:= #[hQ b 0,hQ b 1,hQ b 2,hQ b 3,hQ b 4,hQ b 5]
def mf00:Array Value:= #[.int .i64 0, .int .i64 0, .int .i64 0, .int .i64 0, .slice none 0 0]
abbrev hL (b:HB) (ring:Value) (fuse:Int) (sgd:Value) (P M:Array Value) (sv ov:Value):List AV:=
 [⟨b.gs,123,hQs b⟩,⟨b.pu,22,P⟩,⟨b.mf,25,M⟩,⟨b.sg,28, #[sv]⟩,⟨b.ov,28, #[ov]⟩,⟨b.an,25,mf00⟩,⟨b.si,28, #[sgd]⟩,⟨b.fu,3, #[.int .i64 fuse]⟩,⟨b.ri,39, #[ring]⟩]
def MfAt (w:World) (M:Array Value) (o:List Int):Prop:=∃sa sc,M= #[.int .i64 (Zab o 4), .int .i64 (Zab o 8), .int .i64 (Zab o 12), .int .i64 (Zab o 16), .slice sa ((cnt o)) sc]∧SegRow w sa (cnt o) sc (ZaN o (cnt o))
structure HR (w0:World) (b:HB) (B:Nat) (ring:Value) (fuse:Int) (sgd:Value) (l:List Ky) (D:List Int) (k:Nat) (w:World) (P M:Array Value) (sv ov:Value):Prop where
 V:Vars w0 w (hL b ring fuse sgd P M sv ov)
 sB:B≤w.heap.size
 zP:P.size=32
 zM:M.size=5
 k1:1≤k→mayK l=true
 k2:2≤k→64≤D.length∧Two B w ov sv (D.length - 64) D
 k3:3≤k→isMf (ovI D)=true∧MfAt w M (ovI D)
 k4:4≤k→fndC l (Zab (ovI D) 12)=0∧P=dA (fndD l (Zab (ovI D) 12))
 k5:5≤k→verB (fndD l (Zab (ovI D) 12)) (ovI D) (snI D)=0
 k6:6≤k→fuse≤Zab (ovI D) 8
def HE (w0:World) (b:HB) (ring:Value) (fuse:Int) (sgd:Value) (l:List Ky) (D:List Int) (r:Int) (w:World):Prop:=r=Za8 l fuse D∧∃P M sv ov,Vars w0 w (hL b ring fuse sgd P M sv ov)
theorem MfAt.below {w w':World} {M:Array Value} {o:List Int} (h:MfAt w M o) (q:Below w.heap.size w w'):MfAt w' M o:=by
 obtain ⟨sa,sc,e,r⟩:=h
 exact ⟨sa,sc,e,r.below q (Nat.le_refl _)⟩
theorem MfAt.off {w w':World} {M X:Array Value} {o:List Int} {g:Nat} {T:TypeId} (h:MfAt w M o) (hD:IsB o) (hm:isMf o=true) (hg:w.heap[g]? =some (.cells X T (0,0))) (hX:X.size<34) (hs:w.heap.size≤w'.heap.size) (ho:∀k,k≠g→w'.heap[k]? =w.heap[k]?):MfAt w' M o:=by
 obtain ⟨sa,sc,e,r⟩:=h
 exact ⟨sa,sc,e,r.off (Zel hD (by have:=Zf5 (Zf6 hm).2.1;omega)) hg hX hs ho⟩
theorem Two.below {B:Nat} {w w':World} {ov sv:Value} {m:Nat} {D:List Int} (h:Two B w ov sv m D) (q:Below w.heap.size w w'):Two B w' ov sv m D:=h.keep q.size fun k _ hk=>q.block k hk
section
variable {w0 w:World} {b:HB} {B:Nat} {ra:Option Addr} {rn rc:Nat} {fuse:Int} {a:Option Addr} {n c:Nat} {l:List Ky} {D:List Int} {P M:Array Value} {sv ov:Value}
theorem ZuA (h:HR w0 b B (.slice ra rn rc) fuse (.slice a n c) l D 0 w P M sv ov) (hr:KRow w0 ra rn rc l) (ok:∀s∈l,s.Ok):
  Calls Tryz.prog 41 #[ptrV b.ri] w (Zcc (fun w'=>∃P M sv ov,HR w0 b B (.slice ra rn rc) fuse (.slice a n c) l D 1 w' P M sv ov) (HE w0 b (.slice ra rn rc) fuse (.slice a n c) l D)):=by
 refine (Zut (h.V.at 8 rfl) (hr.below h.V.bel (Nat.le_refl _)) ok).mono ?_
 rintro e w' ⟨rfl,q⟩
 have V:=h.V.call q
 cases hm:mayK l
 ·exact .inr ⟨1,by decide,rfl,by simp [Za8,hm],P,M,sv,ov,V⟩
 ·exact .inl ⟨rfl,P,M,sv,ov,V,Nat.le_trans h.sB q.size,h.zP,h.zM,fun _=>hm,fun h=>absurd h (by omega),fun h=>absurd h (by omega),fun h=>absurd h (by omega),fun h=>absurd h (by omega),fun h=>absurd h (by omega)⟩
theorem ZuB (h:HR w0 b B (.slice ra rn rc) fuse (.slice a n c) l D 1 w P M sv ov) (hr:Row .u8 w0 a n c D) (hn:n≤10064) (hb:b.ov≠b.sg):
  Calls Tryz.prog 43 #[ptrV b.si,ptrV b.ov,ptrV b.sg] w (Zcc (fun w'=>∃P M sv ov,HR w0 b B (.slice ra rn rc) fuse (.slice a n c) l D 2 w' P M sv ov) (HE w0 b (.slice ra rn rc) fuse (.slice a n c) l D)):=by
 refine (Zuu (h.V.at 6 rfl) (h.V.at 4 rfl) (h.V.at 3 rfl) hb (hr.below h.V.bel (Nat.le_refl _)) hn).mono ?_
 rintro e w' ⟨w1,ov',sv',q,rfl,hc⟩
 have V:=((h.V.call q).put 4 rfl 0 ov').put 3 rfl 0 sv'
 have hm:=h.k1 (Nat.le_refl _)
 have hl:D.length=n:=hr.hlen
 rcases hc with ⟨h64,rfl,ht⟩|⟨h64,rfl⟩
 ·refine .inl ⟨rfl,P,M,sv',ov',V, ?_,h.zP,h.zM,fun _=>hm,fun _=>⟨by omega, ?_⟩,fun h=>absurd h (by omega),fun h=>absurd h (by omega),fun h=>absurd h (by omega),fun h=>absurd h (by omega)⟩
  ·have:=h.sB;have:=q.size;simp;omega
  ·rw [hl]
   have hB:=h.sB
   obtain ⟨⟨a1,c1,e1,r1,m1⟩,⟨a2,c2,e2,r2,m2⟩⟩:=ht
   exact ⟨⟨a1,c1,e1,r1,fun q hq=>Nat.le_trans hB (m1 q hq)⟩,⟨a2,c2,e2,r2,fun q hq=>Nat.le_trans hB (m2 q hq)⟩⟩
 ·refine .inr ⟨4,by decide,rfl, ?_,P,M,sv',ov',V⟩
  rw [Za8,hm,decide_eq_false (by omega:¬64≤D.length)]
  rfl
theorem ZuC (h:HR w0 b B (.slice ra rn rc) fuse (.slice a n c) l D 2 w P M sv ov) (hD:IsB D) (hb:b.mf<B):
  Calls Tryz.prog 45 #[ptrV b.ov,ptrV b.mf] w (Zcc (fun w'=>∃P M sv ov,HR w0 b B (.slice ra rn rc) fuse (.slice a n c) l D 3 w' P M sv ov) (HE w0 b (.slice ra rn rc) fuse (.slice a n c) l D)):=by
 obtain ⟨h64,ht⟩:=h.k2 (Nat.le_refl _)
 have hm:=h.k1 (by omega)
 obtain ⟨a1,c1,e1,r1,m1⟩:=ht.ov
 subst e1
 refine (Zuv (h.V.at 4 rfl) (h.V.at 2 rfl) h.zM r1 (Zcr hD _)).mono ?_
 rintro e w' ⟨w1,Y,q,rfl,hY,hc⟩
 have V:=(h.V.call q).store 2 rfl Y
 have hs:=q.size
 have hB:=h.sB
 have e64:D.take (D.length - 64)=ovI D:=rfl
 rw [e64] at hc
 rcases hc with ⟨hmf,rfl,hma⟩|⟨hmf,rfl⟩
 ·refine .inl ⟨rfl,P,Y,sv,_,V,by simp [World.setRow];omega,h.zP,hY,fun _=>hm,fun _=>⟨h64,ht.keep (by simp [World.setRow];omega) fun k hk hlt=> ?_⟩,fun _=>⟨hmf,hma⟩,fun h=>absurd h (by omega),fun h=>absurd h (by omega),fun h=>absurd h (by omega)⟩
  rw [setRow_other _ _ _ _ (by omega),q.block k hlt]
 ·refine .inr ⟨4,by decide,rfl, ?_,P,Y,sv,_,V⟩
  rw [Za8,hm,decide_eq_true h64,hmf]
  rfl
theorem ZuD (h:HR w0 b B (.slice ra rn rc) fuse (.slice a n c) l D 3 w P M sv ov) (hr:KRow w0 ra rn rc l) (ok:∀s∈l,s.Ok) (hD:IsB D) (hb:b.pu<B):
  Calls Tryz.prog 47 #[ptrV b.ri,ptrV b.mf,ptrV b.pu] w (Zcc (fun w'=>∃P M sv ov,HR w0 b B (.slice ra rn rc) fuse (.slice a n c) l D 4 w' P M sv ov) (HE w0 b (.slice ra rn rc) fuse (.slice a n c) l D)):=by
 obtain ⟨h64,ht⟩:=h.k2 (by omega)
 have hm:=h.k1 (by omega)
 obtain ⟨hmf,hma⟩:=h.k3 (Nat.le_refl _)
 have hx:M[2]? =some (.int .i64 (Zab (ovI D) 12)):=by
  obtain ⟨sa,sc,rfl,_⟩:=hma
  rfl
 refine (Zuw (h.V.at 8 rfl) (h.V.at 2 rfl) hx (h.V.at 1 rfl) h.zP (hr.below h.V.bel (Nat.le_refl _)) ok hm).mono ?_
 rintro e w' ⟨w1,q,rfl,rfl⟩
 have V1:=h.V.call q
 have V:=V1.store 1 rfl (dA (fndD l (Zab (ovI D) 12)))
 have hs:=q.size
 have hB:=h.sB
 by_cases hf:fndC l (Zab (ovI D) 12)=0
 ·refine .inl ⟨by rw [hf],_,M,sv,ov,V,by simp [World.setRow];omega,Zcm (Zh9 ok _).1,h.zM,fun _=>hm,fun _=>⟨h64,ht.keep (by simp [World.setRow];omega) fun k hk hlt=> ?_⟩,fun _=>⟨hmf,(hma.below q).off (Zcr hD _) hmf (V1.at 1 rfl) (by rw [h.zP];decide) (by simp [World.setRow]) (fun k hk=>setRow_other _ _ _ _ hk)⟩,fun _=>⟨hf,rfl⟩,fun h=>absurd h (by omega),fun h=>absurd h (by omega)⟩
  rw [setRow_other _ _ _ _ (by omega),q.block k hlt]
 ·refine .inr ⟨_,hf,rfl, ?_,_,M,sv,ov,V⟩
  rw [Za8,hm,decide_eq_true h64,hmf,decide_eq_false hf]
  rfl
theorem ZuE (h:HR w0 b B (.slice ra rn rc) fuse (.slice a n c) l D 4 w P M sv ov) (ok:∀s∈l,s.Ok) (hD:IsB D) (hn:D.length≤10064) (ho:OAt w0) (hd:DAt w0):
  Calls Tryz.prog 48 #[ptrV b.pu,ptrV b.ov,ptrV b.sg] w (Zcc (fun w'=>∃P M sv ov,HR w0 b B (.slice ra rn rc) fuse (.slice a n c) l D 5 w' P M sv ov) (HE w0 b (.slice ra rn rc) fuse (.slice a n c) l D)):=by
 obtain ⟨h64,ht⟩:=h.k2 (by omega)
 have hm:=h.k1 (by omega)
 obtain ⟨hmf,hma⟩:=h.k3 (by omega)
 obtain ⟨hf,rfl⟩:=h.k4 (Nat.le_refl _)
 obtain ⟨a1,c1,e1,r1,m1⟩:=ht.ov
 subst e1
 obtain ⟨a2,c2,e2,r2,m2⟩:=ht.sv
 subst e2
 have hfo:=Zh9 ok (Zab (ovI D) 12)
 refine (Zuy (h.V.at 4 rfl) (h.V.at 3 rfl) (h.V.at 1 rfl) hfo.2 hfo.1 (Zcr hD _) (Zck hD _) (ho.of h.V) (hd.of h.V) r1 (by omega) r2).mono ?_
 rintro e w' ⟨rfl,q⟩
 have V:=h.V.call q
 by_cases hv:verB (fndD l (Zab (ovI D) 12)) (ovI D) (snI D)=0
 ·refine .inl ⟨?_,_,M,_,_,V,Nat.le_trans h.sB q.size,h.zP,h.zM,fun _=>hm,fun _=>⟨h64,ht.below q⟩,fun _=>⟨hmf,hma.below q⟩,fun _=>⟨hf,rfl⟩,fun _=>hv,fun h=>absurd h (by omega)⟩
  have hv':verB (fndD l (Zab (ovI D) 12)) (D.take (D.length - 64)) (D.drop (D.length - 64))=0:=hv
  rw [hv']
  rfl
 ·have hv':¬verB (fndD l (Zab (ovI D) 12)) (D.take (D.length - 64)) (D.drop (D.length - 64))=0:=hv
  refine .inr ⟨191,by decide,by rw [decide_eq_false hv'];rfl, ?_,_,M,_,_,V⟩
  rw [Za8,hm,decide_eq_true h64,hmf,decide_eq_true hf,decide_eq_false hv]
  rfl
theorem ZuF (h:HR w0 b B (.slice ra rn rc) fuse (.slice a n c) l D 5 w P M sv ov):
  Calls Tryz.prog 50 #[ptrV b.mf,ptrV b.fu] w (Zcc (fun w'=>∃P M sv ov,HR w0 b B (.slice ra rn rc) fuse (.slice a n c) l D 6 w' P M sv ov) (HE w0 b (.slice ra rn rc) fuse (.slice a n c) l D)):=by
 obtain ⟨h64,ht⟩:=h.k2 (by omega)
 have hm:=h.k1 (by omega)
 obtain ⟨hmf,hma⟩:=h.k3 (by omega)
 obtain ⟨hf,hP⟩:=h.k4 (by omega)
 have hv:=h.k5 (Nat.le_refl _)
 have hx:M[1]? =some (.int .i64 (Zab (ovI D) 8)):=by
  obtain ⟨sa,sc,rfl,_⟩:=hma
  rfl
 refine (Zuz (h.V.at 2 rfl) hx (h.V.at 7 rfl)).mono ?_
 rintro e w' ⟨rfl,rfl⟩
 by_cases hfu:fuse≤Zab (ovI D) 8
 ·exact .inl ⟨by rw [decide_eq_true hfu];rfl,P,M,sv,ov,h.V,h.sB,h.zP,h.zM,fun _=>hm,fun _=>⟨h64,ht⟩,fun _=>⟨hmf,hma⟩,fun _=>⟨hf,hP⟩,fun _=>hv,fun _=>hfu⟩
 ·refine .inr ⟨230,by decide,by rw [decide_eq_false hfu];rfl, ?_,P,M,sv,ov,h.V⟩
  rw [Za8,hm,decide_eq_true h64,hmf,decide_eq_true hf,decide_eq_true hv,decide_eq_false hfu]
  rfl
theorem ZuG (h:HR w0 b B (.slice ra rn rc) fuse (.slice a n c) l D 6 w P M sv ov):Za8 l fuse D=0:=by
 rw [Za8,h.k1 (by omega),decide_eq_true (h.k2 (by omega)).1,(h.k3 (by omega)).1,decide_eq_true (h.k4 (by omega)).1,decide_eq_true (h.k5 (by omega)),decide_eq_true (h.k6 (by omega))]
 rfl
theorem ZuH (h:HR w0 b B (.slice ra rn rc) fuse (.slice a n c) l D 0 w P M sv ov) (hr:KRow w0 ra rn rc l) (ok:∀s∈l,s.Ok) (hs:Row .u8 w0 a n c D) (hD:IsB D) (hn:n≤10064) (ho:OAt w0) (hd:DAt w0) (hb:b.ov≠b.sg) (hmB:b.mf<B) (hpB:b.pu<B):
  Calls Tryz.prog 40 #[.slice (some ⟨b.gs,0,none⟩) 6 6] w (Zcc (fun w'=>∃P M sv ov,HR w0 b B (.slice ra rn rc) fuse (.slice a n c) l D 6 w' P M sv ov) (HE w0 b (.slice ra rn rc) fuse (.slice a n c) l D)):=by
 have hl:D.length=n:=hs.hlen
 refine ZkG 6 (by decide) hFn (hBx b) b.gs w (fun k w'=>∃P M sv ov,HR w0 b B (.slice ra rn rc) fuse (.slice a n c) l D k w' P M sv ov) _ ⟨P,M,sv,ov,h⟩ ?_ ?_ ?_
 ·rintro k hk w' ⟨P,M,sv,ov,h⟩
  rw [cell_of_row w' b.gs k _ _ _ (h.V.at 0 rfl)]
  match k,hk with
  | 0,_=>rfl
  | 1,_=>rfl
  | 2,_=>rfl
  | 3,_=>rfl
  | 4,_=>rfl
  | 5,_=>rfl
 ·intro k hk args w
  match k,hk with
  | 0,_=>rfl
  | 1,_=>rfl
  | 2,_=>rfl
  | 3,_=>rfl
  | 4,_=>rfl
  | 5,_=>rfl
 ·rintro k hk w' ⟨P,M,sv,ov,h⟩
  match k,hk with
  | 0,_=>exact ZuA h hr ok
  | 1,_=>exact ZuB h hs hn hb
  | 2,_=>exact ZuC h hD hmB
  | 3,_=>exact ZuD h hr ok hD hpB
  | 4,_=>exact ZuE h ok hD (by omega) ho hd
  | 5,_=>exact ZuF h
end
end Go.Proofs.YtcaloldcihpkfaaGreatDoor.N

/-
 The code of layer 23 (image): Head, whole.
-/
namespace Go.Proofs.YtcaloldcihpkfaaGreatDoor.N
open Go.RowKit
set_option linter.unusedVariables false
set_option maxRecDepth 8192

theorem ZdH (w:World):(zeroValue 25).run Tryz.prog w= .ok (.agg mf00) w:=by kernel_rfl
theorem Zmw (w:World):(zeroValue 28).run Tryz.prog w= .ok (.slice none 0 0) w:=by kernel_rfl
theorem Zmx:Tryz.prog.built 25 []=some mf00:=by kernel_rfl
set_option maxHeartbeats 1600000 in
theorem ZuI {w:World} {ra:Option Addr} {rn rc:Nat} {fuse:Int} {a:Option Addr} {n c:Nat} {l:List Ky} {D:List Int} (hr:KRow w ra rn rc l) (ok:∀s∈l,s.Ok) (hs:Row .u8 w a n c D) (hD:IsB D) (hn:n≤10064) (ho:OAt w) (hd:DAt w):
  Calls Tryz.prog 15 #[.slice ra rn rc, .int .i64 fuse, .slice a n c] w fun e w'=>Below w.heap.size w w'∧
   ((Za8 l fuse D=0∧isMf (ovI D)=true∧∃M,e= .returned (.tuple #[.agg M, .int .i64 0])∧MfAt w' M (ovI D))∨(Za8 l fuse D≠0∧e= .returned (.tuple #[.agg mf00, .int .i64 (Za8 l fuse D)]))):=by
 have V0:=Vars.start w
 have hmk:∀(fn:Fn) (first cap:Array Value) (w:World),(Instr.makeFunc fn first cap).run Tryz.prog w= .ok (.func fn first cap) w:=fun _ _ _ _=>rfl
 go_enter Tryz.func15,Tryz.ntmps15
 go_wp2_with (first
  | (refine Zd6 V0 3 39 _ rfl rfl rfl (.slice ra rn rc) rfl rfl ?_;intro w1 g3 V1)
  | (refine Zd6 V1 4 3 _ rfl rfl rfl (.int .i64 fuse) rfl rfl ?_;intro w2 g4 V2)
  | (refine Zd6 V2 5 28 _ rfl rfl rfl (.slice a n c) rfl rfl ?_;intro w3 g5 V3)
  | (refine Zai V3 6 25 rfl rfl rfl mf00 ZdH ?_;intro w4 g6 V4)
  | (refine Zmv V4 8 28 rfl rfl rfl (.slice none 0 0) rfl Zmw ?_;intro w5 g8 V5)
  | (refine Zmv V5 9 28 rfl rfl rfl (.slice none 0 0) rfl Zmw ?_;intro w6 g9 V6)
  | (refine Zai V6 10 25 rfl rfl rfl mf00 ZdH ?_;intro w7 g10 V7)
  | (refine Zai V7 11 22 rfl rfl rfl (dA ZbT) Zk2 ?_;intro w8 g11 V8)
  | (refine Zax rfl (v:= .func _ _ _) (by unfold execOp;simp [hmk];rfl) ?_))
 obtain ⟨b,hb⟩:∃b:HB,b=⟨w8.heap.size,g11,g10,g9,g8,g6,g5,g4,g3⟩:=⟨_,rfl⟩
 have V9:=V8.new 123 (hQs b)
 have e1:g3=b.ri:=by rw [hb]
 have e2:g4=b.fu:=by rw [hb]
 have e3:g5=b.si:=by rw [hb]
 have e4:g6=b.an:=by rw [hb]
 have e5:g8=b.ov:=by rw [hb]
 have e6:g9=b.sg:=by rw [hb]
 have e7:g10=b.mf:=by rw [hb]
 have e8:g11=b.pu:=by rw [hb]
 have e9:w8.heap.size=b.gs:=by rw [hb]
 clear V0 V1 V2 V3 V4 V5 V6 V7 V8 hb
 rw [e9] at V9 ⊢
 subst e1 e2 e3 e4 e5 e6 e7 e8
 have hne:b.ov≠b.sg:=by
  have h:=V9.apart
  intro e
  simp only [List.pairwise_cons,List.mem_cons] at h
  exact h.2.2.2.1 _ (.inl rfl) e.symm
 have H0:HR w b (w8.alloc (.cells (hQs b) 123)).heap.size (.slice ra rn rc) fuse (.slice a n c) l D 0 (w8.alloc (.cells (hQs b) 123)) (dA ZbT) mf00 (.slice none 0 0) (.slice none 0 0):=
  ⟨V9,Nat.le_refl _,Zcm Zb1.len,rfl,fun h=>absurd h (by omega),fun h=>absurd h (by omega),fun h=>absurd h (by omega),fun h=>absurd h (by omega),fun h=>absurd h (by omega),fun h=>absurd h (by omega)⟩
 have hA:=ZuH H0 hr ok hs hD hn ho hd hne (Zat (V9.at 2 rfl)) (Zat (V9.at 1 rfl))
 have HDD:Hid (IsB D):=hD
 clear H0 V9 hr ok hs hD ho hd hne
 refine hA.mono ?_
 rintro e w10 (⟨rfl,P,M,sv,ov,h⟩|⟨r,hr0,rfl,hE,P,M,sv,ov,V⟩)
 ·have hc:=ZuG h
  obtain ⟨hmf,sa,sc,rfl,hrow⟩:=h.k3 (by omega)
  have V:=h.V
  have HM:Hid (isMf (ovI D)=true):=hmf
  have HC:Hid (Za8 l fuse D=0):=hc
  have HOW:Hid (SegRow w10 sa (cnt (ovI D)) sc (ZaN (ovI D) (cnt (ovI D)))):=hrow
  clear h hmf hc hrow hA
  go_wp2_with (first
   | (refine Zax rfl (Zb3 V 2 rfl _ rfl rfl Tryz.underlying25 rfl Tryz.szMf rfl) ?_)
   | (refine ZcH (V.at 5 rfl) _ (.tmp 25) rfl rfl rfl #[.int .i64 (Zab (ovI D) 4), .int .i64 (Zab (ovI D) 8), .int .i64 (Zab (ovI D) 12), .int .i64 (Zab (ovI D) 16), .slice sa ((cnt (ovI D))) sc] rfl rfl Tryz.szMf rfl rfl (Zce _ _ _ _ _ _ _) ?_))
  have V11:=V.store 5 rfl #[.int .i64 (Zab (ovI D) 4), .int .i64 (Zab (ovI D) 8), .int .i64 (Zab (ovI D) 12), .int .i64 (Zab (ovI D) 16), .slice sa ((cnt (ovI D))) sc]
  have hma:MfAt (w10.setRow b.an #[.int .i64 (Zab (ovI D) 4), .int .i64 (Zab (ovI D) 8), .int .i64 (Zab (ovI D) 12), .int .i64 (Zab (ovI D) 16), .slice sa ((cnt (ovI D))) sc]) _ (ovI D):=MfAt.off ⟨sa,sc,rfl,HOW.out⟩ (Zcr HDD.out _) HM.out (V.at 5 rfl) (by decide) (by simp [World.setRow]) (fun k hk=>setRow_other _ _ _ _ hk)
  refine bodyPost_ret (ZeM rfl _ V11 5 rfl rfl Tryz.underlying25 Tryz.szMf rfl) rfl ?_
  exact ⟨V11.bel, .inl ⟨HC.out,HM.out,_,rfl,hma⟩⟩
 ·have hr9:(r != 0)=true:=by simpa using hr0
  go_wp2_with (first
   | (refine ZaR 23 25 [] (by rfl) rfl rfl mf00 Zmx ?_)
   | (refine Zal V 5 rfl _ (.tmp 23) rfl rfl rfl mf00 rfl rfl Tryz.szMf rfl rfl (Zce 0 0 0 0 none 0 0) ?_;intro w11 V11))
  refine bodyPost_ret (ZeM rfl _ V11 5 rfl rfl Tryz.underlying25 Tryz.szMf rfl) rfl ?_
  exact ⟨V11.bel, .inr ⟨by rw [←hE];exact hr0,by first|rfl|rw [hE];rfl⟩⟩
end Go.Proofs.YtcaloldcihpkfaaGreatDoor.N

/-
 The code of layer 23 (image): a launch of a manifest and its data.
-/
namespace Go.Proofs.YtcaloldcihpkfaaGreatDoor.N
open Go.RowKit
set_option linter.unusedVariables false
set_option maxRecDepth 8192

def LdX (T:TypeId) (w:World) (Z:Nat) (l:List Sg) (R:Nat→B.PartV) (k:Nat) (v:Value) (xs:List Value):Prop:=
 w.ownsRow Z T 2 v k xs∧∀i,i<k→∃a c,xs[2*i]? =some (.int .i64 (sgI l i).load)∧xs[2*i+1]? =some (.slice a (R i).len c)∧Row .u8 w a (R i).len c (nI (R i).num)∧∀q,a=some q→Z≤q.block∧q.block<w.heap.size∧v.ownBlock≠some q.block
def LdI (T:TypeId) (w:World) (Z:Nat) (l:List Sg) (R:Nat→B.PartV) (k:Nat) (v:Value):Prop:=∃xs,LdX T w Z l R k v xs
theorem Zmy {k:IntKind} {w w':World} {a:Option Addr} {n c:Nat} {z:List Int} (h:Row k w a n c z) (hs:w.heap.size≤w'.heap.size) (hb:∀q,a=some q→w'.heap[q.block]? =w.heap[q.block]?):Row k w' a n c z:=by
 refine ⟨h.hlen,h.hcap,h.hmax,h.hnil,fun h0=> ?_⟩
 obtain ⟨b,off,rfl,hlt,hc⟩:=h.hcell h0
 exact ⟨b,off,rfl,Nat.lt_of_lt_of_le hlt hs,fun i hi=>(World.cell?_of_block (w:=w) (a:=⟨b,off+i,none⟩) (hb ⟨b,off,none⟩ rfl)).trans (hc i hi)⟩
section
variable {T:TypeId} {w w':World} {Z k:Nat} {l:List Sg} {R:Nat→B.PartV} {v:Value}
theorem LdI.zero (T:TypeId) (w:World) (Z:Nat) (l:List Sg) (R:Nat→B.PartV):LdI T w Z l R 0 (.slice none 0 0):=⟨[],World.ownsRow_nil _ _ _ _,fun i hi=>absurd hi (Nat.not_lt_zero _)⟩
theorem LdX.keep {xs:List Value} (h:LdX T w Z l R k v xs) (hs:w.heap.size≤w'.heap.size) (hb:∀j,Z≤j→j<w.heap.size→w'.heap[j]? =w.heap[j]?):LdX T w' Z l R k v xs:=by
 obtain ⟨own,he⟩:=h
 refine ⟨⟨own.1, ?_⟩,fun i hi=> ?_⟩
 ·rcases own.2 with h|⟨g,cap,cur,e,hg,hh,r⟩
  ·exact .inl h
  ·exact .inr ⟨g,cap,cur,e,hg,by rw [hb g hg (Zat hh)];exact hh,r⟩
 ·obtain ⟨a,c,e1,e2,r,hq⟩:=he i hi
  exact ⟨a,c,e1,e2,Zmy r hs fun q e=>hb _ (hq q e).1 (hq q e).2.1,fun q e=>⟨(hq q e).1,Nat.lt_of_lt_of_le (hq q e).2.1 hs,(hq q e).2.2⟩⟩
theorem LdI.keep (h:LdI T w Z l R k v) (hs:w.heap.size≤w'.heap.size) (hb:∀j,Z≤j→j<w.heap.size→w'.heap[j]? =w.heap[j]?):LdI T w' Z l R k v:=by
 obtain ⟨xs,h⟩:=h
 exact ⟨xs,h.keep hs hb⟩
theorem LdX.below {xs:List Value} (h:LdX T w Z l R k v xs) (q:Below w.heap.size w w'):LdX T w' Z l R k v xs:=h.keep q.size fun j _ hj=>q.block j hj
theorem LdX.push {w5:World} {ac:Option Addr} {cc g cp:Nat} {xs:List Value} (h:LdX T w Z l R k v xs) (hr:Row .u8 w ac (R k).len cc (nI (R k).num)) (hq:∀q,ac=some q→Z≤q.block∧q.block<w.heap.size∧v.ownBlock≠some q.block)
  (hg:w.grownBy w5 v.ownBlock) (hat:v.ownBlock=some g∨g=w.heap.size)
  (ho:w5.ownsRow Z T 2 (.slice (some ⟨g,0,none⟩) (k+1) cp) (k+1) (xs++ [.int .i64 (sgI l k).load, .slice ac (R k).len cc])):LdI T w5 Z l R (k+1) (.slice (some ⟨g,0,none⟩) (k+1) cp):=by
 obtain ⟨own,he⟩:=h
 have hl:=own.1
 have s2:=hg.size
 have keep:∀ {a:Option Addr} {n c:Nat} {z:List Int},Row .u8 w a n c z→(∀q,a=some q→Z≤q.block∧q.block<w.heap.size∧v.ownBlock≠some q.block)→Row .u8 w5 a n c z∧∀q,a=some q→Z≤q.block∧q.block<w5.heap.size∧(Value.slice (some ⟨g,0,none⟩) (k+1) cp).ownBlock≠some q.block:=fun {a n c z} r hb=>by
  refine ⟨Zmy r s2 fun q e=>hg.block _ (hb q e).2.1 (fun e'=>(hb q e).2.2 e'.symm),fun q e=>⟨(hb q e).1,Nat.lt_of_lt_of_le (hb q e).2.1 s2,fun e'=> ?_⟩⟩
  have e2:g=q.block:=by simpa [Value.ownBlock] using e'
  rcases hat with h|h
  ·exact (hb q e).2.2 (by rw [h,e2])
  ·have:=(hb q e).2.1;omega
 refine ⟨_,ho,fun i hi=> ?_⟩
 by_cases hik:i<k
 ·obtain ⟨a,c,e1,e2,r,hb⟩:=he i hik
  exact ⟨a,c,by rw [List.getElem?_append_left (by omega)];exact e1,by rw [List.getElem?_append_left (by omega)];exact e2,keep r hb⟩
 ·obtain rfl:i=k:=by omega
  refine ⟨ac,cc, ?_, ?_,keep hr hq⟩
  ·rw [List.getElem?_append_right (by omega),show 2*i - xs.length=0 by omega];rfl
  ·rw [List.getElem?_append_right (by omega),show 2*i+1 - xs.length=1 by omega];rfl
structure LdRow (w:World) (a:Option Addr) (n c:Nat) (l:List Sg) (R:Nat→B.PartV):Prop where
 hcap:n≤c
 hmax:c≤maxLen
 each:0<n→∃b,a=some ⟨b,0,none⟩∧b<w.heap.size∧∀i,i<n→∃a' c',w.cell? ⟨b,i*2,none⟩=some (.int .i64 (sgI l i).load)∧w.cell? ⟨b,i*2+1,none⟩=some (.slice a' (R i).len c')∧Row .u8 w a' (R i).len c' (nI (R i).num)
theorem LdI.row (h:LdI T w Z l R k v):∃a c,v= .slice a k c∧LdRow w a k c l R:=by
 obtain ⟨xs,own,he⟩:=h
 rcases id own.2 with ⟨rfl,h0⟩|⟨g,cap,cur,rfl,hg,hh,hnc,hcm,hcs,htake⟩
 ·subst h0
  exact ⟨none,0,rfl,Nat.le_refl _,Nat.zero_le _,fun h=>absurd h (by omega)⟩
 ·refine ⟨_,cap,rfl,hnc,hcm,fun _=>⟨g,rfl,Zat hh,fun i hi=> ?_⟩⟩
  obtain ⟨a,c,e1,e2,r,_⟩:=he i hi
  have c1:=own.cells (g:=g) rfl _ _ e1
  have c2:=own.cells (g:=g) rfl _ _ e2
  rw [Zbc,Nat.zero_add,Nat.mul_comm] at c1
  rw [Zbc,Nat.zero_add,Nat.mul_comm] at c2
  exact ⟨a,c,c1,c2,r⟩
theorem LdRow.below {a:Option Addr} {n c:Nat} (h:LdRow w a n c l R) (q:Below w.heap.size w w'):LdRow w' a n c l R:=by
 refine ⟨h.hcap,h.hmax,fun h0=> ?_⟩
 obtain ⟨b,e,hb,he⟩:=h.each h0
 refine ⟨b,e,Nat.lt_of_lt_of_le hb q.size,fun i hi=> ?_⟩
 obtain ⟨a',c',c1,c2,r⟩:=he i hi
 exact ⟨a',c',(q.cell (p:=⟨b,i*2,none⟩) hb).trans c1,(q.cell (p:=⟨b,i*2+1,none⟩) hb).trans c2,r.below q (Nat.le_refl _)⟩
end
theorem Vars.grown {w0 w w':World} {l:List AV} (h:Vars w0 w l) {r:Option Nat} (hg:w.grownBy w' r) (hr:∀k,r=some k→w0.heap.size≤k∧∀v∈l,v.g≠k):Vars w0 w' l:=
 ⟨h.bel.grown hg h.size (fun k hk=>(hr k hk).1),h.low,fun v hv=>by rw [hg.block v.g (Zat (h.holds v hv)) (fun e=>(hr _ e.symm).2 v hv rfl)];exact h.holds v hv,h.apart⟩
theorem Zi0 {P:Program} {md:Region.Mode} {ops:Array Oper} {Q:Exit→Act→World→Prop} {S:World→Prop} {fuel:Nat} {L:Array Bool} {a:Act} {w:World} (L':Array Bool) (h:L=L') (k:wpAnyH P md ops Q S fuel L' a w):wpAnyH P md ops Q S fuel L a w:=by
 rw [h]
 exact k
theorem ZuJ {α β γ:Type} {G Vg:α→β→γ→World→Prop} {X:Prop} (k:(∀x y z w,Vg x y z w→G x y z w)→X) (h:∀x y z w,Vg x y z w→G x y z w):X:=k h
def ld00:Array Value:= #[.int .i64 0, .int .i64 0, .int .i64 0, .slice none 0 0, .int .i64 0]
theorem ZfG (w:World):(zeroValue 44).run Tryz.prog w= .ok (.agg ld00) w:=by kernel_rfl
theorem ZuK (e s:Int):Tryz.prog.built 44 [(1, .int .i64 e),(2, .int .i64 s)]=some #[.int .i64 0, .int .i64 e, .int .i64 s, .slice none 0 0, .int .i64 0]:=by kernel_rfl
theorem Tryz.szLd:(Tryz.prog.info? 44).map (·.size)=some 5:=by kernel_rfl
theorem ZeN (x y z u:Int) (a:Option Addr) (n c:Nat):(#[.int .i64 x, .int .i64 y, .int .i64 z, .slice a n c, .int .i64 u]:Array Value).all (·.oneCell')=true:=by
 simp [Value.oneCell']
theorem ZuL:∃i,Tryz.prog.info? 70=some i∧i.zero=some (.agg #[.int .i64 0, .slice none 0 0])∧i.size=2∧i.bytes=32:=by
 have h:(Tryz.prog.info? 70).map (fun i=>(i.zero,i.size,i.bytes))=some (some (.agg #[.int .i64 0, .slice none 0 0]),2,32):=by kernel_rfl
 obtain ⟨i,hi,he⟩:=Option.map_eq_some_iff.1 h
 simp only [Prod.mk.injEq] at he
 exact ⟨i,hi,he.1,he.2.1,he.2.2⟩
theorem Zmz (x:Int) (a:Option Addr) (n c:Nat):Tryz.prog.built 70 [(0, .int .i64 x),(1, .slice a n c)]=some #[.int .i64 x, .slice a n c]:=by kernel_rfl
theorem Zi1 (x:Int) (a:Option Addr) (n c:Nat) (w:World):(Instr.buildSlice 42 1 [(0, .agg #[.int .i64 x, .slice a n c])].toArray).run Tryz.prog w= .ok (.slice (some ⟨w.heap.size,0,none⟩) 1 1) (w.alloc (.cells #[.int .i64 x, .slice a n c] 70)):=by kernel_rfl
set_option maxHeartbeats 1600000 in
theorem ZuM {w:World} {ve s ky e:Int} {a pa:Option Addr} {n c pc:Nat} {l:List Sg} {R:Nat→B.PartV} (hr:SegRow w a n c l) (ok:∀s∈l,s.Ok) (hp:B.PartsAt w pa n pc R) (hn:n≤1000) (hb:∀i,i<n→(R i).len≤100000):
  Calls Tryz.prog 55 #[.agg #[.int .i64 ve, .int .i64 s, .int .i64 ky, .int .i64 e, .slice a n c], .slice pa n pc] w fun e' w'=>Below w.heap.size w w'∧∃la lc Z,e'= .returned (.agg #[.int .i64 0, .int .i64 e, .int .i64 s, .slice la n lc, .int .i64 0])∧w.heap.size≤Z∧LdI 70 w' Z l R n (.slice la n lc):=by
 obtain ⟨i0,hi0,hz0,hz1,hz2⟩:=ZuL
 have hm:=hr.hmax
 have hc:=hr.hcap
 have hpm:=hp.hmax
 have hpl:=hp.hlen
 unfold maxLen at hm hpm
 have HB:Hid (∀i,i<n→(R i).len≤100000):=hb
 clear hb
 have V0:=Vars.start w
 have hbl:=ZuK e s
 go_enter Tryz.func55,Tryz.ntmps55
 go_wp2_with (first
  | (refine Zaj V0 2 25 _ rfl rfl rfl #[.int .i64 ve, .int .i64 s, .int .i64 ky, .int .i64 e, .slice a n c] rfl ?_;intro w1 g2 V1;have c0:w1.cell? ⟨g2,1,none⟩=some (.int .i64 s):=Zag (V1.at 0 rfl) 1;have c1:w1.cell? ⟨g2,3,none⟩=some (.int .i64 e):=Zag (V1.at 0 rfl) 3)
  | (refine Zai V1 4 44 rfl rfl rfl ld00 ZfG ?_;intro w2 g4 V2;have c2:w2.cell? ⟨g2,1,none⟩=some (.int .i64 s):=Zag (V2.at 1 rfl) 1;have c3:w2.cell? ⟨g2,3,none⟩=some (.int .i64 e):=Zag (V2.at 1 rfl) 3)
  | (refine Zai V2 5 44 rfl rfl rfl ld00 ZfG ?_;intro w3 g5 V3)
  | (refine Zal V3 0 rfl _ (.tmp 12) rfl rfl rfl #[.int .i64 0, .int .i64 e, .int .i64 s, .slice none 0 0, .int .i64 0] rfl rfl Tryz.szLd rfl rfl (ZeN _ _ _ _ _ _ _) ?_;intro w4 V4;have c4:w4.cell? ⟨g2,4,none⟩=some (.slice a n c):=Zag (V4.at 2 rfl) 4))
 obtain ⟨M0,V5⟩:∃M0,Vars w w4 [⟨g5,44, #[.int .i64 0, .int .i64 e, .int .i64 s, .slice none 0 0, .int .i64 0]⟩,⟨g4,44,ld00⟩,⟨g2,25,M0⟩]:=⟨_,V4⟩
 clear c0 c1 c2 c3 V0 V1 V2 V3 V4 hbl
 go_loopw [6,16] (fun _ i wr=>∃(k:Nat) (v:Value),k≤n∧i= .int .i64 (k:Int)∧Hid (Vars w wr [⟨g5,44, #[.int .i64 0, .int .i64 e, .int .i64 s,v, .int .i64 0]⟩,⟨g4,44,ld00⟩,⟨g2,25,M0⟩])∧w4.heap.size≤wr.heap.size∧Hid (LdI 70 wr w4.heap.size l R k v)) (fun _ i _=>n - (RowKit.intOf i).toNat)
 case atStart=>exact ⟨0,_,Nat.zero_le _,rfl,V5,Nat.le_refl _,LdI.zero _ _ _ _ _⟩
 case round=>
  have hg5:=Zat (V5.at 0 rfl)
  have hg4:=Zat (V5.at 1 rfl)
  have hg2:=Zat (V5.at 2 rfl)
  have hw4:=V5.bel.size
  have hw5:w.heap.size≤g5:=V5.low _ (List.mem_cons_self ..)
  obtain ⟨k,v,hk,rfl,HV,hsz,HLd⟩:=hrel
  have hr':=hr.below HV.out.bel (Nat.le_refl _)
  by_cases hlt:k<n
  ·obtain ⟨b,off,rfl,hbs,hcell⟩:=hr'.hcell (by omega)
   have hx:=hcell k hlt
   have hs:=ZcP ok k
   obtain ⟨b2,off2,rfl,hbw,hpe⟩:=hp.each (by omega)
   obtain ⟨x0,hri,hzi⟩:=hpe k hlt
   have hbs2:b2<wr.heap.size:=by omega
   replace x0:=(HV.out.bel.cell (p:=⟨b2,off2+k,none⟩) hbw).trans x0
   replace hri:=hri.below HV.out.bel (Nat.le_refl _)
   have hlb:=HB.out k hlt
   obtain ⟨s9,hs9⟩:∃s9,s9=sgI l k:=⟨_,rfl⟩
   have HS9:Hid (s9=sgI l k):=hs9
   rw [←hs9] at hs hx
   obtain ⟨r9,hr9⟩:∃r9,r9=R k:=⟨_,rfl⟩
   have HR9:Hid (r9=R k):=hr9
   rw [←hr9] at x0 hri hlb
   clear hcell hr' hpe hzi hs9 hr9
   have hlt':(k:Int)<(n:Int):=by omega
   have U0:=Vars.start wr
   go_upto_region 5 with (first
    | (refine wpList_load_mid rfl 66 _ rfl b (off+k*34) rfl (sC s9) _ hx Tryz.underlying66 rfl (by rw [ZbK hs];exact Tryz.szSg) ?_)
    | (refine Zai U0 7 66 rfl rfl rfl (sA sg0) ZcD ?_;intro u1 g7 U1)
    | (refine Zal U1 0 rfl _ (.tmp 20) rfl rfl rfl (sA s9) rfl rfl Tryz.szSg (Zba Zb7) (Zba hs) (ZcQ s9) ?_;intro w6 U2))
   have W:=(HV.out.made U2.bel (U2.low _ (List.mem_singleton.2 rfl)) (U2.at 0 rfl)).drew
   have x2:w6.drew.cell? ⟨b2,off2+k,none⟩=some (.slice r9.at_ r9.len r9.cap):=by rw [(U2.bel.drew).cell hbs2];exact x0
   have r2:=hri.below U2.bel.drew (Nat.le_refl _)
   obtain ⟨xs,hX⟩:=HLd.out
   have hX2:=hX.below U2.bel.drew
   have ol:=hX.1.lt
   have hs6:=U2.bel.size
   have hg7:=U2.low _ (List.mem_singleton.2 rfl)
   simp only at hg7
   have hs6':w6.drew.heap.size=w6.heap.size:=rfl
   obtain ⟨wd,hwd⟩:∃wd,wd=w6.drew:=⟨_,rfl⟩
   rw [←hwd] at W x2 r2 hX2 hs6'
   have hcl:=Zh4 r2 (by omega)
   clear hX HLd x0 hri hx U0 U1 U2
   refine Zar (fun w'=>Vars w w' [⟨g7,66,sA s9⟩,⟨g4,44,ld00⟩,⟨g2,25,M0⟩]∧w'.cell? ⟨b2,off2+k,none⟩=some (.slice r9.at_ r9.len r9.cap)) (by kernel_rfl) ?_
   rw [←hwd]
   clear hwd
   refine Zaz (rs:=[0,2,3,4,5,6,7]) (fuel:=7) (by kernel_rfl) (fun c d v a w h=>by cases d<;>exact h) (by kernel_rfl) ⟨W.del 1,x2⟩ (fun K hK=> ?_)
   iterate 7 (first
    | (refine Zah _ rfl (by rfl) rfl ?_;go_simp)
    | (apply Zad _ rfl (by rfl) (fun w' hw'=>by (have c7:=Zfa (hw'.1.at 0 rfl));(have x3:=hw'.2);go_simp;rfl);go_simp))
   refine Zac (hK.out _ ?_)
   clear hK K
   refine ZuJ (α:=Option Addr) (β:=Nat) (γ:=Nat) (G:= ?G) (Vg:=fun x y z w'=>Vars w w' [⟨g7,66,sA s9⟩,⟨g5,44, #[.int .i64 0, .int .i64 e, .int .i64 s,v, .int .i64 0]⟩,⟨g4,44,ld00⟩,⟨g2,25,M0⟩]∧Below wd.heap.size wd w'∧w'.cell? ⟨b2,off2+k,none⟩=some (.slice r9.at_ r9.len r9.cap)∧w'.heap[z]? =some (.cells #[.int .i64 s9.load, .slice x r9.len y] 70 (0,0))∧Row .u8 w' x r9.len y (nI r9.num)∧∀q,x=some q→wd.heap.size≤q.block∧q.block<w'.heap.size) ?first ?second
   case first=>
    intro HK
    refine Zeq (i:=1) (j:=8) (fuel:=6) (by kernel_rfl) rfl (by rfl) rfl (by rfl) (fun K hK=> ?_) (fun K hK=> ?_)
    ·have c5:wd.cell? ⟨g5,3,none⟩=some v:=Zag (W.at 1 rfl) 3
     go_simp
     refine hK _ _ ⟨W.del 1,x2⟩ ?_
     clear hK K c5
     refine Za3 (i:=8) (fuel:=5) (by kernel_rfl) rfl (by rfl) (fun K hK=> ?_)
     go_simp
     refine hcl.mono ?_
     rintro e9 w7 ⟨rv,rfl,own,q7⟩
     have W7:=W.call q7
     have x7:=(q7.cell (p:=⟨b2,off2+k,none⟩) (Za0 x2)).trans x2
     have kk:=own.lt
     obtain ⟨ac,cc,rfl,r7⟩:=ZaF own
     clear own
     refine hK _ _ ⟨W7.del 1,x7⟩ ?_
     clear hK K
     refine Zaz (rs:=[9]) (fuel:=4) (by kernel_rfl) (fun c d v a w h=>by cases d<;>exact h) (by kernel_rfl) ⟨W7.del 1,x7⟩ (fun K hK=> ?_)
     refine Zad (.agg #[.int .i64 s9.load, .slice ac r9.len cc]) rfl (by rfl) (fun w' hw'=>ZcT 70 [(0, .tmp 24),(1, .tmp 29)] rfl _ (Zmz _ _ _ _)) ?_
     go_simp
     refine Zac (hK.out _ ?_)
     clear hK K
     refine Za3 (i:=10) (fuel:=3) (by kernel_rfl) rfl (by rfl) (fun K hK=> ?_)
     refine Zdi (Vars.start w7) 31 42 1 [(0, .tmp 30)] rfl rfl 70 #[.int .i64 s9.load, .slice ac r9.len cc] (Zi1 _ _ _ _) (fun w8 g8 U8=> ?_)
     have W8:=W7.call U8.bel
     have x8:w8.cell? ⟨b2,off2+k,none⟩=some (.slice r9.at_ r9.len r9.cap):=(U8.bel.cell (p:=⟨b2,off2+k,none⟩) (Za0 x7)).trans x7
     refine hK _ _ ⟨W8.del 1,x8⟩ ?_
     clear hK K
     try go_simp
     refine Zi0 #[true,true,true,true,true,true,true,true,true,true,true,false,false,false] (by kernel_rfl) ?_
     exact HK ac cc g8 w8 ⟨W8,q7.trans (U8.bel.mono q7.size),x8,U8.at 0 rfl,r7.below U8.bel (Nat.le_refl _),fun q hq=>⟨(kk q.block (by rw [hq];rfl)).1,Nat.lt_of_lt_of_le (kk q.block (by rw [hq];rfl)).2 U8.bel.size⟩⟩
    ·go_simp
     refine hcl.mono ?_
     rintro e9 w7 ⟨rv,rfl,own,q7⟩
     have W7:=W.call q7
     have x7:=(q7.cell (p:=⟨b2,off2+k,none⟩) (Za0 x2)).trans x2
     have kk:=own.lt
     obtain ⟨ac,cc,rfl,r7⟩:=ZaF own
     clear own
     refine hK _ _ ⟨W7.del 1,x7⟩ ?_
     clear hK K
     refine Zaz (rs:=[9]) (fuel:=5) (by kernel_rfl) (fun c d v a w h=>by cases d<;>exact h) (by kernel_rfl) ⟨W7.del 1,x7⟩ (fun K hK=> ?_)
     refine Zad (.agg #[.int .i64 s9.load, .slice ac r9.len cc]) rfl (by rfl) (fun w' hw'=>ZcT 70 [(0, .tmp 24),(1, .tmp 29)] rfl _ (Zmz _ _ _ _)) ?_
     go_simp
     refine Zac (hK.out _ ?_)
     clear hK K
     refine Zeq (i:=1) (j:=10) (fuel:=4) (by kernel_rfl) rfl (by rfl) rfl (by rfl) (fun K hK=> ?_) (fun K hK=> ?_)
     ·have c5:w7.cell? ⟨g5,3,none⟩=some v:=Zag (W7.at 1 rfl) 3
      go_simp
      refine hK _ _ ⟨W7.del 1,x7⟩ ?_
      clear hK K c5
      refine Za3 (i:=10) (fuel:=3) (by kernel_rfl) rfl (by rfl) (fun K hK=> ?_)
      refine Zdi (Vars.start w7) 31 42 1 [(0, .tmp 30)] rfl rfl 70 #[.int .i64 s9.load, .slice ac r9.len cc] (Zi1 _ _ _ _) (fun w8 g8 U8=> ?_)
      have W8:=W7.call U8.bel
      have x8:w8.cell? ⟨b2,off2+k,none⟩=some (.slice r9.at_ r9.len r9.cap):=(U8.bel.cell (p:=⟨b2,off2+k,none⟩) (Za0 x7)).trans x7
      refine hK _ _ ⟨W8.del 1,x8⟩ ?_
      clear hK K
      try go_simp
      refine Zi0 #[true,true,true,true,true,true,true,true,true,true,true,false,false,false] (by kernel_rfl) ?_
      exact HK ac cc g8 w8 ⟨W8,q7.trans (U8.bel.mono q7.size),x8,U8.at 0 rfl,r7.below U8.bel (Nat.le_refl _),fun q hq=>⟨(kk q.block (by rw [hq];rfl)).1,Nat.lt_of_lt_of_le (kk q.block (by rw [hq];rfl)).2 U8.bel.size⟩⟩
     ·refine Zdi (Vars.start w7) 31 42 1 [(0, .tmp 30)] rfl rfl 70 #[.int .i64 s9.load, .slice ac r9.len cc] (Zi1 _ _ _ _) (fun w8 g8 U8=> ?_)
      have W8:=W7.call U8.bel
      have x8:w8.cell? ⟨b2,off2+k,none⟩=some (.slice r9.at_ r9.len r9.cap):=(U8.bel.cell (p:=⟨b2,off2+k,none⟩) (Za0 x7)).trans x7
      refine hK _ _ ⟨W8.del 1,x8⟩ ?_
      clear hK K
      refine Za3 (i:=1) (fuel:=3) (by kernel_rfl) rfl (by rfl) (fun K hK=> ?_)
      have c5:w8.cell? ⟨g5,3,none⟩=some v:=Zag (W8.at 1 rfl) 3
      go_simp
      refine hK _ _ ⟨W8.del 1,x8⟩ ?_
      clear hK K c5
      refine Zi0 #[true,true,true,true,true,true,true,true,true,true,true,false,false,false] (by kernel_rfl) ?_
      exact HK ac cc g8 w8 ⟨W8,q7.trans (U8.bel.mono q7.size),x8,U8.at 0 rfl,r7.below U8.bel (Nat.le_refl _),fun q hq=>⟨(kk q.block (by rw [hq];rfl)).1,Nat.lt_of_lt_of_le (kk q.block (by rw [hq];rfl)).2 U8.bel.size⟩⟩
   case second=>
    rintro ac cc g8 w8 ⟨W8,q8,x8,h8,r8,hq⟩
    have hX8:=hX2.below q8
    have hs8:=q8.size
    have lb2:=Za0 x8
    simp only at lb2
    clear hcl hX2 r2 W x2
    refine Za3 (i:=11) (fuel:=2) (by kernel_rfl) rfl (by rfl) (fun K hK=> ?_)
    refine wp_append_lies _ (.tmp 22) (.tmp 31) 42 (by rfl) w4.heap.size 70 i0 _ 2 32 Tryz.underlying42 hi0 hz0 hz1 hz2 (by rfl) (by omega) v k xs (by rfl) hX8.1 ⟨g8,0,none⟩ 1 1 [.int .i64 s9.load, .slice ac r9.len cc] (by rfl) (by rfl) (World.news_of_block h8) ?o1 (by omega) ?o2 ?o3 ?o4 _ rfl ?_
    case o1=>intro u hu;simp only [List.mem_cons,List.not_mem_nil,or_false] at hu;rcases hu with rfl|rfl<;>rfl
    case o2=>unfold maxLen;omega
    case o3=>omega
    case o4=>omega
    intro gg cp w9 own9 hg9 hat9 hlt9
    have hLd9:LdI 70 w9 w4.heap.size l R (k+1) (.slice (some ⟨gg,0,none⟩) (k+1) cp):=by
     rw [HS9.out] at own9
     rw [HR9.out] at r8 own9
     refine hX8.push r8 (fun q hq'=> ?_) hg9 hat9 own9
     have h9:=hq q hq'
     refine ⟨by omega,by omega,fun e=> ?_⟩
     have:=(ol _ e).2
     omega
    have W9:Vars w w9 [⟨g7,66,sA s9⟩,⟨g5,44, #[.int .i64 0, .int .i64 e, .int .i64 s,v, .int .i64 0]⟩,⟨g4,44,ld00⟩,⟨g2,25,M0⟩]:=W8.grown hg9 (fun j hj=>by
     have h9:=ol j hj
     refine ⟨by omega,fun u hu=> ?_⟩
     simp only [List.mem_cons,List.not_mem_nil,or_false] at hu
     rcases hu with rfl|rfl|rfl|rfl<;>simp only<;>omega)
    have x9:w9.cell? ⟨b2,off2+k,none⟩=some (.slice r9.at_ r9.len r9.cap):=hg9.cell x8 (fun e=>by have:=ol b2 e.symm;omega)
    refine hK _ _ ⟨W9.del 1,x9⟩ ?_
    have sz9:=hg9.size
    clear hK K W8 hX8 own9 hg9 r8 x8 h8
    refine Zaz (rs:=[12]) (fuel:=1) (by kernel_rfl) (fun c d v a w h=>by cases d<;>exact h) (by kernel_rfl) ⟨W9.del 1,x9⟩ (fun K hK=> ?_)
    go_simp
    refine Zad (.pointer (some ⟨g5,3,none⟩)) rfl (by rfl) (fun w' hw'=> ?_) ?_
    ·go_simp
    go_simp
    refine Zac (hK.out _ ?_)
    clear hK K
    refine Za3 (i:=13) (fuel:=0) (by kernel_rfl) rfl (by rfl) (fun K hK=> ?_)
    have c9:w9.cell? ⟨g5,3,none⟩=some v:=Zag (W9.at 1 rfl) 3
    have f9:=ZaJ (W9.at 1 rfl) 3
    have W10:=W9.put 1 rfl 3 (.slice (some ⟨gg,0,none⟩) (k+1) cp)
    have hLd10:LdI 70 (w9.setCell ⟨g5,3,none⟩ (.slice (some ⟨gg,0,none⟩) (k+1) cp)) w4.heap.size l R (k+1) (.slice (some ⟨gg,0,none⟩) (k+1) cp):=hLd9.keep (by simp) (fun j hj _=>Below.heap_setCell _ _ _ j (by simp only;omega))
    have s10:w9.heap.size=(w9.setCell ⟨g5,3,none⟩ (.slice (some ⟨gg,0,none⟩) (k+1) cp)).heap.size:=by simp
    have s9':=W9.bel.size
    go_simp
    refine hK _ _ ⟨W10.del 1, ?_⟩ ?_
    ·rw [World.cell?_setCell_other _ _ _ _ (by simp<;>omega)]
     exact x9
    clear hK K
    refine wpAnyH_done (by kernel_rfl) ?_ _
    have W11:Vars w (w9.setCell ⟨g5,3,none⟩ (.slice (some ⟨gg,0,none⟩) (k+1) cp)) [⟨g5,44, #[.int .i64 0, .int .i64 e, .int .i64 s, .slice (some ⟨gg,0,none⟩) (k+1) cp, .int .i64 0]⟩,⟨g4,44,ld00⟩,⟨g2,25,M0⟩]:=W10.tail
    clear W10 c9 f9 hLd9 W9 x9
    generalize w9.setCell ⟨g5,3,none⟩ (.slice (some ⟨gg,0,none⟩) (k+1) cp)=w10 at*
    go_wp2_with fail
    go_roundw
    case rel=>exact ⟨k+1,_,by omega,by go_num,W11,by omega,hLd10⟩
    case measure=>simp [RowKit.intOf];omega
  ·obtain rfl:k=n:=by omega
   have hk0:¬(k:Int)<(k:Int):=by omega
   have V6:=HV.out
   obtain ⟨la,lc,rfl,_⟩:=HLd.out.row
   have HLd':=HLd.out
   clear HLd HV
   go_wp2_with (first
    | (refine Zax rfl (Zb3 V6 0 rfl _ rfl rfl Tryz.underlying44 rfl Tryz.szLd rfl) ?_)
    | (refine ZcH (V6.at 1 rfl) _ (.tmp 35) rfl rfl rfl #[.int .i64 0, .int .i64 e, .int .i64 s, .slice la k lc, .int .i64 0] rfl rfl Tryz.szLd rfl rfl (ZeN _ _ _ _ _ _ _) ?_))
   have V7:=V6.store 1 rfl #[.int .i64 0, .int .i64 e, .int .i64 s, .slice la k lc, .int .i64 0]
   have hL7:LdI 70 (wr.setRow g4 #[.int .i64 0, .int .i64 e, .int .i64 s, .slice la k lc, .int .i64 0]) w4.heap.size l R k (.slice la k lc):=HLd'.keep (by simp [World.setRow]) (fun j hj _=>setRow_other _ _ _ _ (by omega))
   refine bodyPost_ret (ZcK rfl _ V7 1 rfl rfl Tryz.underlying44 Tryz.szLd rfl) rfl ⟨V7.bel,la,lc,rfl,w4.heap.size,hw4,hL7⟩
end Go.Proofs.YtcaloldcihpkfaaGreatDoor.N

/-
 The code of layer 23 (image): Check.
-/
namespace Go.Proofs.YtcaloldcihpkfaaGreatDoor.N
open Go.RowKit
set_option linter.unusedVariables false
set_option maxRecDepth 8192

abbrev sgsI (D:List Int):List Sg:=ZaN (ovI D) (cnt (ovI D))
noncomputable def ZbN (l:List Ky) (fuse:Int) (D:List Int) (n:Nat) (R:Nat→B.PartV):Int:=
 bif decide (Za8 l fuse D=0) then bif decide (n=cnt (ovI D)) then bif areS (sgsI D) R n then 0 else 231 else 231 else Za8 l fuse D
structure CB where
 gs:Nat
 mf:Nat
 an:Nat
 da:Nat
 si:Nat
 fu:Nat
 ri:Nat
def cFn:Nat→Nat
 | 0=>51
 | 1=>52
 | _=>53
def cBx (b:CB):Nat→List Value
 | 0=>[ptrV b.ri,ptrV b.fu,ptrV b.si,ptrV b.mf]
 | 1=>[ptrV b.da,ptrV b.mf]
 | _=>[ptrV b.mf,ptrV b.da]
abbrev cQ (b:CB) (k:Nat):Value:= .func (.func (cFn k)) #[] (cBx b k).toArray
abbrev cQs (b:CB):Array Value:= #[cQ b 0,cQ b 1,cQ b 2]
abbrev cL (b:CB) (ring:Value) (fuse:Int) (sgd data:Value) (M:Array Value):List AV:=
 [⟨b.gs,123,cQs b⟩,⟨b.mf,25,M⟩,⟨b.an,44,ld00⟩,⟨b.da,26, #[data]⟩,⟨b.si,28, #[sgd]⟩,⟨b.fu,3, #[.int .i64 fuse]⟩,⟨b.ri,39, #[ring]⟩]
structure CR (w0:World) (b:CB) (ring:Value) (fuse:Int) (sgd data:Value) (l:List Ky) (D:List Int) (n:Nat) (R:Nat→B.PartV) (k:Nat) (w:World) (M:Array Value):Prop where
 V:Vars w0 w (cL b ring fuse sgd data M)
 zM:M.size=5
 k1:1≤k→Za8 l fuse D=0∧isMf (ovI D)=true∧MfAt w M (ovI D)
 k2:2≤k→n=cnt (ovI D)
 k3:3≤k→areS (sgsI D) R n=true
def CE (w0:World) (b:CB) (ring:Value) (fuse:Int) (sgd data:Value) (l:List Ky) (D:List Int) (n:Nat) (R:Nat→B.PartV) (r:Int) (w:World):Prop:=r=ZbN l fuse D n R∧∃M,Vars w0 w (cL b ring fuse sgd data M)
section
variable {w0 w:World} {b:CB} {ra:Option Addr} {rn rc:Nat} {fuse:Int} {a pa:Option Addr} {n c m pc:Nat} {l:List Ky} {D:List Int} {R:Nat→B.PartV} {M:Array Value}
theorem ZuN (h:CR w0 b (.slice ra rn rc) fuse (.slice a m c) (.slice pa n pc) l D n R 0 w M) (hr:KRow w0 ra rn rc l) (ok:∀s∈l,s.Ok) (hs:Row .u8 w0 a m c D) (hD:IsB D) (hm:m≤10064) (ho:OAt w0) (hd:DAt w0):
  Calls Tryz.prog 51 #[ptrV b.ri,ptrV b.fu,ptrV b.si,ptrV b.mf] w (Zcc (fun w'=>∃M,CR w0 b (.slice ra rn rc) fuse (.slice a m c) (.slice pa n pc) l D n R 1 w' M) (CE w0 b (.slice ra rn rc) fuse (.slice a m c) (.slice pa n pc) l D n R)):=by
 have V:=h.V
 have zM:=h.zM
 have c1:w.cell? ⟨b.ri,0,none⟩=some (.slice ra rn rc):=Zag (V.at 6 rfl) 0
 have c2:w.cell? ⟨b.fu,0,none⟩=some (.int .i64 fuse):=Zag (V.at 5 rfl) 0
 have c3:w.cell? ⟨b.si,0,none⟩=some (.slice a m c):=Zag (V.at 4 rfl) 0
 have hh:=ZuI (fuse:=fuse) (hr.below V.bel (Nat.le_refl _)) ok (hs.below V.bel (Nat.le_refl _)) hD hm (ho.of V) (hd.of V)
 have HDD:Hid (IsB D):=hD
 clear h hr ok hs hD ho hd
 go_enter Tryz.func51,Tryz.ntmps51
 go_wp2_with fail
 refine hh.mono ?_
 rintro e w1 ⟨q,⟨hc,hmf,M',rfl,hma⟩|⟨hc,rfl⟩⟩
 ·have V1:=V.call q
  have H:Hid (Za8 l fuse D=0∧isMf (ovI D)=true∧MfAt w1 M' (ovI D)):=⟨hc,hmf,hma⟩
  have zM':M'.size=5:=by obtain ⟨sa,sc,rfl,_⟩:=hma;rfl
  have oM':M'.all (·.oneCell')=true:=by obtain ⟨sa,sc,rfl,_⟩:=hma;exact Zce _ _ _ _ _ _ _
  clear hc hmf hma hh c1 c2 c3 V q
  go_wp2_with (refine ZcH (V1.at 1 rfl) _ (.tmp 10) rfl rfl rfl M' rfl rfl Tryz.szMf zM zM' oM' ?_)
  go_ret
  obtain ⟨hc,hmf,hma⟩:=H.out
  exact .inl ⟨rfl,M',V1.store 1 rfl M',zM',fun _=>⟨hc,hmf,hma.off (Zcr HDD.out _) hmf (V1.at 1 rfl) (by rw [zM];decide) (by simp [World.setRow]) (fun k hk=>setRow_other _ _ _ _ hk)⟩,fun h=>absurd h (by omega),fun h=>absurd h (by omega)⟩
 ·have V1:=V.call q
  have H:Hid (Za8 l fuse D≠0∧Za8 l fuse D=ZbN l fuse D n R):=⟨hc,by rw [ZbN,decide_eq_false hc];rfl⟩
  clear hc hh c1 c2 c3 V q
  generalize Za8 l fuse D=r at*
  go_wp2_with (refine ZcH (V1.at 1 rfl) _ (.tmp 10) rfl rfl rfl mf00 rfl rfl Tryz.szMf zM rfl (Zce 0 0 0 0 none 0 0) ?_)
  go_ret
  exact .inr ⟨r,H.out.1,rfl,H.out.2,mf00,V1.store 1 rfl mf00⟩
theorem ZuO (h:CR w0 b (.slice ra rn rc) fuse (.slice a m c) (.slice pa n pc) l D n R 1 w M):
  Calls Tryz.prog 52 #[ptrV b.da,ptrV b.mf] w (Zcc (fun w'=>∃M,CR w0 b (.slice ra rn rc) fuse (.slice a m c) (.slice pa n pc) l D n R 2 w' M) (CE w0 b (.slice ra rn rc) fuse (.slice a m c) (.slice pa n pc) l D n R)):=by
 obtain ⟨V,zM,k1,_,_⟩:=h
 obtain ⟨hc,hmf,sa,sc,rfl,hrow⟩:=k1 (Nat.le_refl _)
 have c1:w.cell? ⟨b.da,0,none⟩=some (.slice pa n pc):=Zag (V.at 3 rfl) 0
 have c2:w.cell? ⟨b.mf,4,none⟩=some (.slice sa (cnt (ovI D)) sc):=Zag (V.at 1 rfl) 4
 have H:Hid (Za8 l fuse D=0∧isMf (ovI D)=true∧SegRow w sa (cnt (ovI D)) sc (sgsI D)):=⟨hc,hmf,hrow⟩
 clear hc hmf hrow k1
 go_enter Tryz.func52,Tryz.ntmps52
 go_wp2_with fail
 refine (Zgn _ _ _).mono ?_
 rintro e w1 ⟨rfl,rfl⟩
 go_wp2
 go_ret
 obtain ⟨hc,hmf,hrow⟩:=H.out
 by_cases hn:n=cnt (ovI D)
 ·exact .inl ⟨by simp [hn],_,V,zM,fun _=>⟨hc,hmf,sa,sc,rfl,hrow⟩,fun _=>hn,fun h=>absurd h (by omega)⟩
 ·have hb:((n:Int)==((cnt (ovI D):Nat):Int))=false:=by rw [beq_eq_false_iff_ne];omega
  exact .inr ⟨231,by decide,by rw [hb];rfl,by rw [ZbN,decide_eq_true hc,decide_eq_false hn];rfl,_,V⟩
theorem ZuP (h:CR w0 b (.slice ra rn rc) fuse (.slice a m c) (.slice pa n pc) l D n R 2 w M) (hD:IsB D) (hp:B.PartsAt w0 pa n pc R) (hb:∀i,i<n→(R i).len≤100000):
  Calls Tryz.prog 53 #[ptrV b.mf,ptrV b.da] w (Zcc (fun w'=>∃M,CR w0 b (.slice ra rn rc) fuse (.slice a m c) (.slice pa n pc) l D n R 3 w' M) (CE w0 b (.slice ra rn rc) fuse (.slice a m c) (.slice pa n pc) l D n R)):=by
 obtain ⟨V,zM,k1,k2,_⟩:=h
 obtain ⟨hc,hmf,sa,sc,rfl,hrow⟩:=k1 (by omega)
 have hn:=k2 (Nat.le_refl _)
 have c1:w.cell? ⟨b.da,0,none⟩=some (.slice pa n pc):=Zag (V.at 3 rfl) 0
 have c2:w.cell? ⟨b.mf,4,none⟩=some (.slice sa (cnt (ovI D)) sc):=Zag (V.at 1 rfl) 4
 have hrow':SegRow w sa n sc (sgsI D):=by rw [hn];exact hrow
 have okS:∀s∈sgsI D,s.Ok:=Zel (Zcr hD (D.length - 64)) (k:=cnt (ovI D)) (by have:=Zf5 (Zf6 hmf).2.1;exact Nat.le_of_eq this.2.2.symm)
 have ha:=Zp0 hrow' okS (hp.below V.bel (Nat.le_refl _)) hb
 rw [←hn] at c2
 have H:Hid (Za8 l fuse D=0∧isMf (ovI D)=true∧n=cnt (ovI D)∧SegRow w sa (cnt (ovI D)) sc (sgsI D)):=⟨hc,hmf,hn,hrow⟩
 obtain ⟨r,hr⟩:∃r,areS (sgsI D) R n=r:=⟨_,rfl⟩
 have HA:Hid (areS (sgsI D) R n=r):=hr
 rw [hr] at ha
 clear hc hmf hn hrow hrow' k1 k2 okS hr
 go_enter Tryz.func53,Tryz.ntmps53
 go_wp2_with fail
 refine ha.mono ?_
 rintro e w1 ⟨rfl,q⟩
 go_wp2_with fail
 refine (Zgn _ _ _).mono ?_
 rintro e w2 ⟨rfl,rfl⟩
 go_wp2
 go_ret
 obtain ⟨hc,hmf,hn,hrow⟩:=H.out
 have hA:=HA.out
 have V1:=V.call q
 cases r
 ·exact .inr ⟨231,by decide,rfl,by rw [ZbN,decide_eq_true hc,decide_eq_true hn,hA];rfl,_,V1⟩
 ·exact .inl ⟨rfl,_,V1,zM,fun _=>⟨hc,hmf,sa,sc,rfl,hrow.below q (Nat.le_refl _)⟩,fun _=>hn,fun _=>hA⟩
theorem ZuQ (h:CR w0 b (.slice ra rn rc) fuse (.slice a m c) (.slice pa n pc) l D n R 0 w M) (hr:KRow w0 ra rn rc l) (ok:∀s∈l,s.Ok) (hs:Row .u8 w0 a m c D) (hD:IsB D) (hm:m≤10064) (ho:OAt w0) (hd:DAt w0) (hp:B.PartsAt w0 pa n pc R) (hb:∀i,i<n→(R i).len≤100000):
  Calls Tryz.prog 40 #[.slice (some ⟨b.gs,0,none⟩) 3 3] w (Zcc (fun w'=>∃M,CR w0 b (.slice ra rn rc) fuse (.slice a m c) (.slice pa n pc) l D n R 3 w' M) (CE w0 b (.slice ra rn rc) fuse (.slice a m c) (.slice pa n pc) l D n R)):=by
 refine ZkG 3 (by decide) cFn (cBx b) b.gs w (fun k w'=>∃M,CR w0 b (.slice ra rn rc) fuse (.slice a m c) (.slice pa n pc) l D n R k w' M) _ ⟨M,h⟩ ?_ ?_ ?_
 ·rintro k hk w' ⟨M,h⟩
  rw [cell_of_row w' b.gs k _ _ _ (h.V.at 0 rfl)]
  match k,hk with
  | 0,_=>rfl
  | 1,_=>rfl
  | 2,_=>rfl
 ·intro k hk args w
  match k,hk with
  | 0,_=>rfl
  | 1,_=>rfl
  | 2,_=>rfl
 ·rintro k hk w' ⟨M,h⟩
  match k,hk with
  | 0,_=>exact ZuN h hr ok hs hD hm ho hd
  | 1,_=>exact ZuO h
  | 2,_=>exact ZuP h hD hp hb
end
theorem ZuR:Tryz.prog.built 44 []=some ld00:=by kernel_rfl
set_option maxHeartbeats 1600000 in
theorem ZmA {w:World} {ra:Option Addr} {rn rc:Nat} {fuse:Int} {a pa:Option Addr} {m c n pc:Nat} {l:List Ky} {D:List Int} {R:Nat→B.PartV} (hr:KRow w ra rn rc l) (ok:∀s∈l,s.Ok) (hs:Row .u8 w a m c D) (hD:IsB D) (hm:m≤10064) (ho:OAt w) (hd:DAt w) (hp:B.PartsAt w pa n pc R) (hb:∀i,i<n→(R i).len≤100000):
  Calls Tryz.prog 16 #[.slice ra rn rc, .int .i64 fuse, .slice a m c, .slice pa n pc] w fun e w'=>Below w.heap.size w w'∧
   ((ZbN l fuse D n R=0∧isMf (ovI D)=true∧n=cnt (ovI D)∧∃la lc,e= .returned (.tuple #[.agg #[.int .i64 0, .int .i64 (Zab (ovI D) 16), .int .i64 (Zab (ovI D) 8), .slice la n lc, .int .i64 0], .int .i64 0])∧∃Z,w.heap.size≤Z∧LdI 70 w' Z (sgsI D) R n (.slice la n lc))∨(ZbN l fuse D n R≠0∧e= .returned (.tuple #[.agg ld00, .int .i64 (ZbN l fuse D n R)]))):=by
 have V0:=Vars.start w
 go_enter Tryz.func16,Tryz.ntmps16
 go_wp2_with (first
  | (refine Zd6 V0 4 39 _ rfl rfl rfl (.slice ra rn rc) rfl rfl ?_;intro w1 g4 V1)
  | (refine Zd6 V1 5 3 _ rfl rfl rfl (.int .i64 fuse) rfl rfl ?_;intro w2 g5 V2)
  | (refine Zd6 V2 6 28 _ rfl rfl rfl (.slice a m c) rfl rfl ?_;intro w3 g6 V3)
  | (refine Zd6 V3 7 26 _ rfl rfl rfl (.slice pa n pc) rfl rfl ?_;intro w4 g7 V4)
  | (refine Zai V4 8 44 rfl rfl rfl ld00 ZfG ?_;intro w5 g8 V5)
  | (refine Zai V5 10 25 rfl rfl rfl mf00 ZdH ?_;intro w6 g10 V6))
 obtain ⟨b,hb'⟩:∃b:CB,b=⟨w6.heap.size,g10,g8,g7,g6,g5,g4⟩:=⟨_,rfl⟩
 have V9:=V6.new 123 (cQs b)
 have e1:g4=b.ri:=by rw [hb']
 have e2:g5=b.fu:=by rw [hb']
 have e3:g6=b.si:=by rw [hb']
 have e4:g7=b.da:=by rw [hb']
 have e5:g8=b.an:=by rw [hb']
 have e6:g10=b.mf:=by rw [hb']
 have e9:w6.heap.size=b.gs:=by rw [hb']
 clear V0 V1 V2 V3 V4 V5 V6 hb'
 rw [e9] at V9 ⊢
 subst e1 e2 e3 e4 e5 e6
 have hA:=ZuQ (n:=n) (R:=R) (l:=l) (D:=D) ⟨V9,rfl,fun h=>absurd h (by omega),fun h=>absurd h (by omega),fun h=>absurd h (by omega)⟩ hr ok hs hD hm ho hd hp hb
 have HI:Hid (IsB D∧B.PartsAt w pa n pc R∧∀i,i<n→(R i).len≤100000):=⟨hD,hp,hb⟩
 clear V9 hr ok hs hD ho hd hp hb
 refine hA.mono ?_
 rintro e w10 (⟨rfl,M,h⟩|⟨r,hr0,rfl,hE,M,V⟩)
 ·obtain ⟨V,zM,k1,k2,k3⟩:=h
  obtain ⟨hc,hmf,sa,sc,rfl,hrow⟩:=k1 (by omega)
  have hn:=k2 (by omega)
  have ha:=k3 (by omega)
  have H:Hid (ZbN l fuse D n R=0∧isMf (ovI D)=true∧n=cnt (ovI D)):=⟨by rw [ZbN,decide_eq_true hc,decide_eq_true hn,ha];rfl,hmf,hn⟩
  have hf:=Zf5 (Zf6 hmf).2.1
  have hrow':SegRow w10 sa n sc (sgsI D):=by rw [hn];exact hrow
  have okS:∀s∈sgsI D,s.Ok:=Zel (Zcr HI.out.1 (D.length - 64)) (k:=cnt (ovI D)) (Nat.le_of_eq hf.2.2.symm)
  have hl:=ZuM (ve:=Zab (ovI D) 4) (s:=Zab (ovI D) 8) (ky:=Zab (ovI D) 12) (e:=Zab (ovI D) 16) hrow' okS (HI.out.2.1.below V.bel (Nat.le_refl _)) (by have:=Zj0 (Zcr HI.out.1 (D.length - 64));have h8:=hf.2.1;rw [hn];unfold cnt;omega) HI.out.2.2
  have c1:w10.cell? ⟨b.da,0,none⟩=some (.slice pa n pc):=Zag (V.at 3 rfl) 0
  have HN:Hid (n=cnt (ovI D)):=hn
  have VV:Vars w w10 (cL b (.slice ra rn rc) fuse (.slice a m c) (.slice pa n pc) #[.int .i64 (Zab (ovI D) 4), .int .i64 (Zab (ovI D) 8), .int .i64 (Zab (ovI D) 12), .int .i64 (Zab (ovI D) 16), .slice sa n sc]):=by have V':=V;rw [←hn] at V';exact V'
  clear V hc hmf hrow hrow' hn ha okS k1 k2 k3 zM hf hA HI
  go_wp2_with (refine Zax rfl (Zb3 VV 1 rfl _ rfl rfl Tryz.underlying25 rfl Tryz.szMf rfl) ?_)
  refine hl.mono ?_
  rintro e w11 ⟨q,la,lc,Z,rfl,hZ,hld⟩
  have V1:=VV.call q
  have hZ0:w.heap.size≤Z:=Nat.le_trans VV.bel.size hZ
  have hZ':b.an<Z:=Nat.lt_of_lt_of_le (Zat (VV.at 2 rfl)) hZ
  have HLR:Hid (LdI 70 w11 Z (sgsI D) R n (.slice la n lc)):=hld
  clear hl VV c1 hld q
  go_wp2_with (refine ZcH (V1.at 2 rfl) _ (.tmp 23) rfl rfl rfl #[.int .i64 0, .int .i64 (Zab (ovI D) 16), .int .i64 (Zab (ovI D) 8), .slice la n lc, .int .i64 0] rfl rfl Tryz.szLd rfl rfl (ZeN _ _ _ _ _ _ _) ?_)
  have V2:=V1.store 2 rfl #[.int .i64 0, .int .i64 (Zab (ovI D) 16), .int .i64 (Zab (ovI D) 8), .slice la n lc, .int .i64 0]
  refine bodyPost_ret (ZeM rfl _ V2 2 rfl rfl Tryz.underlying44 Tryz.szLd rfl) rfl ?_
  obtain ⟨h1,h2,h3⟩:=H.out
  exact ⟨V2.bel, .inl ⟨h1,h2,h3,la,lc,rfl,Z,hZ0,HLR.out.keep (by simp [World.setRow]) (fun j hj _=>setRow_other _ _ _ _ (by omega))⟩⟩
 ·have hr9:(r != 0)=true:=by simpa using hr0
  have HE:Hid (r≠0∧r=ZbN l fuse D n R):=⟨hr0,hE⟩
  clear hE hA hr0
  go_wp2_with (first
   | (refine ZaR 19 44 [] (by rfl) rfl rfl ld00 ZuR ?_)
   | (refine Zal V 2 rfl _ (.tmp 19) rfl rfl rfl ld00 rfl rfl Tryz.szLd rfl rfl (ZeN 0 0 0 0 none 0 0) ?_;intro w11 V11))
  refine bodyPost_ret (ZeM rfl _ V11 2 rfl rfl Tryz.underlying44 Tryz.szLd rfl) rfl ?_
  exact ⟨V11.bel, .inr ⟨by rw [←HE.out.2];exact HE.out.1,by rw [←HE.out.2];rfl⟩⟩
end Go.Proofs.YtcaloldcihpkfaaGreatDoor.N

/-
 The code of layer 23 (image): Make.
-/
namespace Go.Proofs.YtcaloldcihpkfaaGreatDoor.N
open Go.RowKit
set_option linter.unusedVariables false
set_option maxRecDepth 8192

def Zbi (sd:Nat) (m:Mf):List Int:=Zay m++sgnI sd (Zay m)
abbrev mfOf (v s k e:Int) (l:List Sg) (R:Nat→B.PartV) (n:Nat):Mf:=⟨v,s,k,e,ZaX l R n⟩
theorem Zi2 (v s k e:Int) (l:List Sg) (R:Nat→B.PartV) (n:Nat):(mfOf v s k e l R n).Ok:=Zev l R n
theorem ZmB (v s k e:Int) (l:List Sg) (R:Nat→B.PartV) (n:Nat):(Zay (mfOf v s k e l R n)).length=24+40*n:=by
 rw [ZjX (Zi2 v s k e l R n)]
 show 24+40*(ZaX l R n).length=_
 rw [ZcE]
theorem ZmC (v s k e:Int) (l:List Sg) (R:Nat→B.PartV) (n:Nat):IsB (Zay (mfOf v s k e l R n)):=ZhA (Zi2 v s k e l R n)
set_option maxHeartbeats 1600000 in
theorem ZmD {w:World} (sd:Nat) (hsd:sd<2^256) {v s k e:Int} {a pa:Option Addr} {n c m pc:Nat} {l:List Sg} {R:Nat→B.PartV} (hr:SegRow w a n c l) (ok:∀s∈l,s.Ok) (hp:B.PartsAt w pa m pc R) (hn:n≤1000) (hb:∀i,i<m→(R i).len≤100000) (ho:OAt w) (hd:DAt w):
  Calls Tryz.prog 9 #[.agg (bA sd), .agg #[.int .i64 v, .int .i64 s, .int .i64 k, .int .i64 e, .slice a n c], .slice pa m pc] w fun e' w'=>Below w.heap.size w w'∧
   (((m=n→mayM (mfOf v s k e l R n)=false)∧e'= .returned (.tuple #[.slice none 0 0, .int .i64 1]))∨
    (m=n∧mayM (mfOf v s k e l R n)=true∧∃ab cb,e'= .returned (.tuple #[.slice ab (24+40*n+64) cb, .int .i64 0])∧Row .u8 w' ab (24+40*n+64) cb (Zbi sd (mfOf v s k e l R n)))):=by
 obtain ⟨i0,hi0,hz0,hz1,hz2⟩:=info_parts Tryz.info5
 have HL:=ZmB v s k e l R n
 have HBY:=ZmC v s k e l R n
 have hok:=Zev l R n
 have HMD:Hid (Zbi sd (mfOf v s k e l R n)=Zay (mfOf v s k e l R n)++sgnI sd (Zay (mfOf v s k e l R n))):=rfl
 have V0:=Vars.start w
 go_enter Tryz.func9,Tryz.ntmps9
 by_cases hmn:m=n
 case neg=>
  have hmn':((m:Int) != (n:Int))=true:=by rw [bne_iff_ne];omega
  go_wp2_with (first
   | (refine Zaj V0 3 22 _ rfl rfl rfl (bA sd) rfl ?_;intro w1 g1 V1)
   | (refine Zaj V1 4 25 _ rfl rfl rfl #[.int .i64 v, .int .i64 s, .int .i64 k, .int .i64 e, .slice a n c] rfl ?_;intro w2 g2 V2;have c4:w2.cell? ⟨g2,4,none⟩=some (.slice a n c):=Zag (V2.at 0 rfl) 4))
  go_ret2
  exact ⟨V2.bel, .inl ⟨fun h=>absurd h hmn,rfl⟩⟩
 subst hmn
 have hmn':((m:Int) != (m:Int))=false:=by simp
 go_wp2_with (first
  | (refine Zaj V0 3 22 _ rfl rfl rfl (bA sd) rfl ?_;intro w1 g1 V1)
  | (refine Zaj V1 4 25 _ rfl rfl rfl #[.int .i64 v, .int .i64 s, .int .i64 k, .int .i64 e, .slice a m c] rfl ?_;intro w2 g2 V2;have c4:w2.cell? ⟨g2,4,none⟩=some (.slice a m c):=Zag (V2.at 0 rfl) 4))
 refine (ZpT (hr.below V2.bel (Nat.le_refl _)) ok (hp.below V2.bel (Nat.le_refl _)) hn hb).mono ?_
 rintro e3 w3 ⟨a3,c3,rfl,r3,q3⟩
 have V3:=V2.call q3
 have c5:w3.cell? ⟨g2,4,none⟩=some (.slice a m c):=Zag (V3.at 0 rfl) 4
 have f5:=ZaJ (V3.at 0 rfl) 4
 have V4:Vars w (w3.setCell ⟨g2,4,none⟩ (.slice a3 m c3)) [⟨g2,25, #[.int .i64 v, .int .i64 s, .int .i64 k, .int .i64 e, .slice a3 m c3]⟩,⟨g1,22,bA sd⟩]:=V3.put 0 rfl 4 (.slice a3 m c3)
 have r4:SegRow (w3.setCell ⟨g2,4,none⟩ (.slice a3 m c3)) a3 m c3 (ZaX l R m):=r3.off hok (V3.at 0 rfl) (by show (5:Nat)<34;decide) (by simp) (fun j hj=>Below.heap_setCell _ _ _ j (by simpa using hj))
 clear V3 V2 V1 V0 hr ok hp hb r3 q3 c4
 generalize hmf:mfOf v s k e l R m=mf at*
 have HMF:Hid (mfOf v s k e l R m=mf):=hmf
 clear hmf
 cases hm:mayM mf
 ·have hby:=Zp8 r4 hok (HMF.out.symm▸hm)
  have HM:Hid (mayM mf=false):=hm
  clear hm
  go_wp2_with (refine Zax rfl (Zb3 V4 0 rfl _ rfl rfl Tryz.underlying25 rfl Tryz.szMf rfl) ?_)
  refine hby.mono ?_
  rintro e5 w5 ⟨rfl,q5⟩
  have V5:=V4.call q5
  go_wp2
  go_ret2
  exact ⟨V5.bel, .inl ⟨by rw [HMF.out];exact HM.out,rfl⟩⟩
 ·have hby:=Zp9 r4 hok (HMF.out.symm▸hm)
  rw [show (⟨v,s,k,e,ZaX l R m⟩:Mf)=mf from HMF.out] at hby
  have HM:Hid (mayM mf=true):=hm
  have HSB:Hid (sgnI sd (Zay mf)=nI (digL (sgN sd ((Zay mf).map Int.toNat)) 64)):=rfl
  have hsg:=fun (w':World) (pm:Option Addr) (km:Nat) (ho:OAt w') (hd:DAt w') (rm:Row .u8 w' pm (24+40*m) km (Zay mf))=>Zus sd hsd HBY w' ho hd rm (by have:=hn;have h8:=(Zek hm).n;rw [←HMF.out] at h8;have h9:=ZcE l R m;simp only at h8;omega)
  clear hm hok r4
  generalize Zay mf=D at*
  generalize sgN sd (D.map Int.toNat)=sg at*
  go_wp2_with (refine Zax rfl (Zb3 V4 0 rfl _ rfl rfl Tryz.underlying25 rfl Tryz.szMf rfl) ?_)
  refine hby.mono ?_
  rintro e5 w5 ⟨u,rfl,own5,q5⟩
  have V5:=V4.call q5
  obtain ⟨au,cu,rfl,ru⟩:=ZaF own5
  have V4s:=V4.bel.size
  clear hby V4 c5 f5
  go_wp2_with (refine ZaM V5 1 rfl 30 _ rfl rfl rfl rfl Tryz.underlying22 Tryz.szB (Zaf _) ?_)
  refine (hsg w5 au cu (ho.of V5) (hd.of V5) ru).mono ?_
  rintro e6 w6 ⟨rfl,q6⟩
  have V6:=V5.call q6
  have own6:=Zcs own5 q6
  have U6:=Vars.start w6
  have hB0:=q5.size
  have hq6:=q6.size
  have hn64:24+40*m+64≤50000:=by omega
  clear ru hsg V5 own5 q6 q5
  go_wp2_with (first
   | (refine Zai U6 10 63 rfl rfl rfl (hA 0) ZfC ?_;intro w7 g7 U7)
   | (refine Zal U7 0 rfl _ (.tmp 32) rfl rfl rfl (hA sg) rfl rfl Tryz.szH (ZcW _) (ZcW _) (ZgD _) ?_;intro w8 U8;have own8:=Zcs own6 U8.bel;have r8:=ZiS (U8.at 0 rfl);have s8:=U8.bel.size)
   | (refine Zax rfl (Ze7 U8 0 rfl _ rfl rfl) ?_)
   | (at_builtin;refine Zdn _ rfl _ _ 28 rfl _ 5 i0 (.int .u8 0) 1 Tryz.underlying28 hi0 hz0 hz1 hz2 rfl _ (24+40*m) _ rfl own8 .u8 (some ⟨g7,0,none⟩) 64 64 _ rfl r8 (by unfold maxLen;omega) (by omega) (by omega) ?_;intro v9 w9 own9 hg9))
  have V8:=V6.call U8.bel
  have q9:Below w.heap.size w w9:=V8.bel.grown hg9 V8.bel.size (fun j hj=>by have:=(own8.lt j hj).1;have:=V4s;omega)
  rw [←List.map_append, ←HSB.out] at own9
  obtain ⟨a9,c9,rfl,r9⟩:=ZaF own9
  go_ret2
  refine ⟨q9, .inr ?_⟩
  rw [HMF.out,HMD.out]
  first|exact ⟨HM.out,a9,c9,rfl,r9⟩|exact ⟨HM.out,r9⟩|exact ⟨HM.out,c9,rfl,r9⟩|trace_state
end Go.Proofs.YtcaloldcihpkfaaGreatDoor.N
