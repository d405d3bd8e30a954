/-
 What every walk of ours uses, over whatever program: 'Row' (a slice reads as a list of numbers in a world), how it is carried over calls, how owned memory becomes a row, and laws for append, copy, make, string(b).
-/
import Derived.WalkKit
import Derived.WalkSpells
import Derived.WalkLawsBesides
import Derived.Laws.CopyOwn
import Derived.Laws.AppendOwnNone
import Derived.Laws.BytesArg
import Derived.RegionTactic
import Derived.OpenShut
import Derived.Deep.QuietTactic
import Derived.BigQuiet
import Derived.Deep.RegionWith
import Derived.Test.YtcaloldcihpkfaaGreatDoorRows
import Derived.Deep.RegionHeld2
import Derived.Below
import Derived.BigRegion
namespace Go.Proofs.YtcaloldcihpkfaaGreatDoor
open Go.RowKit
set_option linter.unusedVariables false
set_option maxRecDepth 8192

theorem Zbo {k:IntKind} {a b:Int} (h:a=b):Ending.returned (.int k a)= .returned (.int k b):=by rw [h]
theorem ZaC {a b:Bool} (h:a=b):Ending.returned (.bool a)= .returned (.bool b):=by rw [h]

structure Row (k:IntKind) (w:World) (a:Option Addr) (len cap:Nat) (zs:List Int):Prop where
 hlen:zs.length=len
 hcap:len≤cap
 hmax:cap≤maxLen
 hnil:a=none→cap=0
 hcell:0<len→∃b off,a=some ⟨b,off,none⟩∧b<w.heap.size∧∀i,i<len→w.cell? ⟨b,off+i,none⟩=some (.int k (zs[i]?.getD 0))

theorem Row.below {k:IntKind} {w w':World} {a:Option Addr} {len cap:Nat} {zs:List Int} {B:Nat} (h:Row k w a len cap zs) (hb:Below B w w') (hB:w.heap.size≤B):Row k w' a len cap zs:=by
 refine ⟨h.hlen,h.hcap,h.hmax,h.hnil,fun h0=> ?_⟩
 obtain ⟨b,off,rfl,hbs,hcell⟩:=h.hcell h0
 refine ⟨b,off,rfl,by have:=hb.size;omega,fun i hi=> ?_⟩
 rw [hb.cell (by show b<B;omega)]
 exact hcell i hi

theorem Zbp {a b c:World} (h:Below a.heap.size a b) (k:Below b.heap.size b c):Below a.heap.size a c:=h.trans (k.mono h.size)

theorem Zbc (b off j:Nat):(⟨b,off,none⟩:Addr).add j=⟨b,off+j,none⟩:=by unfold Addr.add;split<;>simp_all
theorem Znp (ps:List Int) (k:Nat) (h:k<ps.length):ps.take (k+1)=ps.take k++ [ps[k]?.getD 0]:=by
 rw [List.take_add_one,List.getElem?_eq_getElem h];rfl

theorem ZaF {k:IntKind} {e:TypeId} {w:World} {base:Nat} {v:Value} {n:Nat} {zs:List Int} (h:w.ownsRow base e 1 v n (zs.map (Value.int k))):
  ∃a cap,v= .slice a n cap∧Row k w a n cap zs:=by
 have hl:zs.length=n:=by have:=h.1;simpa using this
 rcases h.2 with ⟨rfl,hn⟩|⟨g,cap,cur,rfl,hg,hh,hnc,hcm,hcs,htake⟩
 ·subst hn
  exact ⟨none,0,rfl,hl,Nat.le_refl _,Nat.zero_le _,fun _=>rfl,fun h0=>absurd h0 (by omega)⟩
 ·refine ⟨_,cap,rfl,hl,hnc,hcm,by simp,fun h0=>⟨g,0,rfl, ?_,fun i hi=> ?_⟩⟩
  ·rcases Nat.lt_or_ge g w.heap.size with hh'|hh'
   ·exact hh'
   ·rw [Array.getElem?_eq_none hh'] at hh;simp at hh
  ·rw [Nat.zero_add,h.cellAt i (by omega)]
   simp [List.getElem?_map,List.getElem?_eq_getElem (show i<zs.length from by omega)]

theorem Zb5 {B:Nat} {e:TypeId} {k:IntKind} {w wr w1:World} {v v':Value} {o:Obj} {n:Nat} {xs:List Int} {x:Int} (hB:B≤wr.heap.size)
  (hown:wr.ownsRow B e 1 v n (xs.map (Value.int k))) (hnx:Below B w wr)
  (hown':w1.ownsRow B e 1 v' (n+1) (xs.map (Value.int k)++ [.int k x])) (hgrow:(wr.alloc o).grownBy w1 v.ownBlock):
  w1.ownsRow B e 1 v' (n+1) ((xs++ [x]).map (Value.int k))∧Below B w w1:=
 ⟨by simpa using hown',(hnx.alloc hB o).grown hgrow (by simp;omega) (fun j hj=>(hown.lt j hj).1)⟩

theorem ZdN {w:World} {base base':Nat} {e:TypeId} {size:Nat} {v:Value} {n:Nat} {xs:List Value} (h:w.ownsRow base e size v n xs) (hb:base'≤base):w.ownsRow base' e size v n xs:=by
 refine ⟨h.1, ?_⟩
 rcases h.2 with h2|⟨g,cap,cur,hv,hg,r⟩
 ·exact .inl h2
 ·exact .inr ⟨g,cap,cur,hv,by omega,r⟩
theorem Zjp {w:World} {base g n:Nat} {e:TypeId} {cs:List Value} (h:w.heap[g]? =some (.cells cs.toArray e (0,0))) (hl:cs.length=n) (hb:base≤g) (hm:n≤maxLen):
  w.ownsRow base e 1 (.slice (some ⟨g,0,none⟩) n n) n cs:=
 ⟨by omega, .inr ⟨g,n,cs.toArray,rfl,hb,h,Nat.le_refl _,hm,by simp;omega,by simp [←hl]⟩⟩
theorem Ze0 {w:World} {base g n:Nat} {e:TypeId} {cs:List Value} (h:w.ownsRow base e 1 (.slice (some ⟨g,0,none⟩) n n) n cs):w.heap[g]? =some (.cells cs.toArray e (0,0)):=by
 rcases h.2 with ⟨h',_⟩|⟨g',cap',cur,h',_,hg,_,_,hcs,htake⟩
 ·simp at h'
 ·simp only [Value.slice.injEq,Option.some.injEq,Addr.mk.injEq,and_true,true_and] at h'
  obtain ⟨rfl,rfl⟩:=h'
  rw [hg, ←htake,List.take_of_length_le (by simp;omega)]
theorem ZeZ {k:IntKind} {e:TypeId} {w:World} {base g n cap:Nat} {zs:List Int} (h:w.ownsRow base e 1 (.slice (some ⟨g,0,none⟩) n cap) n (zs.map (Value.int k))) (i:Nat) (hi:i<n):
  w.cell? ⟨g,i,none⟩=some (.int k (zs[i]?.getD 0)):=by
 have hl:zs.length=n:=by have:=h.1;simpa using this
 rw [h.cellAt i (by omega)]
 simp [List.getElem?_map,List.getElem?_eq_getElem (show i<zs.length from by omega)]
theorem Zjm {k:IntKind} {e:TypeId} {w wr:World} {B g n cap q:Nat} {zs:List Int} {x:Int} (hB:B≤g) (hown:wr.ownsRow B e 1 (.slice (some ⟨g,0,none⟩) n cap) n (zs.map (Value.int k))) (hnx:Below B w wr):
  (wr.setCell ⟨g,q,none⟩ (.int k x)).ownsRow B e 1 (.slice (some ⟨g,0,none⟩) n cap) n ((zs.set q x).map (Value.int k))∧Below B w (wr.setCell ⟨g,q,none⟩ (.int k x)):=by
 refine ⟨?_,hnx.setCell hB _⟩
 rw [List.map_set]
 exact (hown.stored q (.int k x)).1

theorem ZfP (k:IntKind) (n:Nat):(madeCells (Value.int k 0).cells (n*1)).toList=(List.replicate n 0).map (Value.int k):=by
 rw [Nat.mul_one]
 simpa [Value.cells] using toList_madeCells_one (Value.int k 0) n

theorem Zed (k:IntKind) (w:World) (e:TypeId) (g:Nat) (hg:g=w.heap.size) (zs:List Int) (n:Nat) (hn:zs.length=n) (hm:n≤maxLen) (cs:Array Value) (hc:cs=(zs.map (Value.int k)).toArray):
  Row k (w.alloc (.cells cs e)) (some ⟨g,0,none⟩) n n zs:=by
 subst hg hc
 have h:=World.ownsRow_lit (base:=0) (e:=e) (size:=1) w (zs.map (Value.int k)).toArray n (Nat.zero_le _) hm (by simp;omega)
 obtain ⟨a,cap,hv,hr⟩:=ZaF (zs:=zs) (k:=k) (by simpa using h)
 simp only [Value.slice.injEq,true_and] at hv
 obtain ⟨rfl,rfl⟩:=hv
 exact hr
theorem ZaS (w:World) (o:Obj):Below w.heap.size w (w.alloc o):=(Below.refl _ _).alloc (Nat.le_refl _) _
theorem ZcZ (w:World) (o p:Obj):Below w.heap.size w ((w.alloc o).alloc p):=(ZaS w o).alloc (by simp) _
theorem ZgY (w:World) (o p q:Obj):Below w.heap.size w (((w.alloc o).alloc p).alloc q):=(ZcZ w o p).alloc (by simp;omega) _
theorem Zc0 {k:IntKind} {w:World} {b off len:Nat} {z:List Int} (hl:z.length=len) (hcell:∀i,i<len→w.cell? ⟨b,off+i,none⟩=some (.int k (z[i]?.getD 0))):
  ∀j v,(z.map (Value.int k))[j]? =some v→w.cell? ((⟨b,off,none⟩:Addr).add j)=some v:=by
 intro j v hj
 simp only [List.getElem?_map,Option.map_eq_some_iff] at hj
 obtain ⟨n,hn,rfl⟩:=hj
 have hjl:j<z.length:=by
  rcases Nat.lt_or_ge j z.length with h|h
  ·exact h
  ·rw [List.getElem?_eq_none h] at hn;simp at hn
 have:=hcell j (by omega)
 rw [hn] at this
 rw [Zbc]
 exact this

theorem Znq {P:Program} {k:IntKind} {w0 w:World} {B g len cap:Nat} {dT elem ty:TypeId} {a:Option Addr} {z:List Int} {L:List Value} (hu:P.underlying dT=some (.slice elem)) (hsz:(P.info? elem).map (·.size)=some 1)
  (hg:w.heap[g]? =some (.cells L.toArray elem (0,0))) (hL:L.length=len) (hr:Row k w a len cap z) (hb:Below B w0 w) (hB:B≤g):
  ∃w2,Sem.run P (Builtin.copy_ #[dT,dT] ty #[.slice (some ⟨g,0,none⟩) len len, .slice a len cap]) w= .ok (.int .i64 len) w2∧w2.heap[g]? =some (.cells (z.map (Value.int k)).toArray elem (0,0))∧Below B w0 w2:=by
 have hl:=hr.hlen
 by_cases h0:len=0
 ·subst h0
  have hz:z=[]:=List.eq_nil_of_length_eq_zero hl
  have hL0:L=[]:=List.eq_nil_of_length_eq_zero hL
  refine ⟨w,run_copy_none (P:=P) w dT dT ty elem _ a 0 0 0 cap hu hsz (by simp), ?_,hb⟩
  rw [hg,hz,hL0]
  rfl
 ·obtain ⟨b,off,rfl,hbs,hcell⟩:=hr.hcell (by omega)
  have hrun:=run_copy_row (P:=P) w dT dT ty elem g 0 len len ⟨b,off,none⟩ len cap L.toArray elem (z.map (Value.int k)) hu hsz hg (by simp [hl]) (Zc0 hl hcell) (by simp;omega) (ints_oneCell _ _)
  have e1:(L.toArray.toList.take 0++z.map (Value.int k)++L.toArray.toList.drop (0+(z.map (Value.int k)).length))=z.map (Value.int k):=by
   simp;omega
  rw [e1] at hrun
  refine ⟨_, ?_,setRow_heap w g _ _ elem _ hg,below_setRow hb hB _⟩
  rw [hrun]
  simp [goInt,hl]

theorem ZfS {P:Program} {src dst e:TypeId} (hs:P.underlying src=some (.slice e)) (he:P.underlying e=some (.int .u8)) (hd:P.underlying dst=some .string)
  {w:World} {a:Option Addr} {len cap:Nat} {z:List Int} (hr:Row .u8 w a len cap z):Sem.run P (Go.convert src dst (.slice a len cap)) w= .ok (.string (strOfNums z)) w:=by
 have hl:=hr.hlen
 by_cases h0:len=0
 ·subst h0
  have hz:z=[]:=List.eq_nil_of_length_eq_zero hl
  subst hz
  rw [run_convert_bytes_string w src dst e _ 0 cap hs he hd]
  cases a<;>simp [Conv.bytesToString,loadCells]
  all_goals rfl
 ·obtain ⟨b,off,rfl,hbs,hcell⟩:=hr.hcell (by omega)
  exact run_convert_bytes_arg w src e hs he b off len cap z hl (fun i hi=>by rw [hcell i hi,List.getD_eq_getElem?_getD]) dst hd

theorem Zdn {P:Program} (w:World) {ops:Array Oper} {rest:List Oper} {o:Oper} {a:Act} {Q:Exit→Act→World→Prop} (hgd:o.guard=none) (s x:Operand) (t:TypeId)
  (ho:o.op= .call { callee:= .builtin .append,args:= #[s,x],argTypes:= #[t,t] })
  (base:Nat) (e:TypeId) (i:TypeInfo) (z:Value) (bytes:Nat) (ht:P.underlying t=some (.slice e)) (hi:P.info? e=some i) (hz:i.zero=some z)
  (hsize:i.size=1) (hby:i.bytes=bytes) (hzs:z.cells.size=1)
  (v:Value) (n:Nat) (xs:List Value) (hs:a.eval s=v) (hown:w.ownsRow base e 1 v n xs)
  (k:IntKind) (sa:Option Addr) (m c:Nat) (zs:List Int) (hx:a.eval x= .slice sa m c) (hr:Row k w sa m c zs)
  (h63:n+m≤maxLen) (hbytes:(n+m)*bytes≤140737488355328) (hbase:base≤w.heap.size)
  (h:∀v' w',w'.ownsRow base e 1 v' (n+m) (xs++zs.map (Value.int k))→w.grownBy w' v.ownBlock→wpList P ops Q rest (a.put o.dst v') w'):wpList P ops Q (o::rest) a w:=by
 cases sa with
 | none=>
  obtain rfl:c=0:=hr.hnil rfl
  obtain rfl:m=0:=by have:=hr.hcap;omega
  have hz0:zs=[]:=List.eq_nil_of_length_eq_zero hr.hlen
  refine wpList_append_own_none hgd s x t ho base e i 1 ht hi v n xs hs hown hx ?_
  exact h v w (by rw [hz0];simpa using hown) (World.grownBy.refl w _)
 | some ad=>
  refine wpList_append_own w hgd s x t ho base e i z 1 bytes ht hi hz hsize hby hzs (by decide) v n xs hs hown ad m c (zs.map (Value.int k)) hx (by simp [hr.hlen]) ?_ (ints_oneCell _ _) h63 hbytes hbase fun v' w' h1 h2 _=>h v' w' h1 h2
  intro j u hj
  by_cases h0:0<m
  ·obtain ⟨b,off,hab,_,hcell⟩:=hr.hcell h0
   simp only [Option.some.injEq] at hab
   subst hab
   exact Zc0 hr.hlen hcell j u hj
  ·have hz0:zs=[]:=List.eq_nil_of_length_eq_zero (by rw [hr.hlen];omega)
   rw [hz0] at hj
   simp at hj

theorem Za0 {w:World} {a:Addr} {v:Value} (h:w.cell? a=some v):a.block<w.heap.size:=by
 rcases Nat.lt_or_ge a.block w.heap.size with h'|h'
 ·exact h'
 ·simp [World.cell?,Array.getElem?_eq_none h'] at h

theorem Znr {k:IntKind} {w:World} {a:Option Addr} {len cap:Nat} {zs:List Int}
  (h:(a=none∧len=0∧cap=0∧zs=[])∨∃x,a=some x∧len≤cap∧cap≤maxLen∧zs.length=cap∧(∀i,i<zs.length→w.cell? (x.add i)=some (.int k (zs.getD i 0)))∧∀n∈zs,(Lit.int k n).wf=true):
  Row k w a len cap (zs.take len)∧∀n∈zs.take len,(Lit.int k n).wf=true:=by
 rcases h with ⟨rfl,rfl,rfl,rfl⟩|⟨x,rfl,hl,hm,hz,hcell,hwz⟩
 ·exact ⟨⟨rfl,Nat.le_refl _,Nat.zero_le _,fun _=>rfl,fun h=>absurd h (by omega)⟩,by simp⟩
 ·refine ⟨⟨by simp;omega,hl,hm,by simp,fun h0=> ?_⟩,fun n hn=>hwz n (List.mem_of_mem_take hn)⟩
  obtain ⟨b,off,spot⟩:=x
  have hc:=hcell 0 (by omega)
  have hspot:spot=none:=by simpa [Addr.add] using World.cell?_spot hc
  subst hspot
  have hb:=Za0 hc
  rw [Zbc] at hb
  refine ⟨b,off,rfl,hb,fun i hi=> ?_⟩
  have:=hcell i (by omega)
  rw [Zbc,List.getD_eq_getElem?_getD] at this
  rw [this,List.getElem?_take,if_pos hi]

theorem Zns {a b:List Int} (ha:∀n∈a,0≤n∧n≤255) (hb:∀n∈b,0≤n∧n≤255) (h:strOfNums a=strOfNums b):a=b:=by
 have h1:(a.map fun n=>UInt8.ofNat n.toNat)=b.map fun n=>UInt8.ofNat n.toNat:=by
  rw [←strOfNums_data, ←strOfNums_data,h]
 have hl:a.length=b.length:=by simpa using congrArg List.length h1
 apply List.ext_getElem hl
 intro i hi hi'
 have h2:=congrArg (fun l=>l[i]?) h1
 simp only [List.getElem?_map,List.getElem?_eq_getElem hi,List.getElem?_eq_getElem hi',Option.map_some,Option.some.injEq] at h2
 have h3:=ha _ (List.getElem_mem hi)
 have h4:=hb _ (List.getElem_mem hi')
 have h5:=congrArg UInt8.toNat h2
 simp only [UInt8.toNat_ofNat'] at h5
 omega

end Go.Proofs.YtcaloldcihpkfaaGreatDoor

/-
 The plain mathematics of bits of bytes (lists of integers from 0 to 255): no program text is imported here.
-/
namespace Go.Proofs.YtcaloldcihpkfaaGreatDoor

def IsB (z:List Int):Prop:=∀n∈z,0≤n∧n≤255
def Zjq (n:Nat) (ps:List Int):Prop:=∀p∈ps,0≤p∧p<8*(n:Int)

theorem IsB.idx {z:List Int} (h:IsB z) (i:Nat):0≤z[i]?.getD 0∧z[i]?.getD 0≤255:=by
 by_cases hi:i<z.length
 ·rw [List.getElem?_eq_getElem hi];exact h _ (List.getElem_mem hi)
 ·rw [List.getElem?_eq_none (by omega)];simp

theorem Zjq.idx {n:Nat} {ps:List Int} (h:Zjq n ps) (k:Nat) (hk:k<ps.length):0≤ps[k]?.getD 0∧ps[k]?.getD 0<8*(n:Int):=by
 rw [List.getElem?_eq_getElem hk];exact h _ (List.getElem_mem hk)

end Go.Proofs.YtcaloldcihpkfaaGreatDoor

/-
 Layer 1: the contracts of bits and of its reference, over the seat's program: each returns what the plain functions give; nothing old turns.
-/
namespace Go.Proofs.YtcaloldcihpkfaaGreatDoor
open Go.RowKit
set_option linter.unusedVariables false
set_option maxRecDepth 8192

theorem Tryz.info3:(Tryz.prog.info? 3).map (fun i=>(i.zero,i.size,i.bytes))=some (some (.int .i64 0),1,8):=by kernel_rfl
theorem Tryz.info5:(Tryz.prog.info? 5).map (fun i=>(i.zero,i.size,i.bytes))=some (some (.int .u8 0),1,1):=by kernel_rfl

end Go.Proofs.YtcaloldcihpkfaaGreatDoor

/-
 Regions that draw their order, whose operations read and whose calls leave what is old: the reads are taken first, in batches; then the one call that may come up; and on. No order is branched over.
-/
namespace Go.Proofs.YtcaloldcihpkfaaGreatDoor
open Go Go.RowKit
set_option linter.unusedVariables false
set_option maxRecDepth 8192

def Zao (w w':World):Prop:=Below w.heap.size w w'
theorem Zao.refl (w:World):Zao w w:=Below.refl _ _
theorem Zao.drew (w:World):Zao w w.drew:=(Below.refl _ _).drew
theorem Zao.trans {a b c:World} (h:Zao a b) (k:Zao b c):Zao a c:=Below.trans h (k.mono h.size)

section
variable {P:Program} {ops:Array Oper} {Q:Exit→Act→World→Prop} {md:Region.Mode} {S S':World→Prop}

theorem Zjr (h:∀w,S' w→S w):∀(fuel:Nat) (listed:Array Bool) (a:Act) (w:World),wpAnyH P md ops Q S' fuel listed a w→wpAnyH P md ops Q S fuel listed a w
 | 0,_,_,_,hh=>hh
 | fuel+1,_,_,_,hh=>⟨hh.1,fun i hi=>wpOp_mono (fun a' w' h'=>⟨h _ h'.1,Zjr h fuel _ a' w' h'.2⟩) (hh.2 i hi)⟩

def Ze2 (md:Region.Mode) (ops:Array Oper):List Nat→Array Bool→Bool
 | [],_=>true
 | i::rs,listed=>Region.free md ops listed i&&((Region.ready md ops listed).contains i&&Ze2 md ops rs (listed.setIfInBounds i true))
def Za9:List Nat→Array Bool→Array Bool
 | [],listed=>listed
 | i::rs,listed=>Za9 rs (listed.setIfInBounds i true)

def ZbI (P:Program) (ops:Array Oper) (S:World→Prop) (K:Act→Prop):List Nat→Act→Prop
 | [],a=>K a
 | i::rs,a=>∃o v,ops[i]? =some o∧YieldsIf P ops S o v a∧ZbI P ops S K rs (a.put o.dst v)

theorem Zac {K:Act→Prop} {a:Act} (h:K a):ZbI P ops S K [] a:=h
theorem Zad {K:Act→Prop} {i:Nat} {rs:List Nat} {a:Act} {o:Oper} (v:Value) (ho:ops[i]? =some o) (hw:Region.wanted o (yielded ops a.tmps)=true)
  (hv:∀w,S w→(execOp a.eval o).run P w= .ok (.value v) w) (h:ZbI P ops S K rs (a.put o.dst v)):ZbI P ops S K (i::rs) a:=
 ⟨o,v,ho, .inl ⟨hw,hv⟩,h⟩
theorem Zah {K:Act→Prop} {i:Nat} {rs:List Nat} {a:Act} {o:Oper} (x:Operand) (ho:ops[i]? =some o) (hw:Region.wanted o (yielded ops a.tmps)=true)
  (hop:o.op= .move x) (h:ZbI P ops S K rs (a.put o.dst (a.eval x))):ZbI P ops S K (i::rs) a:=
 Zad _ ho hw (fun w _=>BigFrame.run_move x hop w) h
theorem ZaB {K:Act→Prop} {i:Nat} {rs:List Nat} {a:Act} {o:Oper} (x:Operand) (ho:ops[i]? =some o) (hw:Region.wanted o (yielded ops a.tmps)=true)
  (hop:o.op= .assign x) (h:ZbI P ops S K rs (a.put o.dst (a.eval x))):ZbI P ops S K (i::rs) a:=
 Zad _ ho hw (fun w _=>BigFrame.run_assign x hop w) h
theorem Zjs {K:Act→Prop} {i:Nat} {rs:List Nat} {a:Act} {o:Oper} (ho:ops[i]? =some o) (hw:Region.wanted o (yielded ops a.tmps)=false)
  (h:ZbI P ops S K rs (a.put o.dst undef)):ZbI P ops S K (i::rs) a:=
 ⟨o,undef,ho, .inr ⟨hw,rfl⟩,h⟩

theorem Zjt (hs:Region.noSelect ops=true) (hQ:∀c d v a w,Q (.panic c) (Act.put a d v) w→Q (.panic c) a w):
  ∀(rs:List Nat) (fuel:Nat) (listed:Array Bool) (a:Act) (w:World),Ze2 md ops rs listed=true→S w→
   ZbI P ops S (fun a'=>wpAnyH P md ops Q S fuel (Za9 rs listed) a' w) rs a→wpAnyH P md ops Q S (fuel+rs.length) listed a w
 | [],fuel,listed,a,w,_,_,h=>h
 | i::rs,fuel,listed,a,w,hb,hS,h=>by
  simp only [Ze2,Bool.and_eq_true] at hb
  obtain ⟨o,v,ho,hy,hk⟩:=h
  exact wpAnyH_take (fuel:=fuel+rs.length) ho hs hb.1 hb.2.1 (fun c a w=>hQ c _ _ a w) hy hS (Zjt hs hQ rs fuel _ _ w hb.2.2 hS hk)

theorem Zaz {rs:List Nat} {fuel:Nat} {listed:Array Bool} {a:Act} {w:World} (hs:Region.noSelect ops=true) (hQ:∀c d v a w,Q (.panic c) (Act.put a d v) w→Q (.panic c) a w)
  (hb:Ze2 md ops rs listed=true) (hS:S w) (h:∀K:Act→Prop,Hid (∀a',wpAnyH P md ops Q S fuel (Za9 rs listed) a' w→K a')→ZbI P ops S K rs a):
  wpAnyH P md ops Q S (fuel+rs.length) listed a w:=
 Zjt hs hQ rs fuel listed a w hb hS (h _ (fun _ h=>h))

theorem Zc1 {w0:World} {i:Nat} {o:Oper} {fuel:Nat} {listed:Array Bool} {a:Act} {w:World} (hr:Region.ready md ops listed=[i]) (ho:ops[i]? =some o)
  (hw:Region.wanted o (yielded ops a.tmps)=true)
  (h:∀K':Act→World→Prop,(∀a w1,Zao w0 w1→wpAnyH P md ops Q (Zao w1) fuel (listed.setIfInBounds i true) a w1→K' a w1)→Oper.wp P o a w K' Q):
  wpAnyH P md ops Q (Zao w0) (fuel+1) listed a w:=by
 refine wpAnyH_all hr (by simp) fun j hj=> ?_
 simp only [List.mem_singleton] at hj
 subst hj
 refine wpOp_step ho fun K' hK=> ?_
 rw [if_pos hw]
 exact h K' fun a w1 hs hh=>hK a w1 ⟨hs,Zjr (fun _ h'=>hs.trans h') _ _ _ _ hh⟩

theorem Zju {id:Nat} {a:Act} {w:World} (hm:P.follows .mixedOrders=true)
  (h:wpAnyH P .any ops Q (Zao w) ops.size (Array.replicate ops.size false) a w.drew):(Code.region id ops true).wp P Q a w:=
 wp_region_held hm h
end

end Go.Proofs.YtcaloldcihpkfaaGreatDoor
