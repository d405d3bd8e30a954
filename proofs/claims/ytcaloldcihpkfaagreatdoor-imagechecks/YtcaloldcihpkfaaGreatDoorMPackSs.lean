/-
 The code of layer 18 (scalar), as it landed: the order in its variable, Is, Clamp; the steps: times, plus.
-/
import Derived.Test.YtcaloldcihpkfaaGreatDoorMPackFb
import Derived.Test.YtcaloldcihpkfaaGreatDoorMPackCa
import Derived.Test.YtcaloldcihpkfaaGreatDoorMPackNa
import Derived.Deep.MidRow
import Derived.Deep.CutRange
namespace Go.Proofs.YtcaloldcihpkfaaGreatDoor.N
open Go.RowKit
set_option linter.unusedVariables false
set_option maxRecDepth 8192

section
variable {P:Program} {ops:Array Oper} {rest:List Oper} {o:Oper} {a:Act} {w w0:World} {Q:Exit→Act→World→Prop} {K:Act→World→Prop} {l:List AV}
theorem Zdi (V:Vars w0 w l) (d:Tmp) (t:TypeId) (n:Nat) (ps:List (Nat×Operand)) (hd:o.dst=some d) (ho:o.op= .buildSlice t n ps.toArray) (T:TypeId) (X:Array Value)
  (hb:∀w,(Instr.buildSlice t n (ps.map fun p=>(p.1,a.eval p.2)).toArray).run P w= .ok (.slice (some ⟨w.heap.size,0,none⟩) n n) (w.alloc (.cells X T)))
  (h:∀w' g,Vars w0 w' (⟨g,T,X⟩::l)→K (a.put (some d) (.slice (some ⟨g,0,none⟩) n n)) w'):o.wp P a w K Q:=by
 have hm:(ps.toArray.map fun (p:Nat×Operand)=>match p with|(i,x)=>(i,a.eval x))=(ps.map fun p=>(p.1,a.eval p.2)).toArray:=by
  rw [List.map_toArray]
 unfold Oper.wp execOp
 simp only [ho,hm,hb,Sem.run_bind,Sem.run_pure,Result.andThen_ok]
 have:=h _ _ (V.new T X)
 rw [←hd] at this
 exact this
theorem Zfz (V:Vars w0 w l) (d:Tmp) (t:TypeId) (n:Nat) (ps:List (Nat×Operand)) (hgd:o.guard=none) (hd:o.dst=some d) (ho:o.op= .buildSlice t n ps.toArray) (T:TypeId) (X:Array Value)
  (hb:∀w,(Instr.buildSlice t n (ps.map fun p=>(p.1,a.eval p.2)).toArray).run P w= .ok (.slice (some ⟨w.heap.size,0,none⟩) n n) (w.alloc (.cells X T)))
  (h:∀w' g,Vars w0 w' (⟨g,T,X⟩::l)→wpList P ops Q rest (a.put (some d) (.slice (some ⟨g,0,none⟩) n n)) w'):wpList P ops Q (o::rest) a w:=
 wpList_plain hgd fun K hK=>Zdi V d t n ps hd ho T X hb fun w' g V'=>hK _ _ (h w' g V')
end
theorem ZlZ {P:Program} {w0 w:World} {B g n len cap:Nat} {dT elem ty T:TypeId} {a:Option Addr} {z:List Nat} (hu:P.underlying dT=some (.slice elem)) (hsz:(P.info? elem).map (·.size)=some 1)
  (hg:w.heap[g]? =some (.cells (arr .u8 (List.replicate n 0)) T (0,0))) (hle:len≤n) (hr:Row .u8 w a len cap (nI z)) (dz:Dig z):
  ∃w2,Sem.run P (Builtin.copy_ #[dT,dT] ty #[.slice (some ⟨g,0,none⟩) n n, .slice a len cap]) w= .ok (.int .i64 len) w2∧w2.heap[g]? =some (.cells (arr .u8 (digL (vL z) n)) T (0,0))∧(∀k,k≠g→w2.heap[k]? =w.heap[k]?)∧Below g w w2:=by
 have hl:=hr.hlen
 rw [Zaa] at hl
 have e0:z++List.replicate (n - len) 0=digL (vL z) n:=by
  have h:=ZhI dz (n - len)
  have e:nI z++List.replicate (n - len) 0=nI (z++List.replicate (n - len) 0):=by rw [ZbY];simp [nI]
  rw [e] at h
  rw [Zjj h,show z.length+(n - len)=n by omega]
 by_cases h0:len=0
 ·subst h0
  have hz:z=[]:=List.eq_nil_of_length_eq_zero hl
  refine ⟨w, ?_, ?_,fun k hk=>rfl,Below.refl _ _⟩
  ·exact run_copy_none (P:=P) w dT dT ty elem _ a n n 0 cap hu hsz (by simp)
  ·rw [←e0,hg,hz]
   simp
 ·obtain ⟨b,off,rfl,hbs,hcell⟩:=hr.hcell (by omega)
  have hrun:=run_copy_row (P:=P) w dT dT ty elem g 0 n n ⟨b,off,none⟩ len cap (arr .u8 (List.replicate n 0)) T ((nI z).map (Value.int .u8)) hu hsz hg (by rw [List.length_map,Zaa,hl];exact (Nat.min_eq_left hle).symm) (Zc0 (by rw [Zaa,hl]) hcell) (by rw [List.length_map,Zaa,Zfh,List.length_replicate];omega) (ints_oneCell _ _)
  have e1:(((arr .u8 (List.replicate n 0)).toList.take 0)++(nI z).map (Value.int .u8)++(arr .u8 (List.replicate n 0)).toList.drop (0+((nI z).map (Value.int .u8)).length))=(nI (z++List.replicate (n - len) 0)).map (Value.int .u8):=by
   simp [arr,nI,hl]
  rw [e1,e0] at hrun
  refine ⟨_, ?_,setRow_heap w g _ _ T _ hg,fun k hk=>setRow_other w g k _ hk,below_setRow (Below.refl _ _) (Nat.le_refl _) _⟩
  rw [hrun]
  simp [goInt,Zaa,hl,arr]
theorem not7:∀x:Fin 256,x.val&&& (255 - 7)=lowB x.val:=by decide
theorem Ztd:∀x:Fin 256,(x.val&&& (255 - 128))|||64=topB x.val:=by decide
theorem Zte (x:Nat) (hx:x<256):bits .andNot .u8 (x:Int) 7=((lowB x:Nat):Int):=by
 have h:=u8_andNot_nat x 7 hx (by decide)
 rw [not7 ⟨x,hx⟩] at h
 exact h
theorem Ztf (x:Nat) (hx:x<256):∃y:Nat,y<256∧bits .andNot .u8 (x:Int) 128=(y:Int)∧bits .or .u8 (y:Int) 64=((topB x:Nat):Int):=by
 have h:=u8_andNot_nat x 128 hx (by decide)
 have hy:x&&& (255 - 128)<256:=Nat.lt_of_le_of_lt Nat.and_le_left hx
 refine ⟨x&&& (255 - 128),hy,h, ?_⟩
 have h2:=u8_or_nat (x&&& (255 - 128)) 64 hy (by decide)
 rw [Ztd ⟨x,hx⟩] at h2
 exact h2
def OAt (w:World):Prop:=∃T fr,w.heap[1]? =some (.cells (bA oL) T fr)
theorem OAt.below {w w':World} {B:Nat} (h:OAt w) (q:Below B w w') (hB:w.heap.size≤B):OAt w':=by
 obtain ⟨T,fr,h⟩:=h
 exact ⟨T,fr,by rw [q.block _ (Nat.lt_of_lt_of_le (Array.getElem?_eq_some_iff.1 h).1 hB)];exact h⟩
theorem OAt.of {w w':World} {l:List AV} (h:OAt w) (V:Vars w w' l):OAt w':=h.below V.bel (Nat.le_refl _)
theorem OAt.drew {w:World} (h:OAt w):OAt w.drew:=h
theorem Ztg {a:Act} {o:Oper} {w:World} (h:OAt w) (x:Operand) (ho:o.op= .load 22 x) (hx:a.eval x= .pointer (some ⟨1,0,none⟩)):(execOp a.eval o).run Tryz.prog w= .ok (.value (.agg (bA oL))) w:=by
 obtain ⟨T,fr,h⟩:=h
 unfold execOp
 simp only [ho,hx,Instr.loadAt,Instr.sureAddr,Sem.run_bind,Sem.run_pure,Result.andThen_ok,run_loadVar_row w _ T 22 (bA oL) fr _ h Tryz.underlying22 rfl (by rw [Tryz.szB,Zaf])]
theorem ZiP {a:Act} {o:Oper} {w:World} (g:Nat) (x:Operand) (ho:o.op= .slice 22 x none none none) (hx:a.eval x= .pointer (some ⟨g,0,none⟩)):
  (execOp a.eval o).run Tryz.prog w= .ok (.value (.slice (some ⟨g,0,none⟩) 32 32)) w:=by
 unfold execOp
 simp only [ho,hx,Option.map_none,Zgj 22 5 32 Tryz.underlying22 Tryz.sz8 g 0 (by decide) w,Sem.run_bind,Sem.run_pure,Result.andThen_ok]
theorem Zl0 (w:World) (ho:OAt w):Calls Tryz.prog 76 #[] w fun e w'=>e= .returned (.agg (bA oL))∧Below w.heap.size w w':=by
 have V0:=Vars.start w
 go_enter Tryz.func76,Tryz.ntmps76
 go_wp2_with (first
  | (refine zA V0 0 rfl rfl rfl ?_;intro w1 g2 V3)
  | (refine Zax rfl (Ztg (ho.of V3) _ rfl rfl) ?_)
  | (refine zL V3 0 rfl _ (.tmp 1) rfl rfl rfl oL rfl rfl ?_;intro w4 V5))
 exact bodyPost_ret (ZaW rfl _ V5 0 rfl rfl Tryz.underlying22 Tryz.szB (Zaf _)) rfl ⟨rfl,V5.bel⟩
set_option maxHeartbeats 800000 in
theorem ZiQ (a:Nat) (w:World) (ho:OAt w) (ha:a<2^256):Calls Tryz.prog 33 #[.agg (bA a)] w fun e w'=>e= .returned (.bool (decide (a<oL)))∧Below w.heap.size w w':=by
 have HC:Hid (∀(w:World) (g h:Nat),w.heap[g]? =some (.cells (bA a) 22 (0,0))→w.heap[h]? =some (.cells (bA oL) 22 (0,0))→Rt Tryz.prog 77 #[.slice (some ⟨g,0,none⟩) 32 32, .slice (some ⟨h,0,none⟩) 32 32] (.int .i64 (cmpN a oL)) w):=by
  intro w g h hg hh
  have:=Zkc (digL a 32) (digL oL 32) (some ⟨g,0,none⟩) (some ⟨h,0,none⟩) 32 32 32 32 w (ZaD _ _) (ZaD _ _) (Zb0 hg) (Zb0 hh) (by decide) (by decide)
  rwa [vB ha,vB Zd4] at this
 have hcb:=ZoJ a oL
 have hcc:decide (cmpN a oL<0)=decide (a<oL):=by
  rw [Bool.eq_iff_iff,decide_eq_true_iff,decide_eq_true_iff]
  unfold cmpN
  split
  ·omega
  ·split<;>omega
 have HO:Hid (∀w,OAt w→Rt Tryz.prog 76 #[] (.agg (bA oL)) w):=fun w h=>Zl0 w h
 generalize cmpN a oL=cc at*
 generalize decide (a<oL)=b at*
 clear ha
 have V0:=Vars.start w
 go_enter Tryz.func33,Tryz.ntmps33
 go_wp2_with (refine Zaj V0 1 22 _ rfl rfl rfl (bA a) rfl ?_;intro w1 g2 V3)
 refine (HO.out w1 (ho.of V3)).mono ?_
 rintro e w4 ⟨rfl,q6⟩
 have V5:=V3.call q6
 clear q6 V3
 go_wp2_with (first
  | (refine zA V5 3 rfl rfl rfl ?_;intro w7 g8 V9)
  | (refine zL V9 0 rfl _ (.tmp 4) rfl rfl rfl oL rfl rfl ?_;intro w10 V11))
 refine Zar (fun w'=>Vars w w' [⟨g8,22,bA oL⟩,⟨g2,22,bA a⟩]) (by kernel_rfl) ?_
 have V12:=V11.drew
 refine zR [0,1] 3 (by kernel_rfl) (fun _ _ _ _ _ h=>h) V12 fun K hK=> ?_
 refine zC (.slice (some ⟨g2,0,none⟩) 32 32) rfl (by rfl) (fun w' hw'=>ZbL hw' 1 rfl _ rfl rfl) ?_
 go_simp
 refine zC (.slice (some ⟨g8,0,none⟩) 32 32) rfl (by rfl) (fun w' hw'=>ZbL hw' 0 rfl _ rfl rfl) ?_
 go_simp
 refine Zac (hK.out _ ?_)
 clear hK K
 refine zO 2 2 (by kernel_rfl) rfl (by rfl) fun K hK=> ?_
 go_simp
 refine (HC.out w10.drew g2 g8 (V12.at 1 rfl) (V12.at 0 rfl)).mono ?_
 rintro e w13 ⟨rfl,q15⟩
 have V14:=V12.call q15
 refine hK _ _ (V14) ?_
 clear hK K q15
 refine zR [3,4] 0 (by kernel_rfl) (fun _ _ _ _ _ h=>h) V14 fun K hK=> ?_
 go_simp
 refine zC (.bool b) rfl (by rfl) (fun w' hw'=> ?_) ?_
 ·have h9:=hcc
  go_simp
 go_simp
 refine ZaB _ rfl (by rfl) rfl ?_
 go_simp
 refine Zac (hK.out _ ?_)
 clear hK K
 refine wpAnyH_done (by kernel_rfl) ?_ _
 go_wp2_with fail
 go_ret
 exact ⟨rfl,V14.bel⟩
set_option maxHeartbeats 1600000 in
theorem Zth (v b0 b31 x0 y z:Nat) (w:World) (HB0:Hid ((bA v)[0]? =some (.int .u8 (b0:Int)))) (HB31:Hid ((bA (setN v 0 x0))[31]? =some (.int .u8 (b31:Int)))) (h0:b0<256) (h31:b31<256) (hy:y<256) (e0:bits .andNot .u8 (b0:Int) 7=(x0:Int)) (e1:bits .andNot .u8 (b31:Int) 128=(y:Int)) (e2:bits .or .u8 (y:Int) 64=(z:Int))
  (HBY:Hid ((bA (setN (setN v 0 x0) 31 y))[31]? =some (.int .u8 (y:Int)))) (H0:Hid ((digL v 32).set 0 x0=digL (setN v 0 x0) 32)) (H1:Hid ((digL (setN v 0 x0) 32).set 31 y=digL (setN (setN v 0 x0) 31 y) 32)) (r:Nat) (H2:Hid ((digL (setN (setN v 0 x0) 31 y) 32).set 31 z=digL r 32)):
  Calls Tryz.prog 86 #[.agg (bA v)] w fun e w'=>e= .returned (.agg (bA r))∧Below w.heap.size w w':=by
 generalize setN (setN v 0 x0) 31 y=v2 at*
 generalize setN v 0 x0=v1 at*
 have V0:=Vars.start w
 go_enter Tryz.func86,Tryz.ntmps86
 go_upto_region 1 with (first
  | (refine Zaj V0 1 22 _ rfl rfl rfl (bA v) rfl ?_;intro w1 g2 V3)
  | (refine zA V3 2 rfl rfl rfl ?_;intro w4 g5 V6))
 have hc1:=Zbz V6 1 rfl 0 HB0.out
 have hf1:=ZaJ (V6.at 1 rfl) 0
 have V7:Vars w (w4.setCell ⟨g2,0,none⟩ (.int .u8 (x0:Int))) [⟨g5,22,bA 0⟩,⟨g2,22,bA v1⟩]:=V6.setB 1 rfl 0 x0 v1 H0.out
 clear V6
 go_upto_region 2 with fail
 generalize w4.setCell ⟨g2,0,none⟩ (.int .u8 (x0:Int))=wa at*
 clear hc1 hf1
 have hc2:=Zbz V7 1 rfl 31 HB31.out
 have hf2:=ZaJ (V7.at 1 rfl) 31
 have V9:Vars w (wa.setCell ⟨g2,31,none⟩ (.int .u8 (y:Int))) [⟨g5,22,bA 0⟩,⟨g2,22,bA v2⟩]:=V7.setB 1 rfl 31 y v2 H1.out
 clear V7
 go_upto_region 3 with fail
 generalize wa.setCell ⟨g2,31,none⟩ (.int .u8 (y:Int))=wb at*
 clear hc2 hf2
 have hc3:=Zbz V9 1 rfl 31 HBY.out
 have hf3:=ZaJ (V9.at 1 rfl) 31
 have V11:Vars w (wb.setCell ⟨g2,31,none⟩ (.int .u8 (z:Int))) [⟨g5,22,bA 0⟩,⟨g2,22,bA r⟩]:=V9.setB 1 rfl 31 z r H2.out
 clear V9
 go_upto_region 4 with fail
 generalize wb.setCell ⟨g2,31,none⟩ (.int .u8 (z:Int))=wc at*
 clear hc3 hf3
 go_wp2_with (first
  | (refine zD V11 1 rfl 15 _ rfl rfl rfl rfl ?_)
  | (refine zL V11 0 rfl _ (.tmp 15) rfl rfl rfl r rfl rfl ?_;intro w13 V14))
 exact bodyPost_ret (ZaW rfl _ V14 0 rfl rfl Tryz.underlying22 Tryz.szB (Zaf _)) rfl ⟨rfl,V14.bel⟩
theorem Zti (v:Nat) (hv:v<2^256) (w:World):Calls Tryz.prog 86 #[.agg (bA v)] w fun e w'=>e= .returned (.agg (bA (Zfp v)))∧Below w.heap.size w w':=by
 have h0:=Zls (v/256^0)
 have h31:=Zls (v/256^31)
 obtain ⟨y,hy,e1,e2⟩:=Ztf _ h31
 have hl:=Zsh h0
 refine Zth v _ (v/256^31%256) _ y _ w (Zc8 v 0 (by decide)) ?_ h0 h31 hy (Zte _ h0) e1 e2 ?_ (Zfo v 0 hl) (Zfo _ 31 hy) _ ?_
 ·show _=_
  rw [Zc8 _ 31 (by decide),Zlr _ 31 (by decide) (by decide) hl,if_neg (by decide)]
 ·show _=_
  rw [Zc8 _ 31 (by decide),Zlr _ 31 (by decide) (by decide) hy,if_pos rfl]
 ·show _=_
  have h:=Zfo (setN (setN v 0 (lowB (v/256^0%256))) 31 y) 31 (Ziu (v/256^31%256))
  rw [Zsg _ _ hy (Ziu _)] at h
  exact h
theorem Ztj (b:Nat) (w:World):Calls Tryz.prog 102 #[.agg (bA b)] w fun e w'=>∃g,e= .returned (.func (.func 142) #[] #[.pointer (some ⟨g,0,none⟩)])∧w.heap.size≤g∧w'.heap[g]? =some (.cells (bA b) 22 (0,0))∧Below w.heap.size w w':=by
 have V0:=Vars.start w
 go_enter Tryz.func102,Tryz.ntmps102
 go_wp2_with (refine Zaj V0 1 22 _ rfl rfl rfl (bA b) rfl ?_;intro w1 g1 V1)
 go_ret
 exact ⟨g1,rfl,V1.low ⟨g1,22,bA b⟩ (by simp),V1.at 0 rfl,V1.bel⟩
set_option maxHeartbeats 800000 in
theorem Ztk (y:List Nat) (dy:Dig y) (a:Option Addr) (len cap g b:Nat) (w:World) (hr:Row .u8 w a len cap (nI y)) (hl:len≤100000) (hb:b<2^256) (hg:w.heap[g]? =some (.cells (bA b) 22 (0,0))):
  Calls Tryz.prog 142 #[.slice a len cap, .pointer (some ⟨g,0,none⟩)] w (ZbS w (nb (vL y*b))):=by
 have HC:Hid (Calls Tryz.prog 143 #[.slice a len cap, .slice (some ⟨g,0,none⟩) 32 32] w (ZbS w (nb (vL y*b)))):=by
  have:=Zo8 y (digL b 32) a (some ⟨g,0,none⟩) len cap 32 32 w dy (ZaD _ _) hr (Zb0 hg) hl (by decide)
  rwa [vB hb] at this
 generalize nb (vL y*b)=r at*
 clear hr hg hb dy
 go_enter Tryz.func142,Tryz.ntmps142
 go_wp2_with (refine Zax rfl (ZiP g _ rfl rfl) ?_)
 refine HC.out.mono ?_
 rintro e w1 ⟨a1,c1,rfl,r1,q1⟩
 go_wp2_with fail
 go_ret
 exact ⟨a1,c1,rfl,r1,q1⟩
theorem Ztl (b:Nat) (w:World):Calls Tryz.prog 103 #[.agg (bA b)] w fun e w'=>∃g,e= .returned (.func (.func 144) #[] #[.pointer (some ⟨g,0,none⟩)])∧w.heap.size≤g∧w'.heap[g]? =some (.cells (bA b) 22 (0,0))∧Below w.heap.size w w':=by
 have V0:=Vars.start w
 go_enter Tryz.func103,Tryz.ntmps103
 go_wp2_with (refine Zaj V0 1 22 _ rfl rfl rfl (bA b) rfl ?_;intro w1 g1 V1)
 go_ret
 exact ⟨g1,rfl,V1.low ⟨g1,22,bA b⟩ (by simp),V1.at 0 rfl,V1.bel⟩
set_option maxHeartbeats 800000 in
theorem Ztm (y:List Nat) (dy:Dig y) (a:Option Addr) (len cap g b:Nat) (w:World) (hr:Row .u8 w a len cap (nI y)) (hl:len≤100000) (hb:b<2^256) (hg:w.heap[g]? =some (.cells (bA b) 22 (0,0))):
  Calls Tryz.prog 144 #[.slice a len cap, .pointer (some ⟨g,0,none⟩)] w (ZbS w (nb (vL y+b))):=by
 have HC:Hid (Calls Tryz.prog 145 #[.slice a len cap, .slice (some ⟨g,0,none⟩) 32 32] w (ZbS w (nb (vL y+b)))):=by
  have:=Zo6 y (digL b 32) a (some ⟨g,0,none⟩) len cap 32 32 w dy (ZaD _ _) hr (Zb0 hg) hl (by decide)
  rwa [vB hb] at this
 generalize nb (vL y+b)=r at*
 clear hr hg hb dy
 go_enter Tryz.func144,Tryz.ntmps144
 go_wp2_with (refine Zax rfl (ZiP g _ rfl rfl) ?_)
 refine HC.out.mono ?_
 rintro e w1 ⟨a1,c1,rfl,r1,q1⟩
 go_wp2_with fail
 go_ret
 exact ⟨a1,c1,rfl,r1,q1⟩
end Go.Proofs.YtcaloldcihpkfaaGreatDoor.N

/-
 The code of layer 18 (scalar): what is left behind all steps.
-/
namespace Go.Proofs.YtcaloldcihpkfaaGreatDoor.N
open Go.RowKit
set_option linter.unusedVariables false
set_option maxRecDepth 8192

theorem Ztn {v:Nat}:(nb (v%oL)).length≤32:=ZhF (Nat.lt_of_lt_of_le (Zit v) (by decide))
set_option maxHeartbeats 3200000 in
theorem Zl1 (z:List Nat) (dz:Dig z) (a:Option Addr) (len cap ls:Nat) (sa:Option Addr) (fs bx vs:Nat→Nat) (w:World) (ho:OAt w) (hr:Row .u8 w a len cap (nI z)) (hl:len≤50000) (hv:vL z=vs 0) (hls:ls≤2)
  (hc:∀k,k<ls→∃sb so,sa=some ⟨sb,so,none⟩∧w.cell? ⟨sb,so+k,none⟩=some (.func (.func (fs k)) #[] #[.pointer (some ⟨bx k,0,none⟩)]))
  (hf:∀k,k<ls→∀args w,Sem.run Tryz.prog (callFunc (fs k) args) w= .ok (.enter (fs k) args) w)
  (hs:∀k,k<ls→∀(w':World) (y:List Nat) (a':Option Addr) (l' c':Nat),Below w.heap.size w w'→Dig y→vL y=vs k→Row .u8 w' a' l' c' (nI y)→l'≤50000→Calls Tryz.prog (fs k) #[.slice a' l' c', .pointer (some ⟨bx k,0,none⟩)] w' (ZbS w' (nb (vs (k+1)))))
  (hn:∀k,k≤ls→0<k→(nb (vs k)).length≤50000):
  Calls Tryz.prog 101 #[.slice a len cap, .slice sa ls ls] w fun e w'=>e= .returned (.agg (bA (vs ls%oL)))∧Below w.heap.size w w':=by
 have HC:Hid (∀k,k<ls→∃sb so,sa=some ⟨sb,so,none⟩∧w.cell? ⟨sb,so+k,none⟩=some (.func (.func (fs k)) #[] #[.pointer (some ⟨bx k,0,none⟩)])):=hc
 have HF:Hid (∀k,k<ls→∀args w,Sem.run Tryz.prog (callFunc (fs k) args) w= .ok (.enter (fs k) args) w):=hf
 have HS:Hid (∀k,k<ls→∀(w':World) (y:List Nat) (a':Option Addr) (l' c':Nat),Below w.heap.size w w'→Dig y→vL y=vs k→Row .u8 w' a' l' c' (nI y)→l'≤50000→Calls Tryz.prog (fs k) #[.slice a' l' c', .pointer (some ⟨bx k,0,none⟩)] w' (ZbS w' (nb (vs (k+1))))):=hs
 have HN:Hid (∀k,k≤ls→0<k→(nb (vs k)).length≤50000):=hn
 have HY:Hid (∃y,Dig y∧vL y=vs 0∧Row .u8 w a len cap (nI y)):=⟨z,dz,hv,hr⟩
 clear hc hf hs hn hr dz hv
 have V0:=Vars.start w
 go_enter Tryz.func101,Tryz.ntmps101
 go_wp2_with (refine zA V0 4 rfl rfl rfl ?_;intro w1 g1 V1)
 go_loopw [0,6,13] (fun n nx i wr=>∃(k l' c':Nat) (a':Option Addr),k≤ls∧n= .slice a' l' c'∧i= .int .i64 (k:Int)∧l'≤50000∧Hid (∃y,Dig y∧vL y=vs k∧Row .u8 wr a' l' c' (nI y))∧Hid (Vars w wr [⟨g1,22,bA 0⟩])) (fun n nx i _=>ls - (intOf i).toNat)
 case atStart=>
  obtain ⟨y,h1,h2,h3⟩:=HY.out
  exact ⟨0,len,cap,a,by omega,rfl,rfl,hl,⟨y,h1,h2,h3.below V1.bel (Nat.le_refl _)⟩,V1⟩
 case round=>
  clear V1 V0 HY hl
  obtain ⟨k,l',c',a',hk,rfl,rfl,hl',HY,HV⟩:=hrel
  by_cases hlt:k<ls
  ·obtain ⟨sb,so,rfl,hcell⟩:=HC.out k hlt
   have V2:=HV.out
   have hsb:=Za0 hcell
   rw [←V2.bel.cell (p:=⟨sb,so+k,none⟩) hsb] at hcell
   have hfk:=HF.out k hlt
   have HSK:Hid (Calls Tryz.prog (fs k) #[.slice a' l' c', .pointer (some ⟨bx k,0,none⟩)] wr (ZbS wr (nb (vs (k+1))))):=by
    obtain ⟨y,h1,h2,h3⟩:=HY.out
    exact HS.out k hlt wr y a' l' c' V2.bel h1 h2 h3 hl'
   have HNK:Hid ((nb (vs (k+1))).length≤50000):=HN.out (k+1) hlt (by omega)
   have HD:Hid (Dig (nb (vs (k+1)))∧vL (nb (vs (k+1)))=vs (k+1)):=⟨Zga _,Zeo _⟩
   generalize nb (vs (k+1))=y1 at*
   have hlt9:(k:Int)<(ls:Int):=by omega
   clear HY HV
   go_wp2_with fail
   refine HSK.out.mono ?_
   rintro e w3 ⟨a1,c1,rfl,r1,q1⟩
   have V3:=V2.call q1
   have HY3:Hid (∃y,Dig y∧vL y=vs (k+1)∧Row .u8 w3 a1 y1.length c1 (nI y)):=⟨y1,HD.out.1,HD.out.2,r1⟩
   have HV3:Hid (Vars w w3 [⟨g1,22,bA 0⟩]):=V3
   have hy9:=HNK.out
   clear HSK V2 V3 q1 r1 HNK HD hcell
   generalize y1.length=l1 at*
   go_wp2_with fail
   go_roundw
   case rel=>exact ⟨k+1,l1,c1,a1,by omega,rfl,by go_num,hy9,HY3,HV3⟩
   case measure=>simp [intOf];omega
  ·obtain rfl:k=ls:=by omega
   have V2:=HV.out
   have HO:Hid (∀w,OAt w→Rt Tryz.prog 76 #[] (.agg (bA oL)) w):=fun w h=>Zl0 w h
   have HM:Hid (∀(w':World) (h:Nat),Below wr.heap.size wr w'→w'.heap[h]? =some (.cells (bA oL) 22 (0,0))→Calls Tryz.prog 141 #[.slice a' l' c', .slice (some ⟨h,0,none⟩) 32 32] w' (ZhG w' (nb (vs k%oL)) 0)):=by
    intro w' h q hh
    obtain ⟨y,h1,h2,h3⟩:=HY.out
    have:=Zpa y (digL oL 32) a' (some ⟨h,0,none⟩) l' c' 32 32 w' h1 (ZaD _ _) (h3.below q (Nat.le_refl _)) (Zb0 hh) (by omega) (by decide) (by rw [vB Zd4];exact Nat.pos_iff_ne_zero.1 Zlo)
    rwa [vB Zd4,h2] at this
   have HL:Hid ((nb (vs k%oL)).length≤32∧Dig (nb (vs k%oL))∧vL (nb (vs k%oL))=vs k%oL):=⟨Ztn,Zga _,Zeo _⟩
   generalize nb (vs k%oL)=ys at*
   generalize her:vs k%oL=r at*
   have HER:Hid (vs k%oL=r):=her
   clear her
   have hk0:¬(k:Int)<(k:Int):=by omega
   clear HY HV HS HF HC HN hlt
   have U0:=Vars.start wr
   go_wp2_with fail
   refine (HO.out wr (ho.of V2)).mono ?_
   rintro e w3 ⟨rfl,q3⟩
   have U3:=U0.call q3
   clear q3 U0
   go_wp2_with (first
    | (refine zA U3 7 rfl rfl rfl ?_;intro w4 g4 U4)
    | (refine zL U4 0 rfl _ (.tmp 21) rfl rfl rfl oL rfl rfl ?_;intro w5 U5)
    | (refine Zax rfl (ZbL U5 0 rfl _ rfl rfl) ?_))
   refine (HM.out w5 g4 U5.bel (U5.at 0 rfl)).mono ?_
   rintro e w6 ⟨a6,c6,rfl,r6,q6⟩
   have U6:=U5.call q6
   have V6:=V2.call U6.bel
   have X6:=Vars.start w6
   clear U3 U4 U5 q6 HM HO V2 U6
   generalize ys.length=ly at*
   have hl32:=HL.out.1
   go_wp2_with (first
    | (refine Zai X6 10 22 rfl rfl rfl _ Zkv ?_;intro w7 g7 X7)
    | (refine Zax rfl (ZbL X7 0 rfl _ rfl rfl) ?_))
   obtain ⟨w8,hrun,hg8,ho8,q8⟩:=ZlZ (P:=Tryz.prog) (dT:=28) (elem:=5) (ty:=3) (w0:=w) (B:=0) Tryz.underlying28 (by kernel_rfl) (X7.at 0 rfl) hl32 (r6.below X7.bel (Nat.le_refl _)) HL.out.2.1
   rw [hrun]
   rw [HL.out.2.2, ←ZbE] at hg8
   have X8:Vars w6 w8 [⟨g7,22,bA r⟩]:=X7.turn 0 rfl (q8.mono (X7.low _ (List.mem_singleton.2 rfl))) hg8 ho8
   have V8:=V6.call X8.bel
   clear hrun hg8 ho8 q8 X7 X6 V6 r6
   go_wp2_with (first
    | (refine zD X8 0 rfl 31 _ rfl rfl rfl rfl ?_)
    | (refine zL V8 0 rfl _ (.tmp 31) rfl rfl rfl r rfl rfl ?_;intro w9 V9))
   exact bodyPost_ret (ZaW rfl _ V9 0 rfl rfl Tryz.underlying22 Tryz.szB (Zaf _)) rfl ⟨by rw [HER.out],V9.bel⟩
theorem Zto (z:List Nat) (dz:Dig z) (a:Option Addr) (len cap:Nat) (w:World) (ho:OAt w) (hr:Row .u8 w a len cap (nI z)) (hl:len≤50000):
  Calls Tryz.prog 79 #[.slice a len cap] w fun e w'=>e= .returned (.agg (bA (vL z%oL)))∧Below w.heap.size w w':=by
 have HR:Hid (∀w',Below w.heap.size w w'→OAt w'→Rt Tryz.prog 101 #[.slice a len cap, .slice none 0 0] (.agg (bA (vL z%oL))) w'):=fun w' q h=>
  Zl1 z dz a len cap 0 none (fun _=>0) (fun _=>0) (fun _=>vL z) w' h (hr.below q (Nat.le_refl _)) hl rfl (by omega) (fun k hk=>absurd hk (Nat.not_lt_zero _)) (fun k hk=>absurd hk (Nat.not_lt_zero _)) (fun k hk=>absurd hk (Nat.not_lt_zero _)) (fun k hk h0=>by omega)
 clear dz hr hl
 generalize vL z%oL=r at*
 have V0:=Vars.start w
 go_enter Tryz.func79,Tryz.ntmps79
 go_wp2_with (refine zA V0 2 rfl rfl rfl ?_;intro w1 g2 V3)
 refine (HR.out w1 V3.bel (ho.of V3)).mono ?_
 rintro e w4 ⟨rfl,q6⟩
 have V5:=V3.call q6
 clear q6 V3
 go_wp2_with (refine zL V5 0 rfl _ (.tmp 4) rfl rfl rfl r rfl rfl ?_;intro w7 V8)
 exact bodyPost_ret (ZaW rfl _ V8 0 rfl rfl Tryz.underlying22 Tryz.szB (Zaf _)) rfl ⟨rfl,V8.bel⟩
theorem Ztp (g h:Nat) (w:World):(Instr.buildSlice 196 2 [(0, .func (.func 142) #[] #[.pointer (some ⟨g,0,none⟩)]),(1, .func (.func 144) #[] #[.pointer (some ⟨h,0,none⟩)])].toArray).run Tryz.prog w= .ok (.slice (some ⟨w.heap.size,0,none⟩) 2 2) (w.alloc (.cells #[.func (.func 142) #[] #[.pointer (some ⟨g,0,none⟩)], .func (.func 144) #[] #[.pointer (some ⟨h,0,none⟩)]] 138)):=by kernel_rfl
set_option maxHeartbeats 1600000 in
theorem Ztq (a b c:Nat) (w:World) (ho:OAt w) (ha:a<2^256) (hb:b<2^256) (hc:c<2^256) (g g1 g2 gs:Nat) (hg:w.heap[g]? =some (.cells (bA a) 22 (0,0))) (h1:w.heap[g1]? =some (.cells (bA b) 22 (0,0))) (h2:w.heap[g2]? =some (.cells (bA c) 22 (0,0)))
  (hs:w.heap[gs]? =some (.cells #[.func (.func 142) #[] #[.pointer (some ⟨g1,0,none⟩)], .func (.func 144) #[] #[.pointer (some ⟨g2,0,none⟩)]] 138 (0,0))):
  Calls Tryz.prog 101 #[.slice (some ⟨g,0,none⟩) 32 32, .slice (some ⟨gs,0,none⟩) 2 2] w fun e w'=>e= .returned (.agg (bA ((a*b+c)%oL)))∧Below w.heap.size w w':=by
 have l1:=Zat h1
 have l2:=Zat h2
 refine Zl1 (digL a 32) (ZaD _ _) (some ⟨g,0,none⟩) 32 32 2 (some ⟨gs,0,none⟩) (fun k=>if k=0 then 142 else 144) (fun k=>if k=0 then g1 else g2) (fun k=>if k=0 then a else if k=1 then a*b else a*b+c) w ho (Zb0 hg) (by decide) (vB ha) (by decide) ?_ ?_ ?_ ?_
 ·intro k hk
  refine ⟨gs,0,rfl, ?_⟩
  rw [cell_of_row w gs _ _ _ _ hs,Nat.zero_add]
  rcases Nat.lt_or_ge k 1 with h|h
  ·obtain rfl:k=0:=by omega
   rfl
  ·obtain rfl:k=1:=by omega
   rfl
 ·intro k hk args w
  rcases Nat.lt_or_ge k 1 with h|h
  ·obtain rfl:k=0:=by omega
   rfl
  ·obtain rfl:k=1:=by omega
   rfl
 ·intro k hk w' y a' l' c' q dy hy hr hl
  rcases Nat.lt_or_ge k 1 with h|h
  ·obtain rfl:k=0:=by omega
   have h:=Ztk y dy a' l' c' g1 b w' hr (by omega) hb (by rw [q.block g1 l1];exact h1)
   rw [hy] at h
   exact h
  ·obtain rfl:k=1:=by omega
   have h:=Ztm y dy a' l' c' g2 c w' hr (by omega) hc (by rw [q.block g2 l2];exact h2)
   rw [hy] at h
   exact h
 ·intro k hk h0
  have e1:a*b<256^(32+32):=Zgd (by rw [b256];exact ha) (by rw [b256];exact hb)
  have e2:a*b+c<256^65:=by
   have:=b256
   have h65:(256:Nat)^65=256*256^(32+32):=by decide
   have h32:(256:Nat)^32≤256^(32+32):=Nat.pow_le_pow_right (by decide) (by decide)
   omega
  rcases Nat.lt_or_ge k 2 with h|h
  ·obtain rfl:k=1:=by omega
   exact Nat.le_trans (ZhF e1) (by decide)
  ·obtain rfl:k=2:=by omega
   exact Nat.le_trans (ZhF e2) (by decide)
set_option maxHeartbeats 1600000 in
theorem Ztr (a b c:Nat) (w:World) (ho:OAt w) (ha:a<2^256) (hb:b<2^256) (hc:c<2^256):Calls Tryz.prog 65 #[.agg (bA a), .agg (bA b), .agg (bA c)] w fun e w'=>e= .returned (.agg (bA ((a*b+c)%oL)))∧Below w.heap.size w w':=by
 have HR:Hid (∀(w:World) (g g1 g2 gs:Nat),OAt w→w.heap[g]? =some (.cells (bA a) 22 (0,0))→w.heap[g1]? =some (.cells (bA b) 22 (0,0))→w.heap[g2]? =some (.cells (bA c) 22 (0,0))→w.heap[gs]? =some (.cells #[.func (.func 142) #[] #[.pointer (some ⟨g1,0,none⟩)], .func (.func 144) #[] #[.pointer (some ⟨g2,0,none⟩)]] 138 (0,0))→Rt Tryz.prog 101 #[.slice (some ⟨g,0,none⟩) 32 32, .slice (some ⟨gs,0,none⟩) 2 2] (.agg (bA ((a*b+c)%oL))) w):=fun w g g1 g2 gs ho hg h1 h2 hs=>Ztq a b c w ho ha hb hc g g1 g2 gs hg h1 h2 hs
 have HT:Hid (∀w,Calls Tryz.prog 102 #[.agg (bA b)] w fun e w'=>∃g,e= .returned (.func (.func 142) #[] #[.pointer (some ⟨g,0,none⟩)])∧w.heap.size≤g∧w'.heap[g]? =some (.cells (bA b) 22 (0,0))∧Below w.heap.size w w'):=Ztj b
 have HP:Hid (∀w,Calls Tryz.prog 103 #[.agg (bA c)] w fun e w'=>∃g,e= .returned (.func (.func 144) #[] #[.pointer (some ⟨g,0,none⟩)])∧w.heap.size≤g∧w'.heap[g]? =some (.cells (bA c) 22 (0,0))∧Below w.heap.size w w'):=Ztl c
 generalize (a*b+c)%oL=r at*
 clear ha hb hc
 have V0:=Vars.start w
 go_enter Tryz.func65,Tryz.ntmps65
 go_wp2_with (first
  | (refine Zaj V0 3 22 _ rfl rfl rfl (bA a) rfl ?_;intro w1 g2 V3)
  | (refine Zaj V3 4 22 _ rfl rfl rfl (bA b) rfl ?_;intro w4 g5 V6)
  | (refine Zaj V6 5 22 _ rfl rfl rfl (bA c) rfl ?_;intro w7 g8 V9)
  | (refine zA V9 6 rfl rfl rfl ?_;intro w10 g11 V12))
 refine Zar (fun w'=>Vars w w' [⟨g8,22,bA c⟩,⟨g5,22,bA b⟩,⟨g2,22,bA a⟩]) (by kernel_rfl) ?_
 have V13:=V12.drew
 refine zR [0,1,3] 5 (by kernel_rfl) (fun _ _ _ _ _ h=>h) (V13.tail) fun K hK=> ?_
 refine zC (.slice (some ⟨g2,0,none⟩) 32 32) rfl (by rfl) (fun w' hw'=>ZbL hw' 2 rfl _ rfl rfl) ?_
 go_simp
 refine zC (.agg (bA b)) rfl (by rfl) (fun w' hw'=>zB hw' 1 rfl _ rfl rfl) ?_
 go_simp
 refine zC (.agg (bA c)) rfl (by rfl) (fun w' hw'=>zB hw' 0 rfl _ rfl rfl) ?_
 go_simp
 refine Zac (hK.out _ ?_)
 clear hK K
 refine zO 2 4 (by kernel_rfl) rfl (by rfl) fun K hK=> ?_
 go_simp
 refine (HT.out w10.drew).mono ?_
 rintro e w14 ⟨g17,rfl,hg,hh,q16⟩
 have V15:=V13.made q16 hg hh
 refine hK _ _ (V15.tail.tail) ?_
 clear hK K hg hh q16
 refine zO 4 3 (by kernel_rfl) rfl (by rfl) fun K hK=> ?_
 go_simp
 refine (HP.out w14).mono ?_
 rintro e w18 ⟨g21,rfl,hg,hh,q20⟩
 have V19:=V15.made q20 hg hh
 refine hK _ _ (V19.tail.tail.tail) ?_
 clear hK K hg hh q20
 refine zO 5 2 (by kernel_rfl) rfl (by rfl) fun K hK=> ?_
 refine Zdi V19 12 196 2 _ rfl rfl 138 (#[.func (.func 142) #[] #[.pointer (some ⟨g17,0,none⟩)], .func (.func 144) #[] #[.pointer (some ⟨g21,0,none⟩)]]) (Ztp _ _) (fun w22 g23 V24=> ?_)
 refine hK _ _ (V24.tail.tail.tail.tail) ?_
 clear hK K
 try go_simp
 refine zO 6 1 (by kernel_rfl) rfl (by rfl) fun K hK=> ?_
 go_simp
 refine (HR.out w22 g2 g17 g21 g23 (ho.of V24) (V24.at 6 rfl) (V24.at 2 rfl) (V24.at 1 rfl) (V24.at 0 rfl)).mono ?_
 rintro e w25 ⟨rfl,q27⟩
 have V26:=V24.call q27
 refine hK _ _ (V26.tail.tail.tail.tail) ?_
 clear hK K q27
 refine zO 7 0 (by kernel_rfl) rfl (by rfl) fun K hK=> ?_
 refine zS V26 3 rfl _ _ rfl rfl r rfl rfl (fun w28 V29=> ?_)
 refine hK _ _ (V29.tail.tail.tail.tail) ?_
 clear hK K
 refine wpAnyH_done (by kernel_rfl) ?_ _
 go_wp2_with fail
 exact bodyPost_ret (ZaW rfl _ V29 3 rfl rfl Tryz.underlying22 Tryz.szB (Zaf _)) rfl ⟨rfl,V29.bel⟩
end Go.Proofs.YtcaloldcihpkfaaGreatDoor.N
