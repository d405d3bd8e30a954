/-
 The code of layer 14 (sha512): a run in memory: its constants, its state, its rest.
-/
import Derived.Test.YtcaloldcihpkfaaGreatDoorMPackSe
import Derived.Test.YtcaloldcihpkfaaGreatDoorMPackSb
import Derived.Great.FillDense
namespace Go.Proofs.YtcaloldcihpkfaaGreatDoor.B
open Go.RowKit
set_option linter.unusedVariables false
set_option maxRecDepth 8192

structure RunAt (w:World) (h:Nat) (K s r:List Nat) (n:Nat):Prop where
 lt:h<w.heap.size
 th:w.there h 0 217
 rK:w.rangeAt h 0 ((nI K).map (Value.int .u64))
 rs:w.rangeAt h 80 ((nI s).map (Value.int .u64))
 rr:w.rangeAt h 88 ((nI r).map (Value.int .u8))
 cn:w.cell? ⟨h,216,none⟩=some (.int .i64 (n:Int))
 lK:K.length=80
 ls:s.length=8
 lr:r.length=128
theorem RunAt.same {w w':World} {h:Nat} {K s r:List Nat} {n:Nat} (H:RunAt w h K s r n) (e:w'.heap[h]? =w.heap[h]?) (hs:w.heap.size≤w'.heap.size):RunAt w' h K s r n:=
 ⟨Nat.lt_of_lt_of_le H.lt hs,Zhk H.th e,Zej H.rK e,Zej H.rs e,Zej H.rr e,(World.cell?_of_block (w:=w) e).trans H.cn,H.lK,H.ls,H.lr⟩
theorem RunAt.below {w w':World} {h:Nat} {K s r:List Nat} {n:Nat} (H:RunAt w h K s r n) {B:Nat} (q:Below B w w') (hB:h<B):RunAt w' h K s r n:=H.same (q.block h hB) q.size
theorem RunAt.drew {w:World} {h:Nat} {K s r:List Nat} {n:Nat} (H:RunAt w h K s r n):RunAt w.drew h K s r n:=H.same rfl (Nat.le_refl _)
theorem RunAt.turned {w w':World} {h g:Nat} {K s r:List Nat} {n:Nat} (H:RunAt w h K s r n) (q:w.grownBy w' (some g)) (hne:h≠g):RunAt w' h K s r n:=H.same (q.block h H.lt (fun e=>hne (by simpa using e))) q.size
theorem RunAt.setN {w:World} {h:Nat} {K s r:List Nat} {n:Nat} (H:RunAt w h K s r n) (x:Nat):RunAt (w.setCell ⟨h,216,none⟩ (.int .i64 (x:Int))) h K s r x:=by
 rw [←ZdR]
 have lK:=H.lK;have ls:=H.ls;have lr:=H.lr
 exact ⟨Nat.lt_of_lt_of_le H.lt (ZbQ w h _ _).size,World.there_setCells H.th _ _ _,
  World.rangeAt_setCells_apart H.rK _ _ _ (by simp [Zaa];omega),World.rangeAt_setCells_apart H.rs _ _ _ (by simp [Zaa];omega),World.rangeAt_setCells_apart H.rr _ _ _ (by simp [Zaa];omega),World.cell?_setCell_same _ _ _ H.cn,lK,ls,lr⟩
theorem RunAt.setS {w:World} {h:Nat} {K s r:List Nat} {n:Nat} (H:RunAt w h K s r n) (L:List Nat) (hL:L.length=8):RunAt (w.setCells h 80 ((nI L).map (Value.int .u64))) h K L r n:=by
 have lK:=H.lK;have ls:=H.ls;have lr:=H.lr
 have hl:((nI L).map (Value.int .u64)).length=8:=by rw [List.length_map,Zaa,hL]
 exact ⟨Nat.lt_of_lt_of_le H.lt (ZbQ w h _ _).size,World.there_setCells H.th _ _ _,
  World.rangeAt_setCells_apart H.rK _ _ _ (by right;left;rw [List.length_map,Zaa,lK];decide),World.rangeAt_setCells_same _ _ _ _ (by rw [hl];exact Zcj H.th 80 8 (by decide)),World.rangeAt_setCells_apart H.rr _ _ _ (by omega),(Zbe (by omega)).trans H.cn,lK,hL,lr⟩
theorem RunAt.setR {w:World} {h:Nat} {K s r:List Nat} {n:Nat} (H:RunAt w h K s r n) (at_:Nat) (L:List Nat) (hL:at_+L.length≤128):RunAt (w.setCells h (88+at_) ((nI L).map (Value.int .u8))) h K s (r.take at_++(L++r.drop (at_+L.length))) n:=by
 have lK:=H.lK;have ls:=H.ls;have lr:=H.lr
 have hl:((nI L).map (Value.int .u8)).length=L.length:=by rw [List.length_map,Zaa]
 refine ⟨Nat.lt_of_lt_of_le H.lt (ZbQ w h _ _).size,World.there_setCells H.th _ _ _,
  World.rangeAt_setCells_apart H.rK _ _ _ (by right;left;rw [List.length_map,Zaa,lK];omega),World.rangeAt_setCells_apart H.rs _ _ _ (by right;left;rw [List.length_map,Zaa,ls];omega), ?_,(Zbe (by omega)).trans H.cn,lK,ls,by simp;omega⟩
 intro j v hv
 have hj:j<128:=by have:=(List.getElem?_eq_some_iff.1 hv).1;simp [Zaa] at this;omega
 by_cases h1:j<at_
 ·rw [Zbe (by omega)]
  apply H.rr j v
  rw [ZbY,List.map_append,List.getElem?_append_left (by rw [List.length_map,Zaa,List.length_take];omega)] at hv
  rw [←hv, ←ZcC,List.map_take,List.getElem?_take,if_pos h1]
 ·by_cases h2:j<at_+L.length
  ·have hv2:((nI L).map (Value.int .u8))[j - at_]? =some v:=by
    rw [ZbY,ZbY,List.map_append,List.map_append,List.getElem?_append_right (by rw [List.length_map,Zaa,List.length_take];omega)] at hv
    rw [List.length_map,Zaa,List.length_take,Nat.min_eq_left (by omega),List.getElem?_append_left (by rw [List.length_map,Zaa];omega)] at hv
    exact hv
   have:=World.rangeAt_setCells_same w h (88+at_) ((nI L).map (Value.int .u8)) (by rw [hl];exact Zcj H.th (88+at_) L.length (by omega)) (j - at_) v hv2
   rwa [show 88+at_+(j - at_)=88+j from by omega] at this
  ·rw [Zbe (by omega)]
   apply H.rr j v
   rw [ZbY,ZbY,List.map_append,List.map_append,List.getElem?_append_right (by rw [List.length_map,Zaa,List.length_take];omega)] at hv
   rw [List.length_map,Zaa,List.length_take,Nat.min_eq_left (by omega),List.getElem?_append_right (by rw [List.length_map,Zaa];omega),List.length_map,Zaa] at hv
   rw [←hv, ←ZcN,List.map_drop,List.getElem?_drop]
   congr 1
   omega
def Zby (D r:List Nat):Prop:=r.length=128∧r.take (D.length%128)=D.drop (128*(D.length/128))
theorem Zhp (K:List Nat) (S:S8) {D r L:List Nat} (h:Zby D r) (hm:D.length%128+L.length<128):
  Zby (D++L) (r.take (D.length%128)++(L++r.drop (D.length%128+L.length)))∧(D++L).length/128=D.length/128∧Zan K S (D++L) (D.length/128)=Zan K S D (D.length/128):=by
 have hq:(D++L).length/128=D.length/128:=by rw [List.length_append];omega
 have hr:(D++L).length%128=D.length%128+L.length:=by rw [List.length_append];omega
 obtain ⟨h1,h2⟩:=h
 refine ⟨⟨by simp;omega, ?_⟩,hq, ?_⟩
 ·rw [hq,hr, ←List.append_assoc,List.take_append_of_le_length (by simp;omega),List.take_of_length_le (by simp;omega),h2,List.drop_append_of_le_length (by omega)]
 ·apply Zea
  rw [List.take_append_of_le_length (by omega)]
theorem Zhq (K:List Nat) (S:S8) {D r L:List Nat} (h:Zby D r) (hm:D.length%128+L.length=128):
  mixL K (Zan K S D (D.length/128)) (r.take (D.length%128)++(L++r.drop (D.length%128+L.length)))=Zan K S (D++L) ((D++L).length/128)∧(D++L).length%128=0∧∀r':List Nat,r'.length=128→Zby (D++L) r':=by
 have hq:(D++L).length/128=D.length/128+1:=by rw [List.length_append];omega
 have hr:(D++L).length%128=0:=by rw [List.length_append];omega
 have hl:D.length+L.length=128*(D.length/128+1):=by omega
 obtain ⟨h1,h2⟩:=h
 refine ⟨?_,hr,fun r' h'=>⟨h', ?_⟩⟩
 ·rw [hq,Zan]
  have e1:Zan K S (D++L) (D.length/128)=Zan K S D (D.length/128):=Zea K S _ _ _ (by rw [List.take_append_of_le_length (by omega)])
  rw [e1,h2,List.drop_of_length_le (show r.length≤D.length%128+L.length by omega),List.append_nil,List.drop_append_of_le_length (by omega),List.take_of_length_le (by rw [List.length_append,List.length_drop];omega)]
 ·rw [hr,hq,List.take_zero,List.drop_of_length_le (by rw [List.length_append];omega)]
def Zbq (w:World) (h:Nat) (K:List Nat) (S:S8) (D:List Nat):Prop:=∃r,RunAt w h K (Zan K S D (D.length/128)).list r (D.length%128)∧Zby D r∧∀x∈r,x<256
theorem Zbq.same {w w':World} {h:Nat} {K:List Nat} {S:S8} {D:List Nat} (H:Zbq w h K S D) (e:w'.heap[h]? =w.heap[h]?) (hs:w.heap.size≤w'.heap.size):Zbq w' h K S D:=by
 obtain ⟨r,h1,h2⟩:=H
 exact ⟨r,h1.same e hs,h2⟩
theorem Zbq.lt {w:World} {h:Nat} {K:List Nat} {S:S8} {D:List Nat} (H:Zbq w h K S D):h<w.heap.size:=by obtain ⟨r,h1,_⟩:=H;exact h1.lt
theorem Zbq.below {w w':World} {h B:Nat} {K:List Nat} {S:S8} {D:List Nat} (H:Zbq w h K S D) (q:Below B w w') (hB:h<B):Zbq w' h K S D:=H.same (q.block h hB) q.size
theorem RunAt.row {w:World} {h:Nat} {K s r:List Nat} {n:Nat} (H:RunAt w h K s r n):Row .u8 w (some ⟨h,88,none⟩) 128 128 (nI r):=
 ⟨by rw [Zaa];exact H.lr,Nat.le_refl _,by decide,by simp,fun _=>⟨h,88,rfl,H.lt,fun i hi=>by
  have hl:i<(nI r).length:=by rw [Zaa,H.lr];exact hi
  apply H.rr i
  rw [List.getElem?_map,List.getElem?_eq_getElem hl]
  rfl⟩⟩
theorem Zoh {P:Program} {a:Act} {o:Oper} {w:World} (ty:TypeId) (x lo:Operand) (ho:o.op= .slice ty x (some lo) none none) (vx vl v:Value) (hx:a.eval x=vx) (hl:a.eval lo=vl) (hr:(Instr.sliceAt ty vx (some vl) none none).run P w= .ok v w):(execOp a.eval o).run P w= .ok (.value v) w:=by
 unfold execOp
 simp only [ho,hx,hl,Option.map_some,Option.map_none,Sem.run_bind,Sem.run_pure,Result.andThen_ok,hr]
end Go.Proofs.YtcaloldcihpkfaaGreatDoor.B

/-
 The code of layer 14 (sha512): take.
-/
namespace Go.Proofs.YtcaloldcihpkfaaGreatDoor.B
open Go.RowKit
set_option linter.unusedVariables false
set_option maxRecDepth 8192

set_option maxHeartbeats 3200000 in
theorem Zhu (K:List Nat) (S:S8) (hK:K.length=80) (hKl:∀x∈K,x<18446744073709551616) (hSok:S.Ok)
  (w:World) (h:Nat) (D z:List Nat) (a:Option Addr) (len cap:Nat) (H:Zbq w h K S D) (hr:Row .u8 w a len cap (nI z)) (hz:∀x∈z,x<256) (hne:0<len→∀ad,a=some ad→ad.block≠h) (hb:D.length+len<1000000000000):
  Calls Tryz.prog 123 #[.pointer (some ⟨h,0,none⟩), .slice a len cap] w fun e w'=>e= .returned (.tuple #[])∧Zbq w' h K S (D++z)∧w.grownBy w' (some h):=by
 have HLz:Hid (z.length=len):=by have:=hr.hlen;rw [Zaa] at this;exact this
 have HK:Hid (K.length=80):=hK
 have HKl:Hid (∀x∈K,x<18446744073709551616):=hKl
 have HZ:Hid (∀x∈z,x<256):=hz
 clear hK hKl hz
 obtain ⟨r1,A1,R1,B1⟩:=H
 have HR1:Hid (Zby D r1∧∀x∈r1,x<256):=⟨R1,B1⟩
 obtain ⟨N,hN⟩:∃N,D.length=N:=⟨_,rfl⟩
 have HN:Hid (D.length=N):=hN
 have hll:len<1000000000000:=by omega
 have HA1:Hid (RunAt w h K (Zan K S D (D.length/128)).list r1 (N%128)):=by rw [hN] at A1 ⊢;exact A1
 have HRW:Hid (Row .u8 w a len cap (nI z)):=hr
 have HNE:Hid (0<len→∀ad,a=some ad→ad.block≠h):=hne
 clear R1 B1 A1 hr hne hb hN
 go_enter Tryz.func123,Tryz.ntmps123
 go_wp2
 go_loopw [1] (fun b wr=>∃(j rm:Nat) (a':Option Addr) (c':Nat) (r:List Nat),b= .slice a' rm c'∧rm≤len∧Hid (j+rm=len)∧Hid (Row .u8 wr a' rm c' (nI (z.drop j)))∧Hid (0<rm→∀ad,a'=some ad→ad.block≠h)∧Hid (RunAt wr h K (Zan K S (D++z.take j) ((D++z.take j).length/128)).list r ((N+j)%128))∧Hid (Zby (D++z.take j) r∧∀x∈r,x<256)∧Hid (w.grownBy wr (some h))) (fun b _=>match b with| .slice _ l _=>l|_=>0)
 case atStart=>exact ⟨0,len,a,cap,r1,rfl,Nat.le_refl _,by show 0+len=len;omega,HRW,HNE,by rw [List.take_zero,List.append_nil];exact HA1,by rw [List.take_zero,List.append_nil];exact HR1,World.grownBy.refl _ _⟩
 case round=>
  clear HA1 HRW HNE HR1
  obtain ⟨j,rm,a',c',r,rfl,hrm,HJ,HR,HNE,HH,HRO,HG⟩:=hrel
  have HDl:Hid ((D++z.take j).length=N+j):=by
   show _=_
   rw [List.length_append,List.length_take,HN.out,HLz.out]
   have:=HJ.out
   omega
  by_cases h0:rm=0
  ·subst h0
   have HF:Hid (Zbq wr h K S (D++z)):=by
    have e:z.take j=z:=List.take_of_length_le (by rw [HLz.out];have:=HJ.out;omega)
    have hh:=HH.out
    have ho:=HRO.out
    have hd:=HDl.out
    rw [e] at hh ho hd
    refine ⟨r, ?_,ho.1,ho.2⟩
    rw [hd] at hh ⊢
    exact hh
   go_wp2
   go_end0
   exact ⟨rfl,HF.out,HG.out⟩
  ·have hat:(N+j)%128<128:=Nat.mod_lt _ (by decide)
   obtain ⟨at_,hat0⟩:∃x,(N+j)%128=x:=⟨_,rfl⟩
   have HAt:Hid ((N+j)%128=at_):=hat0
   rw [hat0] at hat HH
   clear hat0
   obtain ⟨b,off,rfl,hbs,hcell⟩:=HR.out.hcell (by omega)
   have hbh:b≠h:=HNE.out (by omega) _ rfl
   obtain ⟨m,hm⟩:∃m:Nat,(m=rm∧at_+rm<128)∨(at_+m=128∧m≤rm):=by
    rcases Nat.lt_or_ge (at_+rm) 128 with h1|h1
    ·exact ⟨rm, .inl ⟨rfl,h1⟩⟩
    ·exact ⟨128 - at_, .inr ⟨by omega,by omega⟩⟩
   have hmr:m≤rm:=by omega
   have hm64:at_+m≤128:=by omega
   have hm0:0<m:=by omega
   have HLl:Hid (((z.drop j).take m).length=m):=by
    show _=_
    rw [List.length_take,List.length_drop,HLz.out]
    have:=HJ.out
    omega
   have th:=Zcj HH.out.drew.th (88+at_) m (by omega)
   have hcp:=run_copy_cells (P:=Tryz.prog) wr.drew 28 28 3 5 h (88+at_) (128 - at_) (128 - at_) ⟨b,off,none⟩ rm c' ((nI ((z.drop j).take m)).map (Value.int .u8)) Tryz.underlying28 Tryz.one5 (by rw [List.length_map,Zaa,HLl.out];show m=min rm (128 - at_);omega)
    (fun i v hv=>by
     rw [Zbc]
     have hi:i<m:=by have:=(List.getElem?_eq_some_iff.1 hv).1;rwa [List.length_map,Zaa,HLl.out] at this
     show wr.cell? _=_
     rw [hcell i (by omega), ←hv, ←ZcC,List.getElem?_map,List.getElem?_take,if_pos hi,List.getElem?_eq_getElem (show i<(nI (z.drop j)).length by rw [HR.out.hlen];omega)]
     rfl)
    (fun i hi=>(th i (by rwa [List.length_map,Zaa,HLl.out] at hi)).1) (fun i hi=>(th i (by rwa [List.length_map,Zaa,HLl.out] at hi)).2) (by intro v hv;obtain ⟨x,_,rfl⟩:=List.mem_map.1 hv;rfl)
   rw [List.length_map,Zaa,HLl.out] at hcp
   obtain ⟨a2,c2,hs2,row2,blk2⟩:=ZjI HR.out m hmr
   have hrest:=fun W=>ZjJ 28 5 Tryz.underlying28 Tryz.one5 (some ⟨b,off,none⟩) rm c' m .i64 hmr HR.out.hcap W
   rw [hs2] at hrest
   rw [ZcN,List.drop_drop] at row2
   have HRest:Hid (∀W,(Instr.sliceAt 28 (.slice (some ⟨b,off,none⟩) rm c') (some (.int .i64 (m:Int))) none none).run Tryz.prog W= .ok (.slice a2 (rm - m) c2) W):=hrest
   have HB2:Hid (0<rm - m→∀ad,a2=some ad→ad.block≠h):=fun _ ad hd=>by
    obtain ⟨ad',h1,h2⟩:=blk2 ad hd
    rw [h2]
    exact HNE.out (by omega) _ h1
   have gC:=ZbQ wr.drew h ((nI ((z.drop j).take m)).map (Value.int .u8)) (88+at_)
   have HC:=HH.out.drew.setR at_ ((z.drop j).take m) (by rw [HLl.out];exact hm64)
   replace row2:=(row2.turned (Zc4 (World.grownBy.refl wr (some h))) HB2.out).turned gC HB2.out
   have HE:Hid (z.take (j+m)=z.take j++(z.drop j).take m):=by show _=_;rw [List.take_add]
   rw [HLl.out] at HC
   have HCp:Hid (Sem.run Tryz.prog (Builtin.copy_ #[28,28] 3 #[.slice (some ⟨h,88+at_,none⟩) (128 - at_) (128 - at_), .slice (some ⟨b,off,none⟩) rm c']) wr.drew= .ok (goInt m) (wr.drew.setCells h (88+at_) ((nI ((z.drop j).take m)).map (Value.int .u8)))):=hcp
   clear hcp hrest hs2 blk2 th hcell
   have HLen:Hid ((D++z.take j).length%128=at_):=by show _=_;rw [HDl.out];exact HAt.out
   have HAp:Hid (D++z.take (j+m)=D++z.take j++(z.drop j).take m):=by show _=_;rw [HE.out,List.append_assoc]
   have HL256:Hid (∀x∈(z.drop j).take m,x<256):=fun x hx=>HZ.out x (List.mem_of_mem_drop (List.mem_of_mem_take hx))
   generalize hL:(z.drop j).take m=L at*
   clear hL
   have HB3:Hid (∀x∈r.take at_++(L++r.drop (at_+m)),x<256):=ZjG (D:=D) HRO.out.2 HL256.out _ _
   have gG:wr.grownBy (wr.drew.setCells h (88+at_) ((nI L).map (Value.int .u8))) (some h):=Zbd (Zc4 (World.grownBy.refl _ _)) gC
   have HGC:Hid (w.grownBy (wr.drew.setCells h (88+at_) ((nI L).map (Value.int .u8))) (some h)):=Zbd HG.out gG
   have HROW:Hid (Row .u8 (wr.drew.setCells h (88+at_) ((nI L).map (Value.int .u8))) a2 (rm - m) c2 (nI (z.drop (j+m)))):=row2
   have HOK:Hid ((Zan K S (D++z.take j) ((D++z.take j).length/128)).Ok):=ZdI hSok _ _
   obtain ⟨st,hst⟩:∃x,Zan K S (D++z.take j) ((D++z.take j).length/128)=x:=⟨_,rfl⟩
   have HST0:Hid (Zan K S (D++z.take j) ((D++z.take j).length/128)=st):=hst
   rw [hst] at HH HC HOK
   clear hst gC row2
   have HS0:Hid ((∃r',RunAt wr.drew h K st.list r' at_)∧wr.grownBy wr.drew (some h)):=⟨⟨_,HH.out.drew⟩,Zc4 (World.grownBy.refl _ _)⟩
   have hrm0:(0:Int)<(rm:Int):=by omega
   go_wp2_with fail
   refine ZdP (fun w'=>(∃r',RunAt w' h K st.list r' at_)∧wr.grownBy w' (some h)) (by kernel_rfl) ?_
   refine Zaz (rs:=[0,1,2,3,4,5,6,7,8]) (fuel:=2) (by kernel_rfl) (fun c d v a w h=>by cases d<;>exact h) (by kernel_rfl) HS0.out (fun K' hK'=> ?_)
   refine Zah _ rfl (by rfl) rfl ?_
   go_simp
   refine Zad (.pointer (some ⟨h,0,none⟩)) rfl (by rfl) (fun w' hw'=> ?_) ?_
   ·go_simp
   go_simp
   refine Zad (.pointer (some ⟨h,88,none⟩)) rfl (by rfl) (fun w' hw'=> ?_) ?_
   ·go_simp
   go_simp
   refine Zah _ rfl (by rfl) rfl ?_
   go_simp
   refine Zad (.pointer (some ⟨h,0,none⟩)) rfl (by rfl) (fun w' hw'=> ?_) ?_
   ·go_simp
   go_simp
   refine Zad (.pointer (some ⟨h,216,none⟩)) rfl (by rfl) (fun w' hw'=> ?_) ?_
   ·go_simp
   go_simp
   refine Zad (.int .i64 (at_:Int)) rfl (by rfl) (fun w' hw'=> ?_) ?_
   ·obtain ⟨⟨r',hh⟩,_⟩:=hw'
    have hc:=hh.cn
    go_simp
   go_simp
   refine Zad (.slice (some ⟨h,88+at_,none⟩) (128 - at_) (128 - at_)) rfl (by rfl) (fun w' hw'=> ?_) ?_
   ·exact Zoh 159 (.tmp 10) (.tmp 14) rfl (.pointer (some ⟨h,88,none⟩)) (.int .i64 (at_:Int)) _ rfl rfl (ZjA 159 5 128 Tryz.underlying159 Tryz.one5 h 88 .i64 at_ hat w')
   go_simp
   refine Zah _ rfl (by rfl) rfl ?_
   go_simp
   refine Zac (hK'.out _ ?_)
   clear hK' K'
   refine Zbt (i:=9) (fuel:=1) (by kernel_rfl) rfl (by rfl) (fun K' hK'=> ?_)
   have hcp:=HCp.out
   go_simp
   refine hK' _ _ ⟨⟨_,HC⟩,gG⟩ ?_
   clear hK' K' hcp HCp
   refine Zaz (rs:=[10]) (fuel:=0) (by kernel_rfl) (fun c d v a w h=>by cases d<;>exact h) (by kernel_rfl) ⟨⟨_,HC⟩,gG⟩ (fun K' hK'=> ?_)
   go_simp
   refine ZaB _ rfl (by rfl) rfl ?_
   go_simp
   refine Zac (hK'.out _ ?_)
   clear hK' K'
   refine wpAnyH_done (by kernel_rfl) ?_ _
   have HC2:Hid (RunAt (wr.drew.setCells h (88+at_) ((nI L).map (Value.int .u8))) h K st.list (r.take at_++(L++r.drop (at_+m))) at_):=HC
   clear HC gG HS0
   generalize wr.drew.setCells h (88+at_) ((nI L).map (Value.int .u8))=wc at*
   have cn:=HC2.out.cn
   have f1:=(HC2.out.th 216 (by decide)).2
   rw [Nat.zero_add] at f1
   have HC3:Hid (RunAt (wc.setCell ⟨h,216,none⟩ (.int .i64 ((at_+m:Nat):Int))) h K st.list (r.take at_++(L++r.drop (at_+m))) (at_+m)):=HC2.out.setN (at_+m)
   have gN:=ZdQ wc h 216 (.int .i64 ((at_+m:Nat):Int))
   have HGN:Hid (w.grownBy (wc.setCell ⟨h,216,none⟩ (.int .i64 ((at_+m:Nat):Int))) (some h)):=Zbd HGC.out gN
   have HROWN:Hid (Row .u8 (wc.setCell ⟨h,216,none⟩ (.int .i64 ((at_+m:Nat):Int))) a2 (rm - m) c2 (nI (z.drop (j+m)))):=HROW.out.turned gN HB2.out
   clear gN HC2 HGC HROW
   have hlow:(at_:Int)+(m:Int)≤128:=by omega
   rcases hm with ⟨rfl,hlt⟩|⟨hfull,_⟩
   ·have HNEW:=Zhp K S (L:=L) HRO.out.1 (by rw [HLen.out,HLl.out];exact hlt)
    rw [HLen.out,HLl.out, ←HAp.out] at HNEW
    have HST:Hid (RunAt (wc.setCell ⟨h,216,none⟩ (.int .i64 ((at_+m:Nat):Int))) h K (Zan K S (D++z.take (j+m)) ((D++z.take (j+m)).length/128)).list (r.take at_++(L++r.drop (at_+m))) ((N+(j+m))%128)):=by
     show RunAt _ _ _ _ _ _
     rw [HNEW.2.1,HNEW.2.2,HST0.out,show (N+(j+m))%128=at_+m from by have:=HAt.out;omega]
     exact HC3.out
    have HRN:Hid (Zby (D++z.take (j+m)) (r.take at_++(L++r.drop (at_+m)))∧∀x∈r.take at_++(L++r.drop (at_+m)),x<256):=⟨HNEW.1,HB3.out⟩
    have HJ2:Hid (j+m+(m - m)=len):=by show _=_;have:=HJ.out;omega
    have hq:((at_:Int)+(m:Int)==128)=false:=by simp;omega
    rw [Nat.sub_self] at HROWN HJ2 HB2
    clear HNEW HC3 HRO HH
    go_wp2_with (refine Zf0 rfl 28 _ _ rfl (.slice (some ⟨b,off,none⟩) m c') (.int .i64 (m:Int)) _ rfl rfl (HRest.out _) ?_)
    go_roundw
    case rel=>exact ⟨j+m,0,a2,c2,_,rfl,Nat.zero_le _,HJ2,HROWN,HB2,HST,HRN,HGN⟩
    case measure=>simp only;omega
   ·have HNEW:=Zhq K S (L:=L) HRO.out.1 (by rw [HLen.out,HLl.out];exact hfull)
    rw [HLen.out,HLl.out, ←HAp.out,HST0.out] at HNEW
    have hq:((at_:Int)+(m:Int)==128)=true:=by simp;omega
    have HNW:Hid (_∧_):=HNEW
    clear HNEW
    go_wp2_with (refine Zf0 rfl 28 _ _ rfl (.slice (some ⟨b,off,none⟩) rm c') (.int .i64 (m:Int)) _ rfl rfl (HRest.out _) ?_)
    change Code.wp _ _ _ _ (wc.setCell ⟨h,216,none⟩ (.int .i64 ((at_+m:Nat):Int)))
    generalize wc.setCell ⟨h,216,none⟩ (.int .i64 ((at_+m:Nat):Int))=wd at*
    generalize r.take at_++(L++r.drop (at_+m))=r2 at*
    have HA2:Hid ((N+(j+m))%128=0):=by show _=_;have:=HAt.out;omega
    have HJ2:Hid (j+m+(rm - m)=len):=by show _=_;have:=HJ.out;omega
    rw [hfull] at HC3
    clear HRest HH HRO HR HNE cn f1
    have hS0:(∃s':List Nat,RunAt wd.drew h K s' r2 128)∧wd.grownBy wd.drew (some h):=⟨⟨_,HC3.out.drew⟩,Zc4 (World.grownBy.refl _ _)⟩
    refine ZdP (fun w'=>(∃s':List Nat,RunAt w' h K s' r2 128)∧wd.grownBy w' (some h)) (by kernel_rfl) ?_
    refine Zaz (rs:=[0,1,2,3,5,6,7,8,9,10,11]) (fuel:=5) (by kernel_rfl) (fun c d v a w h=>by cases d<;>exact h) (by kernel_rfl) hS0 (fun K' hK'=> ?_)
    refine Zah _ rfl (by rfl) rfl ?_
    go_simp
    refine Zah _ rfl (by rfl) rfl ?_
    go_simp
    refine Zad (.pointer (some ⟨h,0,none⟩)) rfl (by rfl) (fun w' hw'=> ?_) ?_
    ·go_simp
    go_simp
    refine Zad (.pointer (some ⟨h,80,none⟩)) rfl (by rfl) (fun w' hw'=> ?_) ?_
    ·go_simp
    go_simp
    refine Zah _ rfl (by rfl) rfl ?_
    go_simp
    refine Zad (.pointer (some ⟨h,0,none⟩)) rfl (by rfl) (fun w' hw'=> ?_) ?_
    ·go_simp
    go_simp
    refine Zad (.pointer (some ⟨h,88,none⟩)) rfl (by rfl) (fun w' hw'=> ?_) ?_
    ·go_simp
    go_simp
    refine Zad (.slice (some ⟨h,88,none⟩) 128 128) rfl (by rfl) (fun w' hw'=> ?_) ?_
    ·exact ZjK 159 (.tmp 41) rfl (.pointer (some ⟨h,88,none⟩)) _ rfl (ZjB 159 5 128 Tryz.underlying159 Tryz.one5 h 88 (by decide) w')
    go_simp
    refine Zah _ rfl (by rfl) rfl ?_
    go_simp
    refine Zad (.pointer (some ⟨h,0,none⟩)) rfl (by rfl) (fun w' hw'=> ?_) ?_
    ·go_simp
    go_simp
    refine Zad (.pointer (some ⟨h,0,none⟩)) rfl (by rfl) (fun w' hw'=> ?_) ?_
    ·go_simp
    go_simp
    refine Zac (hK'.out _ ?_)
    clear hK' K'
    refine Zbt (i:=4) (fuel:=4) (by kernel_rfl) rfl (by rfl) (fun K' hK'=> ?_)
    refine wp_load_mid 157 _ rfl h 80 rfl _ _ HC3.out.drew.rs Tryz.underlying157 rfl (by rw [Tryz.size157,List.length_map,Zaa,HC3.out.ls]) ?_
    go_simp
    refine hK' _ _ hS0 ?_
    clear hK' K'
    refine Zbt (i:=12) (fuel:=3) (by kernel_rfl) rfl (by rfl) (fun K' hK'=> ?_)
    go_simp
    refine (ZfV st K r2 (some ⟨h,88,none⟩) 128 _ HOK.out HK.out HKl.out h HC3.out.drew.lt HC3.out.drew.rK HC3.out.drew.row HB3.out).mono ?_
    rintro e wm ⟨rfl,qm⟩
    have HM:=HC3.out.drew.below qm HC3.out.lt
    have gM:wd.grownBy wm (some h):=Zbd (Zc4 (World.grownBy.refl _ _)) (Zc3 _ qm)
    have SM:(∃s':List Nat,RunAt wm h K s' r2 128)∧wd.grownBy wm (some h):=⟨⟨_,HM⟩,gM⟩
    refine hK' _ _ SM ?_
    clear hK' K'
    refine Zaz (rs:=[13,14]) (fuel:=1) (by kernel_rfl) (fun c d v a w h=>by cases d<;>exact h) (by kernel_rfl) SM (fun K' hK'=> ?_)
    go_simp
    refine Zad (.pointer (some ⟨h,0,none⟩)) rfl (by rfl) (fun w' hw'=> ?_) ?_
    ·go_simp
    go_simp
    refine Zad (.pointer (some ⟨h,80,none⟩)) rfl (by rfl) (fun w' hw'=> ?_) ?_
    ·go_simp
    go_simp
    refine Zac (hK'.out _ ?_)
    clear hK' K'
    refine Zbt (i:=15) (fuel:=0) (by kernel_rfl) rfl (by rfl) (fun K' hK'=> ?_)
    refine ZjE 157 _ _ rfl h 80 (nI (mixL K st r2).list) rfl rfl (Zcj HM.th 80 8 (by decide)) Tryz.size157 (by rw [Zaa];rfl) ?_
    have HE2:=HM.setS (mixL K st r2).list rfl
    have gE:=Zbd gM (ZbQ wm h ((nI (mixL K st r2).list).map (Value.int .u64)) 80)
    generalize wm.setCells h 80 ((nI (mixL K st r2).list).map (Value.int .u64))=wE at*
    refine hK' _ _ ⟨⟨_,HE2⟩,gE⟩ ?_
    clear hK' K'
    refine wpAnyH_done (by kernel_rfl) ?_ _
    have cE:=HE2.cn
    have f2:=(HE2.th 216 (by decide)).2
    rw [Nat.zero_add] at f2
    have gF:=Zbd gE (ZdQ wE h 216 (.int .i64 ((0:Nat):Int)))
    have HST:Hid (RunAt (wE.setCell ⟨h,216,none⟩ (.int .i64 ((0:Nat):Int))) h K (Zan K S (D++z.take (j+m)) ((D++z.take (j+m)).length/128)).list r2 ((N+(j+m))%128)):=by
     show RunAt _ _ _ _ _ _
     rw [←HNW.out.1,HA2.out]
     exact HE2.setN 0
    have HRN:Hid (Zby (D++z.take (j+m)) r2∧∀x∈r2,x<256):=⟨HNW.out.2.2 r2 HC3.out.lr,HB3.out⟩
    have HROW2:Hid (Row .u8 (wE.setCell ⟨h,216,none⟩ (.int .i64 ((0:Nat):Int))) a2 (rm - m) c2 (nI (z.drop (j+m)))):=HROWN.out.turned gF HB2.out
    have HGE:Hid (w.grownBy (wE.setCell ⟨h,216,none⟩ (.int .i64 ((0:Nat):Int))) (some h)):=Zbd HGN.out gF
    clear HE2 gE gF HM gM SM hS0 HROWN HNW HC3 HGN qm
    go_wp2
    go_roundw
    case rel=>exact ⟨j+m,rm - m,a2,_,r2,rfl,by omega,HJ2,HROW2,HB2,HST,HRN,HGE⟩
    case measure=>simp only;omega
end Go.Proofs.YtcaloldcihpkfaaGreatDoor.B

/-
 The code of layer 14 (sha512): a new run; Sum.
-/
namespace Go.Proofs.YtcaloldcihpkfaaGreatDoor.B
open Go.RowKit
set_option linter.unusedVariables false
set_option maxRecDepth 8192

theorem ZjO (pl:Nat→Option (Nat×Nat)) (i off n:Nat) (c cells:Array Value) (rest:List (Nat×Value)) (hp:pl i=some (off,n)) (hn:c.size=n) (hle:off+n≤cells.size):
  ∃cs,Instr.fill pl cells ((i, .agg c)::rest)=Instr.fill pl cs rest∧cs.size=cells.size∧∀k,cs[k]? =if off≤k∧k<off+n then c[k - off]? else cells[k]? :=by
 obtain ⟨g1,g2⟩:=Great.foldl_set off c.toList 0 cells
 have c0:(Value.agg c).cells=c:=rfl
 have l1:c.toList.length=n:=by simpa using hn
 refine ⟨(c.toList.zipIdx 0).foldl (fun cs (x:Value×Nat)=>cs.setIfInBounds (off+x.2) x.1) cells, ?_,g1,fun k=> ?_⟩
 ·rw [Instr.fill]
  simp only [hp,c0,hn]
  rw [if_neg (by simp;omega)]
  congr 1
  rw [←Array.foldl_toList,Array.toList_zipIdx]
 ·rw [g2 k,l1]
  by_cases h:off≤k∧k<off+n
  ·rw [if_pos h,if_pos (by omega)]
   simp
  ·rw [if_neg h,if_neg (by omega)]
def Zf1:Array (Nat×Nat):= #[(0,80),(80,8),(88,128),(216,1)]
theorem Zoi (cK cS Z:Array Value) (hK:cK.size=80) (hS:cS.size=8) (hZ:Z.size=217):
  ∃cs,Instr.fill (Zf1[·]?) Z [(0, .agg cK),(1, .agg cS)]=some cs∧cs.size=217∧∀k,cs[k]? =if k<80 then cK[k]? else if k<88 then cS[k - 80]? else Z[k]? :=by
 obtain ⟨c1,e1,s1,g1⟩:=ZjO (Zf1[·]?) 0 0 80 cK Z [(1, .agg cS)] rfl hK (by omega)
 obtain ⟨c2,e2,s2,g2⟩:=ZjO (Zf1[·]?) 1 80 8 cS c1 [] rfl hS (by omega)
 refine ⟨c2,by rw [e1,e2];rfl,by omega,fun k=> ?_⟩
 rw [g2 k,g1 k]
 by_cases h1:k<80
 ·rw [if_pos h1,if_neg (by omega),if_pos (by omega),Nat.sub_zero]
 ·rw [if_neg h1]
  by_cases h2:k<88
  ·rw [if_pos h2,if_pos (by omega)]
  ·rw [if_neg h2,if_neg (by omega),if_neg (by omega)]
theorem Zoj:Tryz.zeroCells161=((nI (List.replicate 88 0)).map (Value.int .u64)++((nI (List.replicate 128 0)).map (Value.int .u8)++([.int .i64 0]:List Value))).toArray:=by kernel_rfl
theorem Zok (parts:List (Nat×Value)):Tryz.prog.built 161 parts=Instr.fill (Zf1[·]?) Tryz.zeroCells161 parts:=by kernel_rfl
theorem Tryz.size161:(Tryz.prog.info? 161).map (·.size)=some 217:=by kernel_rfl
structure NewRun (K s:List Nat) (cs:Array Value):Prop where
 size:cs.size=217
 at_:∀k,cs[k]? =if k<80 then ((nI K).map (Value.int .u64))[k]? else if k<88 then ((nI s).map (Value.int .u64))[k - 80]? else if k<216 then ((nI (List.replicate 128 0)).map (Value.int .u8))[k - 88]? else if k=216 then some (.int .i64 0) else none
theorem Zol (k:Nat) (h:88≤k):Tryz.zeroCells161[k]? =if k<216 then ((nI (List.replicate 128 0)).map (Value.int .u8))[k - 88]? else if k=216 then some (.int .i64 0) else none:=by
 rw [Zoj,List.getElem?_toArray,List.getElem?_append_right (by simp [nI];omega)]
 have l1:((nI (List.replicate 88 0)).map (Value.int .u64)).length=88:=by simp [nI]
 have l2:((nI (List.replicate 128 0)).map (Value.int .u8)).length=128:=by simp [nI]
 rw [l1]
 by_cases h1:k<216
 ·rw [if_pos h1,List.getElem?_append_left (by omega)]
 ·rw [if_neg h1,List.getElem?_append_right (by omega),l2]
  by_cases h2:k=216
  ·rw [if_pos h2];subst h2;rfl
  ·rw [if_neg h2,List.getElem?_eq_none (by simp;omega)]
theorem Zom (K s:List Nat) (hK:K.length=80) (hs:s.length=8):
  ∃cs,Tryz.prog.built 161 [(0, .agg ((nI K).map (Value.int .u64)).toArray),(1, .agg ((nI s).map (Value.int .u64)).toArray)]=some cs∧NewRun K s cs:=by
 obtain ⟨cs,h1,h2,h3⟩:=Zoi ((nI K).map (Value.int .u64)).toArray ((nI s).map (Value.int .u64)).toArray Tryz.zeroCells161 (by simp [Zaa,hK]) (by simp [Zaa,hs]) Tryz.zeroCells161_size
 refine ⟨cs,by rw [Zok,h1],h2,fun k=> ?_⟩
 rw [h3 k]
 by_cases h:k<80
 ·rw [if_pos h,if_pos h,List.getElem?_toArray]
 ·rw [if_neg h,if_neg h]
  by_cases h':k<88
  ·rw [if_pos h',if_pos h',List.getElem?_toArray]
  ·rw [if_neg h',if_neg h',Zol k (by omega)]
theorem NewRun.ones {K s:List Nat} {cs:Array Value} (h:NewRun K s cs):cs.all (·.oneCell')=true:=by
 rw [Array.all_eq_true]
 intro i hi
 have h1:=h.at_ i
 rw [Array.getElem?_eq_getElem hi] at h1
 have hm:∀(k:IntKind) (l:List Int) (j:Nat) (v:Value),some v=(l.map (Value.int k))[j]? →v.oneCell'=true:=fun k l j v hv=>by
  rw [List.getElem?_map] at hv
  cases hl:l[j]? with
  | none=>rw [hl] at hv;simp at hv
  | some x=>rw [hl] at hv;simp at hv;rw [hv];rfl
 split at h1
 ·exact hm _ _ _ _ h1
 ·split at h1
  ·exact hm _ _ _ _ h1
  ·split at h1
   ·exact hm _ _ _ _ h1
   ·split at h1
    ·simp at h1;rw [h1];rfl
    ·simp at h1
theorem NewRun.run {K s:List Nat} {cs:Array Value} (h:NewRun K s cs) (hK:K.length=80) (hs:s.length=8) {w:World} {g:Nat} {T:TypeId} (hg:w.heap[g]? =some (.cells cs T (0,0))):RunAt w g K s (List.replicate 128 0) 0:=by
 have hlt:g<w.heap.size:=by
  rcases Nat.lt_or_ge g w.heap.size with h'|h'
  ·exact h'
  ·rw [Array.getElem?_eq_none h'] at hg;simp at hg
 have hc:∀j,w.cell? ⟨g,j,none⟩=cs[j]? :=fun j=>cell_of_row w g j _ _ _ hg
 have th:w.there g 0 217:=fun j hj=>by
  refine ⟨?_,by simp [World.frozen?,hg]⟩
  rw [hc,Nat.zero_add,Array.getElem?_eq_getElem (by rw [h.size];exact hj)]
  rfl
 refine ⟨hlt,th,fun j v hv=> ?_,fun j v hv=> ?_,fun j v hv=> ?_, ?_,hK,hs,by simp⟩
 ·have hj:j<80:=by have:=(List.getElem?_eq_some_iff.1 hv).1;rwa [List.length_map,Zaa,hK] at this
  rw [hc,Nat.zero_add,h.at_ j,if_pos hj];exact hv
 ·have hj:j<8:=by have:=(List.getElem?_eq_some_iff.1 hv).1;rwa [List.length_map,Zaa,hs] at this
  rw [hc,h.at_ (80+j),if_neg (by omega),if_pos (by omega),show 80+j - 80=j from by omega];exact hv
 ·have hj:j<128:=by have:=(List.getElem?_eq_some_iff.1 hv).1;rwa [List.length_map,Zaa,List.length_replicate] at this
  rw [hc,h.at_ (88+j),if_neg (by omega),if_neg (by omega),if_pos (by omega),show 88+j - 88=j from by omega];exact hv
 ·rw [hc,h.at_ 216];rfl
end Go.Proofs.YtcaloldcihpkfaaGreatDoor.B

/-
 The code of layer 14 (sha512): Sum, of parts.
-/
namespace Go.Proofs.YtcaloldcihpkfaaGreatDoor.B
open Go.RowKit
set_option linter.unusedVariables false
set_option maxRecDepth 8192

structure PartV where
 at_:Option Addr
 len:Nat
 cap:Nat
 num:List Nat
instance:Inhabited PartV:=⟨⟨none,0,0,[]⟩⟩
structure PartsAt (w:World) (a:Option Addr) (len cap:Nat) (R:Nat→PartV):Prop where
 hlen:len≤cap
 hmax:cap≤maxLen
 each:0<len→∃b off,a=some ⟨b,off,none⟩∧b<w.heap.size∧∀i,i<len→w.cell? ⟨b,off+i,none⟩=some (.slice (R i).at_ (R i).len (R i).cap)∧Row .u8 w (R i).at_ (R i).len (R i).cap (nI (R i).num)∧∀x∈(R i).num,x<256
theorem PartsAt.below {w w':World} {a:Option Addr} {len cap:Nat} {R:Nat→PartV} (h:PartsAt w a len cap R) {B:Nat} (q:Below B w w') (hB:w.heap.size≤B):PartsAt w' a len cap R:=by
 refine ⟨h.hlen,h.hmax,fun h0=> ?_⟩
 obtain ⟨b,off,e,hb,hc⟩:=h.each h0
 refine ⟨b,off,e,Nat.lt_of_lt_of_le hb q.size,fun i hi=> ?_⟩
 obtain ⟨c1,c2,c3⟩:=hc i hi
 exact ⟨(q.cell (p:=⟨b,off+i,none⟩) (Nat.lt_of_lt_of_le hb hB)).trans c1,c2.below q hB,c3⟩
def Zav (R:Nat→PartV):Nat→List Nat
 | 0=>[]
 | i+1=>Zav R i++(R i).num
theorem ZjP (R:Nat→PartV) {i n:Nat} (h:i≤n):(Zav R i).length≤(Zav R n).length:=by
 induction n with
 | zero=>rw [show i=0 from by omega];exact Nat.le_refl _
 | succ n ih=>
  rcases Nat.lt_or_ge n i with h1|h1
  ·rw [show i=n+1 from by omega];exact Nat.le_refl _
  ·have:=ih h1;rw [Zav,List.length_append];omega
theorem Zon {P:Program} {ops:Array Oper} {rest:List Oper} {o:Oper} {a:Act} {w:World} {Q:Exit→Act→World→Prop} (hgd:o.guard=none) (t:TypeId) (i j:Nat) (x y:Operand) (ho:o.op= .build t #[(i,x),(j,y)])
  (vx vy:Value) (hx:a.eval x=vx) (hy:a.eval y=vy) (cs:Array Value) (hb:P.built t [(i,vx),(j,vy)]=some cs) (h:wpList P ops Q rest (a.put o.dst (.agg cs)) w):wpList P ops Q (o::rest) a w:=by
 have hv:((#[(i,x),(j,y)]:Array (Nat×Operand)).map fun (i,x)=>(i,a.eval x)).toList=[(i,vx),(j,vy)]:=by simp [hx,hy]
 exact wpList_build hgd t _ ho (by rw [hv,hb];rfl) (by rw [hv,hb];exact h)
theorem Zbq.new {w:World} {h:Nat} {K:List Nat} {S:S8} (H:RunAt w h K S.list (List.replicate 128 0) 0):Zbq w h K S []:=by
 refine ⟨List.replicate 128 0, ?_,⟨List.length_replicate, ?_⟩,fun x hx=>by rw [(List.mem_replicate.1 hx).2];decide⟩
 ·rw [List.length_nil,Nat.zero_div,Nat.zero_mod];exact H
 ·rw [List.length_nil,Nat.zero_mod,List.take_zero,List.drop_nil]
set_option maxHeartbeats 3200000 in
theorem Zhs (K:List Nat) (S:S8) (hK:K.length=80) (hKl:∀x∈K,x<18446744073709551616) (hSok:S.Ok)
  (hR:∀w,Calls Tryz.prog 121 #[] w fun e w'=>e= .returned (.agg ((nI K).map (Value.int .u64)).toArray)∧Below w.heap.size w w')
  (hS:∀w,Calls Tryz.prog 122 #[] w fun e w'=>e= .returned (.agg ((nI S.list).map (Value.int .u64)).toArray)∧Below w.heap.size w w')
  (R:Nat→PartV) (w:World) (a:Option Addr) (len cap:Nat) (hP:PartsAt w a len cap R) (hb:(Zav R len).length<1000000000):
  Calls Tryz.prog 78 #[.slice a len cap] w fun e w'=>e= .returned (.agg ((nI (sumL K S (Zav R len))).map (Value.int .u8)).toArray)∧Below w.heap.size w w':=by
 have HK:Hid (K.length=80∧∀x∈K,x<18446744073709551616):=⟨hK,hKl⟩
 have HT:Hid (∀(w:World) (h:Nat) (D z:List Nat) (a:Option Addr) (len cap:Nat),Zbq w h K S D→Row .u8 w a len cap (nI z)→(∀x∈z,x<256)→(0<len→∀ad,a=some ad→ad.block≠h)→D.length+len<1000000000000→
  Calls Tryz.prog 123 #[.pointer (some ⟨h,0,none⟩), .slice a len cap] w fun e w'=>e= .returned (.tuple #[])∧Zbq w' h K S (D++z)∧w.grownBy w' (some h)):=fun w h D z a len cap=>Zhu K S hK hKl hSok w h D z a len cap
 have hS8:S.list.length=8:=rfl
 have HL:Hid ((nI (sumL K S (Zav R len))).length=64):=by show _=_;rw [Zaa];rfl
 have HB0:Hid (∀i,i≤len→(Zav R i).length<1000000000):=fun i hi=>Nat.lt_of_le_of_lt (ZjP R hi) hb
 obtain ⟨cs,hcs,hnew⟩:=Zom K S.list hK hS8
 have HUN:Hid (∀(w:World) (g:Nat) (T:TypeId),w.heap[g]? =some (.cells cs T (0,0))→RunAt w g K S.list (List.replicate 128 0) 0):=fun w g T hg=>hnew.run hK hS8 hg
 have hon:=hnew.ones
 have hsz:=hnew.size
 have HP:Hid (PartsAt w a len cap R):=hP
 have hlm:len≤maxLen:=Nat.le_trans hP.hlen hP.hmax
 unfold maxLen at hlm
 have hlc:=hP.hlen
 clear hK hKl hb hP hnew
 have A2:=Arr.new w 63 .u8 (nI (List.replicate 64 0)) _ rfl
 have q0:=ZaS w (.cells ((nI (List.replicate 64 0)).map (Value.int .u8)).toArray 63)
 have s0:(w.alloc (.cells ((nI (List.replicate 64 0)).map (Value.int .u8)).toArray 63)).heap.size=w.heap.size+1:=by simp
 have hz1:=Tryz.zeroValue161
 have hz2:=Tryz.zeroCells161_ne
 have hz3:=Tryz.zeroCells161_size
 go_enter Tryz.func78,Tryz.ntmps78
 go_wp2_with fail
 change Calls Tryz.prog _ _ (w.alloc (.cells ((nI (List.replicate 64 0)).map (Value.int .u8)).toArray 63)) _
 generalize w.alloc (.cells ((nI (List.replicate 64 0)).map (Value.int .u8)).toArray 63)=w0 at*
 refine (hR w0).mono ?_
 rintro e w1 ⟨rfl,q1⟩
 have s1:=q1.size
 replace A2:=A2.below q1 (by omega)
 replace q0:=q0.trans (q1.mono (by omega))
 clear hR q1
 generalize hX1:((nI K).map (Value.int .u64)).toArray=X1 at*
 clear hX1
 go_wp2_with fail
 refine (hS w1).mono ?_
 rintro e w2 ⟨rfl,q2⟩
 have s2:=q2.size
 replace A2:=A2.below q2 (by omega)
 replace q0:=q0.trans (q2.mono (by omega))
 clear hS q2
 generalize hX2:((nI S.list).map (Value.int .u64)).toArray=X2 at*
 clear hX2
 go_wp2_with (first
  | (refine Zon rfl 161 0 1 _ _ rfl (.agg X1) (.agg X2) rfl rfl cs hcs ?_)
  | refine wpList_store_row rfl 161 _ _ rfl w2.heap.size cs rfl rfl 161 Tryz.zeroCells161 (heap_alloc_last _ _) (by rw [Tryz.size161,hsz]) (by rw [hz3,hsz]) hon ?_)
 have hrun:=HUN.out _ _ _ (setRow_heap (w2.alloc (.cells Tryz.zeroCells161 161)) w2.heap.size _ cs 161 (0,0) (heap_alloc_last w2 _))
 replace A2:=(A2.alloc (.cells Tryz.zeroCells161 161)).whole_other cs (show w.heap.size≠w2.heap.size by omega)
 replace q0:=below_setRow (q0.alloc (by omega) (.cells Tryz.zeroCells161 161)) (show w.heap.size≤w2.heap.size by omega) cs
 clear hcs HUN hon hsz hz1 hz2 hz3
 obtain ⟨w3,hw3⟩:∃x,x=(w2.alloc (.cells Tryz.zeroCells161 161)).setRow w2.heap.size cs:=⟨_,rfl⟩
 rw [←hw3] at hrun A2 q0
 try rw [←hw3]
 have hI:Zbq w3 w2.heap.size K S (Zav R 0):=Zbq.new hrun
 clear hw3 hrun
 have hh:w.heap.size<w2.heap.size:=by omega
 generalize w2.heap.size=hb at*
 clear s0 s1 s2
 go_loopw [4,12] (fun c i wr=>∃k:Nat,k≤len∧i= .int .i64 (k:Int)∧c= .int .u64 (((Zav R k).length:Nat):Int)∧Hid (Zbq wr hb K S (Zav R k))∧Hid (Arr wr w.heap.size 63 .u8 (nI (List.replicate 64 0)))∧Hid (Below w.heap.size w wr)) (fun _ i _=>len - (intOf i).toNat)
 case atStart=>exact ⟨0,Nat.zero_le _,rfl,rfl,hI,A2,q0⟩
 case round=>
  clear hI A2 q0
  obtain ⟨k,hk,rfl,rfl,HI,HA,HB⟩:=hrel
  by_cases hlt:k<len
  ·obtain ⟨b,off,rfl,hbs,hc⟩:=(HP.out.below HB.out (Nat.le_refl _)).each (by omega)
   obtain ⟨c1,c2,c3⟩:=hc k hlt
   obtain ⟨b',off',e',hb',hc'⟩:=HP.out.each (by omega)
   obtain ⟨d1,d2,d3⟩:=hc' k hlt
   have hne:0<(R k).len→∀ad,(R k).at_=some ad→ad.block≠hb:=fun h0 ad hd=>by
    obtain ⟨bb,oo,hab,hbs,_⟩:=d2.hcell h0
    rw [hab,Option.some.injEq] at hd
    rw [←hd]
    show bb≠_
    omega
   have hl1:=HB0.out k hk
   have hl2:=HB0.out (k+1) (by omega)
   have hlen:(R k).num.length=(R k).len:=by have:=c2.hlen;rwa [Zaa] at this
   have HC:Hid (Zav R (k+1)=Zav R k++(R k).num):=rfl
   rw [HC.out,List.length_append,hlen] at hl2
   have ht:=HT.out wr hb (Zav R k) (R k).num (R k).at_ (R k).len (R k).cap HI.out c2 c3 hne (by omega)
   have HCL:Hid ((Zav R (k+1)).length=(Zav R k).length+(R k).len):=by show _=_;rw [HC.out,List.length_append,hlen]
   have HCU:Hid (∀w',Zbq w' hb K S (Zav R k++(R k).num)→Zbq w' hb K S (Zav R (k+1))):=fun w' h=>h
   clear hc hc' d1 d2 d3 c2 c3 e' hne hlen hb'
   generalize (Zav R k).length=n at*
   generalize (R k).len=rl at*
   generalize (R k).at_=ra at*
   generalize (R k).cap=rc at*
   go_wp2_with fail
   refine ht.mono ?_
   rintro e w' ⟨rfl,H',g'⟩
   have A':=HA.out.turned g' (by omega)
   have hsw:=HB.out.size
   have q':Below w.heap.size w w':=ZfZ HB.out g' hsw (by omega)
   clear ht c1
   go_wp2
   go_roundw
   case rel=>exact ⟨k+1,by omega,by go_num,by rw [HCL.out];go_num,HCU.out _ H',A',q'⟩
   case measure=>simp [intOf];omega
  ·obtain rfl:k=len:=by omega
   have hl1:=HB0.out k (Nat.le_refl _)
   have hpd:=Zhi (Zav R k).length wr (by omega)
   have HPL:=ZfJ (Zav R k).length
   have hnl:=ZdJ (Zav R k).length
   have ht:=fun (w':World) (a:Option Addr) (c:Nat) (h1:Zbq w' hb K S (Zav R k)) (h2:Row .u8 w' a (Zas (Zav R k).length+17) c (nI (padL (Zav R k).length))) (h3:0<Zas (Zav R k).length+17→∀ad,a=some ad→ad.block≠hb)=>HT.out w' hb (Zav R k) (padL (Zav R k).length) a (Zas (Zav R k).length+17) c h1 h2 (ZfK _) h3 (by omega)
   have HSUM:Hid (∀w',Zbq w' hb K S (Zav R k++padL (Zav R k).length)→∃st:S8,st.Ok∧st.bytes=sumL K S (Zav R k)∧w'.rangeAt hb 80 ((nI st.list).map (Value.int .u64))):=fun w' h=>by
    obtain ⟨r,h1,_⟩:=h
    refine ⟨_,ZdI hSok _ _, ?_,h1.rs⟩
    unfold sumL
    rw [List.length_append,HPL]
   clear HB0 HPL HT
   generalize (Zav R k).length=n at*
   obtain ⟨sm,hsm⟩:∃x,sumL K S (Zav R k)=x:=⟨_,rfl⟩
   have HSM:Hid (sumL K S (Zav R k)=sm):=hsm
   rw [hsm] at HSUM HL
   clear hsm
   generalize Zas n+17=pl at*
   go_wp2_with fail
   refine hpd.mono ?_
   rintro e w4 ⟨v4,rfl,own4,q4⟩
   obtain ⟨a4,c4,rfl,row4⟩:=ZaF own4
   have hsw:=HB.out.size
   have hlt4:=HI.out.lt
   have hne4:0<pl→∀ad,a4=some ad→ad.block≠hb:=fun h0 ad hd=>by
    have:=(own4.lt ad.block (by rw [hd];rfl)).1
    omega
   replace ht:=ht w4 a4 c4 (HI.out.below q4 hlt4) row4 hne4
   have A4:=HA.out.below q4 HA.out.lt
   have q04:=HB.out.trans (q4.mono hsw)
   clear own4 row4 hne4 hpd q4
   go_wp2_with fail
   refine ht.mono ?_
   rintro e w5 ⟨rfl,H5,g5⟩
   obtain ⟨st,hok,hbytes,hrng⟩:=HSUM.out w5 H5
   have A5:=A4.turned g5 (by omega)
   have q5:Below w.heap.size w w5:=ZfZ q04 g5 (by have:=q04.size;omega) (by omega)
   have HL8:Hid ((nI st.list).length=8):=by show _=_;rw [Zaa];rfl
   clear ht HSUM
   go_wp2_with (refine ZjF rfl 157 _ rfl hb 80 rfl hrng Tryz.underlying157 Tryz.size157 HL8.out ?_)
   refine (Zdo st w5 hok).mono ?_
   rintro e w6 ⟨rfl,q6⟩
   have A6:=A5.below q6 (by have:=q5.size;have:=A5.lt;omega)
   replace q6:=q5.trans (q6.mono q5.size)
   rw [hbytes]
   go_wp2_with (refine ZbP rfl 63 _ _ rfl w.heap.size (nI sm) rfl rfl A6 Tryz.size63 (by decide+kernel) HL.out ?_)
   exact bodyPost_ret (resA rfl _ _ w.heap.size rfl (A6.whole _) Tryz.underlying63 Tryz.size63 HL.out) rfl ⟨by rw [HSM.out],below_setRow q6 (Nat.le_refl _) _⟩
theorem Zoo (R:Nat→PartV) (w:World) (a:Option Addr) (len cap:Nat) (hP:PartsAt w a len cap R) (hb:(Zav R len).length<1000000000):
  Calls Tryz.prog 78 #[.slice a len cap] w fun e w'=>e= .returned (.agg ((nI (sumL KL S0 (Zav R len))).map (Value.int .u8)).toArray)∧Below w.heap.size w w':=
 Zhs KL S0 ZeR ZeS ZeT ZgX (fun w=>by rw [ZfN];exact ZgW w) R w a len cap hP hb
end Go.Proofs.YtcaloldcihpkfaaGreatDoor.B
