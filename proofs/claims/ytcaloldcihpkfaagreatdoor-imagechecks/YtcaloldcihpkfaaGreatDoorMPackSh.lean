/-
 Layer 13's reference: words.
-/
import Derived.Test.YtcaloldcihpkfaaGreatDoorMPackSg
import Derived.Deep.AppendLies
import Derived.Test.YtcaloldcihpkfaaGreatDoorMPackSb
namespace Go.Proofs.YtcaloldcihpkfaaGreatDoor
open Go.RowKit
set_option linter.unusedVariables false
set_option maxRecDepth 8192

section
variable {P:Program} {ops:Array Oper} {Q:Exit→Act→World→Prop} {md:Region.Mode} {S:World→Prop}
theorem Zvo {i j:Nat} {oi oj:Oper} {fuel:Nat} {listed:Array Bool} {a:Act} {w:World} (hr:Region.ready md ops listed=[i,j]) (hoi:ops[i]? =some oi)
  (hwi:Region.wanted oi (yielded ops a.tmps)=true) (hoj:ops[j]? =some oj) (hwj:Region.wanted oj (yielded ops a.tmps)=true)
  (hi:∀K':Act→World→Prop,(∀a w1,S w1→wpAnyH P md ops Q S fuel (listed.setIfInBounds i true) a w1→K' a w1)→Oper.wp P oi a w K' Q)
  (hj:∀K':Act→World→Prop,(∀a w1,S w1→wpAnyH P md ops Q S fuel (listed.setIfInBounds j true) a w1→K' a w1)→Oper.wp P oj a w K' Q):
  wpAnyH P md ops Q S (fuel+1) listed a w:=by
 refine wpAnyH_all hr (by simp) fun k hk=> ?_
 simp only [List.mem_cons,List.not_mem_nil,or_false] at hk
 rcases hk with rfl|rfl
 ·refine wpOp_step hoi fun K' hK=> ?_
  rw [if_pos hwi]
  exact hi K' fun a w1 hs hh=>hK a w1 ⟨hs,hh⟩
 ·refine wpOp_step hoj fun K' hK=> ?_
  rw [if_pos hwj]
  exact hj K' fun a w1 hs hh=>hK a w1 ⟨hs,hh⟩
end
theorem Zvp (z:List Nat) (i:Nat) (hi:i<16):(Zam z).take (i+1)=(Zam z).take i++ [pwr z i 4]:=by
 rw [ZcY _ _ (by rw [ZbW];exact hi),Zjx]
 simp [Zam,hi]
set_option maxHeartbeats 3200000 in
theorem Zvq (z:List Nat) (a:Option Addr) (cap:Nat) (w:World) (hr:Row .u8 w a 64 cap (nI z)) (hz:∀x∈z,x<256):
  Calls Tryz.prog 106 #[.slice a 64 cap] w fun e w'=>∃v,e= .returned v∧w'.ownsRow w.heap.size 3 1 v 64 ((nI (ZaP z)).map (Value.int .i64))∧Below w.heap.size w w':=by
 obtain ⟨i0,hi0,hz0,hz1,hz2⟩:=info_parts Tryz.info3
 have HZ:Hid (∀x∈z,x<256):=hz
 clear hz
 go_enter Tryz.func106,Tryz.ntmps106
 go_wp2
 go_loopw [3,4] (fun v y wr=>∃i:Nat,i≤16∧y= .int .i64 (i:Int)∧Hid (wr.ownsRow w.heap.size 3 1 v i ((nI ((Zam z).take i)).map (Value.int .i64)))∧Hid (Below w.heap.size w wr)) (fun _ y _=>16 - (intOf y).toNat)
 case atStart=>exact ⟨0,by omega,rfl,World.ownsRow_nil _ _ _ _,Below.refl _ _⟩
 case round=>
  obtain ⟨i,hi,rfl,HO,HB⟩:=hrel
  obtain ⟨wo,hwo⟩:∃x,x=wr:=⟨_,rfl⟩
  subst hwo
  have hs:=HB.out.size
  by_cases hlt:i<16
  ·have hr1:=hr.below HB.out (Nat.le_refl _)
   obtain ⟨b,off,rfl,hbs,hcell⟩:=hr1.hcell (by decide)
   have HC:Hid (∀i,i<64→wo.cell? ⟨b,off+i,none⟩=some (.int .u8 ((nI z)[i]?.getD 0))):=hcell
   clear hcell hr1
   go_wp2
   go_loopw [5,6] (fun n y ws=>∃k:Nat,k≤4∧y= .int .i64 (k:Int)∧n= .int .i64 ((pwr z i k:Nat):Int)∧ws=wo) (fun _ y _=>4 - (intOf y).toNat)
   case atStart=>exact ⟨0,by omega,rfl,rfl,rfl⟩
   case round=>
    obtain ⟨k,hk,rfl,rfl,rfl⟩:=hrel
    have hpl:pwr z i k<256^4:=Nat.lt_of_lt_of_le (ZfT z HZ.out i k) (Nat.pow_le_pow_right (by decide) hk)
    by_cases hk4:k<4
    ·have hc1:=HC.out (4*i+k) (by omega)
     rw [Za2] at hc1
     have hx:=ZaK (by decide) HZ.out (4*i+k)
     have HPS:Hid (pwr z i (k+1)=pwr z i k*256+z[4*i+k]?.getD 0):=rfl
     generalize z[4*i+k]?.getD 0=x at*
     generalize pwr z i k=p at*
     have e1:(4:Int)*(i:Int)+(k:Int)=((4*i+k:Nat):Int):=by omega
     have e2:((4:Int)*(i:Int)+(k:Int)).toNat=4*i+k:=by omega
     have e3:(4:Int)*(i:Int)+(k:Int)<64:=by omega
     have e4:(0:Int)≤(4:Int)*(i:Int)+(k:Int):=by omega
     clear e1
     go_wp2
     go_roundw
     case rel=>exact ⟨k+1,by omega,by go_num,by rw [HPS.out];go_num,by first|trivial|rfl⟩
     case measure=>simp [intOf];omega
    ·obtain rfl:k=4:=by omega
     have HT:Hid ((Zam z).take (i+1)=(Zam z).take i++ [pwr z i 4]):=Zvp z i hlt
     have hown:=HO.out
     generalize pwr z i 4=p at*
     go_wp2_with (at_builtin;refine wpList_append_own _ rfl _ _ 71 rfl w.heap.size 3 i0 (.int .i64 0) 1 8 Tryz.underlying71 hi0 hz0 hz1 hz2 rfl (by decide) _ _ _ rfl (hown.alloc _) ⟨_,0,none⟩ 1 1 [.int .i64 (p:Int)] rfl rfl (cell_one_new _ _ _) (by intro u hu;simp at hu;subst hu;rfl) (by unfold maxLen;omega) (by omega) (by simp;omega) ?_)
     intro v' w1 hown' hgrow _
     have R:=Zb5 hs hown HB.out hown' hgrow
     rw [←Zch, ←HT.out] at R
     clear hown' hgrow
     go_wp2
     go_roundw
     case rel=>exact ⟨i+1,by omega,by go_num,R.1,R.2⟩
     case measure=>simp [intOf];omega
  ·obtain rfl:i=16:=by omega
   have hown:=HO.out
   rw [List.take_of_length_le (by rw [ZbW];exact Nat.le_refl _)] at hown
   have HO2:Hid (wo.ownsRow w.heap.size 3 1 _ 16 ((nI (Zam z)).map (Value.int .i64))):=hown
   have HLT:Hid (∀k,∀x∈Zaq (Zam z) k,x<4294967296):=fun k=>Zd8 _ (Zd9 z HZ.out) k
   have HLN:Hid (∀k,(Zaq (Zam z) k).length=16+k):=fun k=>by rw [Zcg,ZbW]
   have HNX:Hid (∀k,Zaq (Zam z) (k+1)=Zaq (Zam z) k++ [((Zaq (Zam z) k)[16+k - 16]?.getD 0+(rr ((Zaq (Zam z) k)[16+k - 15]?.getD 0) 7^^^rr ((Zaq (Zam z) k)[16+k - 15]?.getD 0) 18^^^(Zaq (Zam z) k)[16+k - 15]?.getD 0/8)+(Zaq (Zam z) k)[16+k - 7]?.getD 0+(rr ((Zaq (Zam z) k)[16+k - 2]?.getD 0) 17^^^rr ((Zaq (Zam z) k)[16+k - 2]?.getD 0) 19^^^(Zaq (Zam z) k)[16+k - 2]?.getD 0/1024))%4294967296]):=fun k=>by
    have hl:(Zaq (Zam z) k).length=16+k:=by rw [Zcg,ZbW]
    show Zaq (Zam z) k++ [ZbF (Zaq (Zam z) k)]=_
    unfold ZbF sg0 sg1
    rw [hl]
   have HF:Hid (Zaq (Zam z) 48=ZaP z):=rfl
   have HM0:Hid (Zaq (Zam z) 0=Zam z):=rfl
   rw [←HM0.out] at HO2
   clear hown HO HM0
   obtain ⟨M,hM⟩:∃M:Nat→List Nat,M=fun k=>Zaq (Zam z) k:=⟨_,rfl⟩
   have hM':∀k,Zaq (Zam z) k=M k:=fun k=>by rw [hM]
   simp only [hM'] at HO2 HLT HLN HNX
   have HF2:Hid (∀l,ZaP z=l→M 48=l):=fun l hl=>by rw [←hM' 48, ←hl];rfl
   clear hM hM' HF
   rw [show ((16:Nat):Int)=16 from rfl]
   go_wp2
   go_loopw [3,7] (fun v y wr=>∃k:Nat,k≤48∧y= .int .i64 ((16+k:Nat):Int)∧Hid (wr.ownsRow w.heap.size 3 1 v (16+k) ((nI (M k)).map (Value.int .i64)))∧Hid (Below w.heap.size w wr)) (fun _ y _=>64 - (intOf y).toNat)
   case atStart=>exact ⟨0,by omega,rfl,HO2,HB⟩
   case round=>
    clear HO2 HB
    obtain ⟨k,hk,rfl,HO,HB⟩:=hrel
    by_cases hlt:k<48
    ·obtain ⟨g,c,rfl,hgb,hgl⟩:=HO.out.form (by omega)
     have hown:=HO.out
     have c16:=ZeZ hown (16+k - 16) (by omega)
     have c15:=ZeZ hown (16+k - 15) (by omega)
     have c7:=ZeZ hown (16+k - 7) (by omega)
     have c2:=ZeZ hown (16+k - 2) (by omega)
     rw [Za2] at c16 c15 c7 c2
     have b16:=ZaK (by decide) (HLT.out k) (16+k - 16)
     have b15:=ZaK (by decide) (HLT.out k) (16+k - 15)
     have b7:=ZaK (by decide) (HLT.out k) (16+k - 7)
     have b2:=ZaK (by decide) (HLT.out k) (16+k - 2)
     have hnx:=HNX.out k
     generalize (M k)[16+k - 16]?.getD 0=x16 at*
     generalize (M k)[16+k - 15]?.getD 0=x15 at*
     generalize (M k)[16+k - 7]?.getD 0=x7 at*
     generalize (M k)[16+k - 2]?.getD 0=x2 at*
     have k7:∀w,Calls Tryz.prog 147 #[.int .i64 (x15:Int), .int .i64 7] w fun e' w'=>e'= .returned (.int .i64 ((rr x15 7:Nat):Int))∧∃m,w'=w.drewN m:=fun w=>ZdL x15 7 w b15 (by decide) (by decide)
     have k18:∀w,Calls Tryz.prog 147 #[.int .i64 (x15:Int), .int .i64 18] w fun e' w'=>e'= .returned (.int .i64 ((rr x15 18:Nat):Int))∧∃m,w'=w.drewN m:=fun w=>ZdL x15 18 w b15 (by decide) (by decide)
     have k17:∀w,Calls Tryz.prog 147 #[.int .i64 (x2:Int), .int .i64 17] w fun e' w'=>e'= .returned (.int .i64 ((rr x2 17:Nat):Int))∧∃m,w'=w.drewN m:=fun w=>ZdL x2 17 w b2 (by decide) (by decide)
     have k19:∀w,Calls Tryz.prog 147 #[.int .i64 (x2:Int), .int .i64 19] w fun e' w'=>e'= .returned (.int .i64 ((rr x2 19:Nat):Int))∧∃m,w'=w.drewN m:=fun w=>ZdL x2 19 w b2 (by decide) (by decide)
     have k3:∀w,Calls Tryz.prog 148 #[.int .i64 (x15:Int), .int .i64 3] w fun e' w'=>e'= .returned (.int .i64 ((x15/8:Nat):Int))∧w=w':=fun w=>Zjk x15 3 w (by decide) b15
     have k10:∀w,Calls Tryz.prog 148 #[.int .i64 (x2:Int), .int .i64 10] w fun e' w'=>e'= .returned (.int .i64 ((x2/1024:Nat):Int))∧w=w':=fun w=>Zjk x2 10 w (by decide) b2
     have l7:=ZaG x15 7 b15 (by decide)
     have l18:=ZaG x15 18 b15 (by decide)
     have l17:=ZaG x2 17 b2 (by decide)
     have l19:=ZaG x2 19 b2 (by decide)
     have ld8:x15/8<4294967296:=by omega
     have ld10:x2/1024<4294967296:=by omega
     generalize rr x15 7=r7 at*
     generalize rr x15 18=r18 at*
     generalize rr x2 17=r17 at*
     generalize rr x2 19=r19 at*
     generalize x15/8=d8 at*
     generalize x2/1024=d10 at*
     have e1:=fun w=>ZcX r7 r18 w l7 l18
     have f1:=xlt l7 l18
     generalize r7^^^r18=y1 at*
     have e2:=fun w=>ZcX y1 d8 w f1 ld8
     have f2:=xlt f1 ld8
     generalize y1^^^d8=y2 at*
     have e3:=fun w=>ZcX r17 r19 w l17 l19
     have f3:=xlt l17 l19
     generalize r17^^^r19=y3 at*
     have e4:=fun w=>ZcX y3 d10 w f3 ld10
     have f4:=xlt f3 ld10
     generalize y3^^^d10=y4 at*
     obtain ⟨nx,hx⟩:∃nx,(x16+y2+x7+y4)%4294967296=nx:=⟨_,rfl⟩
     rw [hx] at hnx
     have HX:Hid (nx=(x16+y2+x7+y4)%4294967296):=hx.symm
     have hnl:nx<4294967296:=by rw [←hx];exact mlt _
     clear hx
     have HM1:Hid (M (k+1)=M k++ [nx]):=hnx
     clear hnx
     have hi1:16≤16+k:=by omega
     have hi2:16+k<64:=by omega
     generalize hi:16+k=i at*
     have HI:Hid (16+k=i):=hi
     clear hi
     have t16:((i:Int) - 16).toNat=i - 16:=by omega
     have t15:((i:Int) - 15).toNat=i - 15:=by omega
     have t7:((i:Int) - 7).toNat=i - 7:=by omega
     have t2:((i:Int) - 2).toNat=i - 2:=by omega
     have p16a:(0:Int)≤(i:Int) - 16:=by omega
     have p16b:(i:Int) - 16<(i:Int):=by omega
     have p15a:(0:Int)≤(i:Int) - 15:=by omega
     have p15b:(i:Int) - 15<(i:Int):=by omega
     have p7a:(0:Int)≤(i:Int) - 7:=by omega
     have p7b:(i:Int) - 7<(i:Int):=by omega
     have p2a:(0:Int)≤(i:Int) - 2:=by omega
     have p2b:(i:Int) - 2<(i:Int):=by omega
     go_wp2_with fail
     go_quiet (first
      | (go_at_call 147;with_reducible exact Calls.quiet_of (k7 _))
      | (go_at_call 147;with_reducible exact Calls.quiet_of (k18 _))
      | (go_at_call 148;with_reducible exact Zbl (k3 _))
      | (go_at_call 107;with_reducible exact Zbl (e1 _))
      | (go_at_call 107;with_reducible exact Zbl (e2 _)))
     have hbel:Below w.heap.size w (wr.drewN nq):=Zbx HB.out _
     replace c16:(wr.drewN nq).cell? ⟨g,i - 16,none⟩=some (.int .i64 (x16:Int)):=c16
     replace c7:(wr.drewN nq).cell? ⟨g,i - 7,none⟩=some (.int .i64 (x7:Int)):=c7
     replace c2:(wr.drewN nq).cell? ⟨g,i - 2,none⟩=some (.int .i64 (x2:Int)):=c2
     replace hown:(wr.drewN nq).ownsRow w.heap.size 3 1 (.slice (some ⟨g,0,none⟩) i c) i ((nI (M k)).map (Value.int .i64)):=hown
     replace hgl:g<(wr.drewN nq).heap.size:=hgl
     clear c15 HO HB
     go_wp2_with fail
     generalize wr.drewN nq=wp at*
     go_quiet (first
      | (go_at_call 147;with_reducible exact Calls.quiet_of (k17 _))
      | (go_at_call 147;with_reducible exact Calls.quiet_of (k19 _))
      | (go_at_call 148;with_reducible exact Zbl (k10 _))
      | (go_at_call 107;with_reducible exact Zbl (e3 _))
      | (go_at_call 107;with_reducible exact Zbl (e4 _)))
     clear k7 k18 k17 k19 k3 k10 e1 e2 e3 e4
     replace c16:(wp.drewN nq).cell? ⟨g,i - 16,none⟩=some (.int .i64 (x16:Int)):=c16
     replace c7:(wp.drewN nq).cell? ⟨g,i - 7,none⟩=some (.int .i64 (x7:Int)):=c7
     replace hown:(wp.drewN nq).ownsRow w.heap.size 3 1 (.slice (some ⟨g,0,none⟩) i c) i ((nI (M k)).map (Value.int .i64)):=hown
     replace hbel:Below w.heap.size w (wp.drewN nq):=Zbx hbel _
     replace hgl:g<(wp.drewN nq).heap.size:=hgl
     clear c2
     go_wp2_with fail
     generalize wp.drewN nq=wq at*
     have ownd:wq.drew.ownsRow w.heap.size 3 1 (.slice (some ⟨g,0,none⟩) i c) i ((nI (M k)).map (Value.int .i64)):=hown
     have hS:Below w.heap.size w wq.drew:=hbel.drew
     have hs2:w.heap.size≤wq.drew.heap.size:=hbel.size
     refine ZdP (fun w'=>Below w.heap.size w w') (by kernel_rfl) ?_
     refine Zaz (rs:=[0,1,2,3,4,6,8,9,10,11,14]) (fuel:=9) (by kernel_rfl) (fun c d v a w h=>by cases d<;>exact h) (by kernel_rfl) hS (fun K' hK'=> ?_)
     refine Zah _ rfl (by rfl) rfl ?_
     go_simp
     refine Zah _ rfl (by rfl) rfl ?_
     go_simp
     refine Zah _ rfl (by rfl) rfl ?_
     go_simp
     refine Zad (.int .i64 ((i:Int) - 16)) rfl (by rfl) (fun w' hw'=> ?_) ?_
     ·go_simp
      all_goals (first|omega|(rw [IntKind.wrap_i64];omega))
     go_simp
     refine Zad (.pointer (some ⟨g,i - 16,none⟩)) rfl (by rfl) (fun w' hw'=> ?_) ?_
     ·go_simp
      all_goals (intro hh;exfalso;omega)
     go_simp
     refine Zah _ rfl (by rfl) rfl ?_
     go_simp
     refine Zah _ rfl (by rfl) rfl ?_
     go_simp
     refine Zah _ rfl (by rfl) rfl ?_
     go_simp
     refine Zad (.int .i64 ((i:Int) - 7)) rfl (by rfl) (fun w' hw'=> ?_) ?_
     ·go_simp
      all_goals (first|omega|(rw [IntKind.wrap_i64];omega))
     go_simp
     refine Zad (.pointer (some ⟨g,i - 7,none⟩)) rfl (by rfl) (fun w' hw'=> ?_) ?_
     ·go_simp
      all_goals (intro hh;exfalso;omega)
     go_simp
     refine Zah _ rfl (by rfl) rfl ?_
     go_simp
     refine Zac (hK'.out _ ?_)
     clear hK' K'
     refine Zvo (i:=5) (j:=12) (fuel:=8) (by kernel_rfl) rfl (by rfl) rfl (by rfl) (fun K' hK'=> ?_) (fun K' hK'=> ?_)
     ·go_simp
      refine hK' _ _ hS ?_
      clear hK' K'
      refine Zaz (rs:=[7]) (fuel:=7) (by kernel_rfl) (fun c d v a w h=>by cases d<;>exact h) (by kernel_rfl) hS (fun K' hK'=> ?_)
      go_simp
      refine Zad (.int .i64 ((x16:Int)+(y2:Int))) rfl (by rfl) (fun w' hw'=> ?_) ?_
      ·go_simp
       all_goals (first|omega|(rw [IntKind.wrap_i64];omega))
      go_simp
      refine Zac (hK'.out _ ?_)
      clear hK' K'
      refine Zbt (i:=12) (fuel:=6) (by kernel_rfl) rfl (by rfl) (fun K' hK'=> ?_)
      go_simp
      refine hK' _ _ hS ?_
      clear hK' K'
      refine Zaz (rs:=[13,15,16]) (fuel:=3) (by kernel_rfl) (fun c d v a w h=>by cases d<;>exact h) (by kernel_rfl) hS (fun K' hK'=> ?_)
      go_simp
      refine Zad (.int .i64 ((x16:Int)+(y2:Int)+(x7:Int))) rfl (by rfl) (fun w' hw'=> ?_) ?_
      ·go_simp
       all_goals (first|omega|(rw [IntKind.wrap_i64];omega))
      go_simp
      refine Zad (.int .i64 ((x16:Int)+(y2:Int)+(x7:Int)+(y4:Int))) rfl (by rfl) (fun w' hw'=> ?_) ?_
      ·go_simp
       all_goals (first|omega|(rw [IntKind.wrap_i64];omega))
      go_simp
      refine Zad (.int .i64 (nx:Int)) rfl (by rfl) (fun w' hw'=> ?_) ?_
      ·go_simp
       all_goals (rw [Int.tmod_eq_emod_of_nonneg (by omega),HX.out];omega)
      go_simp
      refine Zac (hK'.out _ ?_)
      clear hK' K'
      refine Zbt (i:=17) (fuel:=2) (by kernel_rfl) rfl (by rfl) (fun K' hK'=> ?_)
      have hS2:Below w.heap.size w (wq.drew.alloc (.cells #[.int .i64 (nx:Int)] 3)):=hS.alloc hs2 _
      go_simp
      refine hK' _ _ hS2 ?_
      clear hK' K'
      refine Zbt (i:=18) (fuel:=1) (by kernel_rfl) rfl (by rfl) (fun K' hK'=> ?_)
      refine wp_append_own _ (.tmp 77) (.tmp 94) 71 rfl w.heap.size 3 i0 (.int .i64 0) 1 8 Tryz.underlying71 hi0 hz0 hz1 hz2 rfl (by decide) _ _ _ rfl (ownd.alloc _) ⟨wq.heap.size,0,none⟩ 1 1 [.int .i64 (nx:Int)] rfl rfl (cell_one_new wq.drew _ _) (by intro u hu;simp at hu;subst hu;rfl) (by unfold maxLen;omega) (by omega) (by simp;omega) ?_
      intro v' w1 hown' hgrow _
      have R:=Zb5 (w:=w) hs2 ownd hS hown' hgrow
      rw [←Zch, ←HM1.out] at R
      clear hown' hgrow
      refine hK' _ _ R.2 ?_
      clear hK' K'
      refine Zaz (rs:=[19]) (fuel:=0) (by kernel_rfl) (fun c d v a w h=>by cases d<;>exact h) (by kernel_rfl) R.2 (fun K' hK'=> ?_)
      go_simp
      refine ZaB _ rfl (by rfl) rfl ?_
      go_simp
      refine Zac (hK'.out _ ?_)
      clear hK' K'
      refine wpAnyH_done (by kernel_rfl) ?_ _
      go_wp2
      go_roundw
      case rel=>exact ⟨k+1,by omega,by have:=HI.out;go_num,by rw [show 16+(k+1)=i+1 from by have:=HI.out;omega];exact R.1,R.2⟩
      case measure=>simp [intOf];omega
     ·go_simp
      refine hK' _ _ hS ?_
      clear hK' K'
      refine Zbt (i:=5) (fuel:=7) (by kernel_rfl) rfl (by rfl) (fun K' hK'=> ?_)
      go_simp
      refine hK' _ _ hS ?_
      clear hK' K'
      refine Zaz (rs:=[7,13,15,16]) (fuel:=3) (by kernel_rfl) (fun c d v a w h=>by cases d<;>exact h) (by kernel_rfl) hS (fun K' hK'=> ?_)
      go_simp
      refine Zad (.int .i64 ((x16:Int)+(y2:Int))) rfl (by rfl) (fun w' hw'=> ?_) ?_
      ·go_simp
       all_goals (first|omega|(rw [IntKind.wrap_i64];omega))
      go_simp
      refine Zad (.int .i64 ((x16:Int)+(y2:Int)+(x7:Int))) rfl (by rfl) (fun w' hw'=> ?_) ?_
      ·go_simp
       all_goals (first|omega|(rw [IntKind.wrap_i64];omega))
      go_simp
      refine Zad (.int .i64 ((x16:Int)+(y2:Int)+(x7:Int)+(y4:Int))) rfl (by rfl) (fun w' hw'=> ?_) ?_
      ·go_simp
       all_goals (first|omega|(rw [IntKind.wrap_i64];omega))
      go_simp
      refine Zad (.int .i64 (nx:Int)) rfl (by rfl) (fun w' hw'=> ?_) ?_
      ·go_simp
       all_goals (rw [Int.tmod_eq_emod_of_nonneg (by omega),HX.out];omega)
      go_simp
      refine Zac (hK'.out _ ?_)
      clear hK' K'
      refine Zbt (i:=17) (fuel:=2) (by kernel_rfl) rfl (by rfl) (fun K' hK'=> ?_)
      have hS2:Below w.heap.size w (wq.drew.alloc (.cells #[.int .i64 (nx:Int)] 3)):=hS.alloc hs2 _
      go_simp
      refine hK' _ _ hS2 ?_
      clear hK' K'
      refine Zbt (i:=18) (fuel:=1) (by kernel_rfl) rfl (by rfl) (fun K' hK'=> ?_)
      refine wp_append_own _ (.tmp 77) (.tmp 94) 71 rfl w.heap.size 3 i0 (.int .i64 0) 1 8 Tryz.underlying71 hi0 hz0 hz1 hz2 rfl (by decide) _ _ _ rfl (ownd.alloc _) ⟨wq.heap.size,0,none⟩ 1 1 [.int .i64 (nx:Int)] rfl rfl (cell_one_new wq.drew _ _) (by intro u hu;simp at hu;subst hu;rfl) (by unfold maxLen;omega) (by omega) (by simp;omega) ?_
      intro v' w1 hown' hgrow _
      have R:=Zb5 (w:=w) hs2 ownd hS hown' hgrow
      rw [←Zch, ←HM1.out] at R
      clear hown' hgrow
      refine hK' _ _ R.2 ?_
      clear hK' K'
      refine Zaz (rs:=[19]) (fuel:=0) (by kernel_rfl) (fun c d v a w h=>by cases d<;>exact h) (by kernel_rfl) R.2 (fun K' hK'=> ?_)
      go_simp
      refine ZaB _ rfl (by rfl) rfl ?_
      go_simp
      refine Zac (hK'.out _ ?_)
      clear hK' K'
      refine wpAnyH_done (by kernel_rfl) ?_ _
      go_wp2
      go_roundw
      case rel=>exact ⟨k+1,by omega,by have:=HI.out;go_num,by rw [show 16+(k+1)=i+1 from by have:=HI.out;omega];exact R.1,R.2⟩
      case measure=>simp [intOf];omega
    ·obtain rfl:k=48:=by omega
     have hown:=HO.out
     rw [HF2.out _ rfl] at hown
     go_wp2
     go_ret
     exact ⟨_,rfl,hown,HB.out⟩
end Go.Proofs.YtcaloldcihpkfaaGreatDoor

/-
 Layer 13's reference: Block. (Written by tools/gen/sha_refblock.py.)
-/
namespace Go.Proofs.YtcaloldcihpkfaaGreatDoor
open Go.RowKit
set_option linter.unusedVariables false
set_option maxRecDepth 8192

theorem Zvr (s q:S8) (i:Nat) (hi:i<8):(s.plus q).list[i]?.getD 0=(s.list[i]?.getD 0+q.list[i]?.getD 0)%4294967296:=by
 rcases (show i=0∨i=1∨i=2∨i=3∨i=4∨i=5∨i=6∨i=7 by omega) with rfl|rfl|rfl|rfl|rfl|rfl|rfl|rfl<;>rfl
theorem Zi5 {s:S8} (h:s.Ok) (i:Nat):s.list[i]?.getD 0<4294967296:=ZaK (by decide) (by
 intro x hx
 simp only [S8.list,List.mem_cons,List.not_mem_nil,or_false] at hx
 obtain ⟨ha,hb,hc,hd,he,hf,hg,hh⟩:=h
 rcases hx with rfl|rfl|rfl|rfl|rfl|rfl|rfl|rfl<;>assumption) i
set_option maxHeartbeats 6400000 in
theorem Zvs (K:List Nat) (s:S8) (z:List Nat) (aK aS aZ:Option Addr) (cK cS cZ:Nat) (w:World) (hs:s.Ok) (hKl:∀x∈K,x<4294967296) (hrK:Row .i64 w aK 64 cK (nI K)) (hrS:Row .i64 w aS 8 cS (nI s.list)) (hrZ:Row .u8 w aZ 64 cZ (nI z)) (hz:∀x∈z,x<256):
  Calls Tryz.prog 70 #[.slice aK 64 cK, .slice aS 8 cS, .slice aZ 64 cZ] w fun e w'=>∃v,e= .returned v∧w'.ownsRow w.heap.size 3 1 v 8 ((nI (mixL K s z).list).map (Value.int .i64))∧Below w.heap.size w w':=by
 obtain ⟨i0,hi0,hz0,hz1,hz2⟩:=info_parts Tryz.info3
 have HKl:Hid (∀x∈K,x<4294967296):=hKl
 clear hKl
 go_enter Tryz.func70,Tryz.ntmps70
 go_wp2_with fail
 refine (Zvq z aZ cZ _ hrZ hz).mono ?_
 rintro e w1 ⟨v1,rfl,own1,q1⟩
 obtain ⟨aW,cW,rfl,rowW⟩:=ZaF own1
 clear own1
 have s1:=q1.size
 have HFin:Hid (∀q,ZbA s K (ZaP z) 64=q→mixL K s z=s.plus q):=fun q hq=>by unfold mixL;rw [hq]
 have HS:Hid (∀x∈ZaP z,x<4294967296):=ZfI z hz
 generalize ZaP z=W at*
 clear hrZ hz
 have rowK:=hrK.below q1 (Nat.le_refl _)
 have rowS:=hrS.below q1 (Nat.le_refl _)
 clear hrK hrS
 go_wp2_with (at_builtin;refine Zdn _ rfl _ _ 71 rfl w1.heap.size 3 i0 (.int .i64 0) 8 Tryz.underlying71 hi0 hz0 hz1 hz2 rfl _ 0 [] rfl (World.ownsRow_nil _ _ _ _) .i64 aS 8 cS _ rfl rowS (by unfold maxLen;omega) (by omega) (Nat.le_refl _) ?_)
 intro v2 w2 own2 hg2
 have q2:Below w1.heap.size w1 w2:=(Below.refl _ _).grown hg2 (Nat.le_refl _) (by simp [Value.ownBlock])
 clear hg2
 obtain ⟨a2,c2,rfl,row2⟩:=ZaF own2
 clear own2
 go_wp2
 go_loopw [8,9] (fun v y wr=>∃(k a b c d e f g h:Nat) (a8:Option Addr) (c8:Nat),k≤64∧y= .int .i64 (k:Int)∧v= .slice a8 8 c8∧Hid (ZbA s K W k=⟨a,b,c,d,e,f,g,h⟩)∧Hid (Row .i64 wr a8 8 c8 (nI [a,b,c,d,e,f,g,h]))∧Hid (Below w1.heap.size w1 wr)) (fun _ y _=>64 - (intOf y).toNat)
 case atStart=>exact ⟨0,s.a,s.b,s.c,s.d,s.e,s.f,s.g,s.h,a2,c2,by omega,rfl,rfl,rfl,row2,q2⟩
 case round=>
  clear row2 q2
  obtain ⟨k,a,b,c,d,e,f,g,h,a8,c8,hk,rfl,rfl,HQ,HR,HB⟩:=hrel
  have hok:=hs.to K W k
  rw [HQ.out] at hok
  obtain ⟨ba,bb,bc,bd,be,bf,bg,bh⟩:=hok
  dsimp only at ba bb bc bd be bf bg bh
  by_cases hlt:k<64
  ·obtain ⟨bK,oK,rfl,_,hcK⟩:=(rowK.below HB.out (Nat.le_refl _)).hcell (by decide)
   have cK1:=hcK k hlt
   clear hcK
   obtain ⟨bW,oW,rfl,_,hcW⟩:=(rowW.below HB.out (Nat.le_refl _)).hcell (by decide)
   have cW1:=hcW k hlt
   clear hcW
   rw [Za2] at cK1 cW1
   have lK:=ZaK (by decide) HKl.out k
   have lW:=ZaK (by decide) HS.out k
   obtain ⟨b8,o8,rfl,hb8,hc8⟩:=HR.out.hcell (by decide)
   have x0:wr.cell? ⟨b8,o8,none⟩=some (.int .i64 (a:Int)):=hc8 0 (by decide)
   have x1:wr.cell? ⟨b8,o8+1,none⟩=some (.int .i64 (b:Int)):=hc8 1 (by decide)
   have x2:wr.cell? ⟨b8,o8+2,none⟩=some (.int .i64 (c:Int)):=hc8 2 (by decide)
   have x3:wr.cell? ⟨b8,o8+3,none⟩=some (.int .i64 (d:Int)):=hc8 3 (by decide)
   have x4:wr.cell? ⟨b8,o8+4,none⟩=some (.int .i64 (e:Int)):=hc8 4 (by decide)
   have x5:wr.cell? ⟨b8,o8+5,none⟩=some (.int .i64 (f:Int)):=hc8 5 (by decide)
   have x6:wr.cell? ⟨b8,o8+6,none⟩=some (.int .i64 (g:Int)):=hc8 6 (by decide)
   have x7:wr.cell? ⟨b8,o8+7,none⟩=some (.int .i64 (h:Int)):=hc8 7 (by decide)
   clear hc8
   have HN:Hid (ZbA s K W (k+1)=⟨((h+(rr e 6^^^rr e 11^^^rr e 25)+((e&&& f)^^^((4294967295 - e)&&& g))+K[k]?.getD 0+W[k]?.getD 0)+((rr a 2^^^rr a 13^^^rr a 22)+((a&&& b)^^^(a&&& c)^^^(b&&& c))))%4294967296,a,b,c,(d+(h+(rr e 6^^^rr e 11^^^rr e 25)+((e&&& f)^^^((4294967295 - e)&&& g))+K[k]?.getD 0+W[k]?.getD 0))%4294967296,e,f,g⟩):=by
    show (ZbA s K W k).rnd _ _=_
    rw [HQ.out]
    rfl
   generalize K[k]?.getD 0=kk at*
   generalize W[k]?.getD 0=ww at*
   have kE:∀w,Calls Tryz.prog 110 #[.int .i64 (e:Int), .int .i64 6, .int .i64 11, .int .i64 25] w fun e' w'=>e'= .returned (.int .i64 ((rr e 6^^^rr e 11^^^rr e 25:Nat):Int))∧∃m,w'=w.drewN m:=fun w=>Zjl e 6 11 25 w be (by decide) (by decide) (by decide) (by decide) (by decide) (by decide)
   have kA:∀w,Calls Tryz.prog 110 #[.int .i64 (a:Int), .int .i64 2, .int .i64 13, .int .i64 22] w fun e' w'=>e'= .returned (.int .i64 ((rr a 2^^^rr a 13^^^rr a 22:Nat):Int))∧∃m,w'=w.drewN m:=fun w=>Zjl a 2 13 22 w ba (by decide) (by decide) (by decide) (by decide) (by decide) (by decide)
   have f2:rr e 6^^^rr e 11^^^rr e 25<4294967296:=Zi7 be
   have f4:rr a 2^^^rr a 13^^^rr a 22<4294967296:=Zi6 ba
   generalize rr e 6^^^rr e 11^^^rr e 25=y2 at*
   generalize rr a 2^^^rr a 13^^^rr a 22=y4 at*
   have e5:=fun w=>ZeY e f w be bf
   have f5:e&&& f<4294967296:=alt bf
   generalize e&&& f=y5 at*
   have e0:=fun w=>Znb e w be
   have hne:4294967295 - e<4294967296:=by omega
   have e6:=fun w=>ZeY (4294967295 - e) g w hne bg
   have f6:(4294967295 - e)&&& g<4294967296:=alt bg
   generalize (4294967295 - e)&&& g=y6 at*
   generalize 4294967295 - e=ne at*
   have e7:=fun w=>ZcX y5 y6 w f5 f6
   have f7:=xlt f5 f6
   generalize y5^^^y6=y7 at*
   have e8:=fun w=>ZeY a b w ba bb
   have f8:a&&& b<4294967296:=alt bb
   generalize a&&& b=y8 at*
   have e9:=fun w=>ZeY a c w ba bc
   have f9:a&&& c<4294967296:=alt bc
   generalize a&&& c=y9 at*
   have e10:=fun w=>ZeY b c w bb bc
   have f10:b&&& c<4294967296:=alt bc
   generalize b&&& c=y10 at*
   have e11:=fun w=>ZcX y8 y9 w f8 f9
   have f11:=xlt f8 f9
   generalize y8^^^y9=y11 at*
   have e12:=fun w=>ZcX y11 y10 w f11 f10
   have f12:=xlt f11 f10
   generalize y11^^^y10=y12 at*
   have hbel:=HB.out
   clear HB HR
   go_wp2_with fail
   go_quiet (first
    | (go_at_call 108;with_reducible exact Zbl (e5 _))
    | (go_at_call 109;with_reducible exact Zbl (e0 _))
    | (go_at_call 108;with_reducible exact Zbl (e6 _))
    | (go_at_call 107;with_reducible exact Zbl (e7 _)))
   replace x0:(wr.drewN nq).cell? ⟨b8,o8,none⟩=some (.int .i64 (a:Int)):=x0
   replace x1:(wr.drewN nq).cell? ⟨b8,o8+1,none⟩=some (.int .i64 (b:Int)):=x1
   replace x2:(wr.drewN nq).cell? ⟨b8,o8+2,none⟩=some (.int .i64 (c:Int)):=x2
   replace x3:(wr.drewN nq).cell? ⟨b8,o8+3,none⟩=some (.int .i64 (d:Int)):=x3
   replace x4:(wr.drewN nq).cell? ⟨b8,o8+4,none⟩=some (.int .i64 (e:Int)):=x4
   replace x5:(wr.drewN nq).cell? ⟨b8,o8+5,none⟩=some (.int .i64 (f:Int)):=x5
   replace x6:(wr.drewN nq).cell? ⟨b8,o8+6,none⟩=some (.int .i64 (g:Int)):=x6
   replace x7:(wr.drewN nq).cell? ⟨b8,o8+7,none⟩=some (.int .i64 (h:Int)):=x7
   replace cK1:(wr.drewN nq).cell? ⟨bK,oK+k,none⟩=some (.int .i64 (kk:Int)):=cK1
   replace cW1:(wr.drewN nq).cell? ⟨bW,oW+k,none⟩=some (.int .i64 (ww:Int)):=cW1
   replace hbel:Below w1.heap.size w1 (wr.drewN nq):=Zbx hbel _
   replace hb8:b8<(wr.drewN nq).heap.size:=hb8
   go_wp2_with fail
   generalize wr.drewN nq=wa at*
   go_quiet (first
    | (go_at_call 108;with_reducible exact Zbl (e8 _))
    | (go_at_call 108;with_reducible exact Zbl (e9 _))
    | (go_at_call 108;with_reducible exact Zbl (e10 _))
    | (go_at_call 107;with_reducible exact Zbl (e11 _))
    | (go_at_call 107;with_reducible exact Zbl (e12 _)))
   clear e5 e0 e6 e7 e8 e9 e10 e11 e12
   replace x0:(wa.drewN nq).cell? ⟨b8,o8,none⟩=some (.int .i64 (a:Int)):=x0
   replace x1:(wa.drewN nq).cell? ⟨b8,o8+1,none⟩=some (.int .i64 (b:Int)):=x1
   replace x2:(wa.drewN nq).cell? ⟨b8,o8+2,none⟩=some (.int .i64 (c:Int)):=x2
   replace x3:(wa.drewN nq).cell? ⟨b8,o8+3,none⟩=some (.int .i64 (d:Int)):=x3
   replace x4:(wa.drewN nq).cell? ⟨b8,o8+4,none⟩=some (.int .i64 (e:Int)):=x4
   replace x5:(wa.drewN nq).cell? ⟨b8,o8+5,none⟩=some (.int .i64 (f:Int)):=x5
   replace x6:(wa.drewN nq).cell? ⟨b8,o8+6,none⟩=some (.int .i64 (g:Int)):=x6
   replace x7:(wa.drewN nq).cell? ⟨b8,o8+7,none⟩=some (.int .i64 (h:Int)):=x7
   replace cK1:(wa.drewN nq).cell? ⟨bK,oK+k,none⟩=some (.int .i64 (kk:Int)):=cK1
   replace cW1:(wa.drewN nq).cell? ⟨bW,oW+k,none⟩=some (.int .i64 (ww:Int)):=cW1
   replace hbel:Below w1.heap.size w1 (wa.drewN nq):=Zbx hbel _
   replace hb8:b8<(wa.drewN nq).heap.size:=hb8
   go_wp2_with fail
   generalize wa.drewN nq=wb at*
   go_quiet (first
    | (go_at_call 110;with_reducible exact Calls.quiet_of (kE _)))
   clear kE
   obtain ⟨t1,ht1⟩:∃t1,h+y2+y7+kk+ww=t1:=⟨_,rfl⟩
   obtain ⟨t2,ht2⟩:∃t2,y4+y12=t2:=⟨_,rfl⟩
   have eT1:(h:Int)+(y2:Int)+(y7:Int)+(kk:Int)+(ww:Int)=(t1:Int):=by omega
   have eT2:(y4:Int)+(y12:Int)=(t2:Int):=by omega
   have l1:t1<25769803776:=by omega
   have l2:t2<25769803776:=by omega
   rw [ht1,ht2] at HN
   clear ht1 ht2
   rw [eT1]
   clear eT1
   replace x0:(wb.drewN nq).cell? ⟨b8,o8,none⟩=some (.int .i64 (a:Int)):=x0
   replace x1:(wb.drewN nq).cell? ⟨b8,o8+1,none⟩=some (.int .i64 (b:Int)):=x1
   replace x2:(wb.drewN nq).cell? ⟨b8,o8+2,none⟩=some (.int .i64 (c:Int)):=x2
   replace x3:(wb.drewN nq).cell? ⟨b8,o8+3,none⟩=some (.int .i64 (d:Int)):=x3
   replace x4:(wb.drewN nq).cell? ⟨b8,o8+4,none⟩=some (.int .i64 (e:Int)):=x4
   replace x5:(wb.drewN nq).cell? ⟨b8,o8+5,none⟩=some (.int .i64 (f:Int)):=x5
   replace x6:(wb.drewN nq).cell? ⟨b8,o8+6,none⟩=some (.int .i64 (g:Int)):=x6
   replace x7:(wb.drewN nq).cell? ⟨b8,o8+7,none⟩=some (.int .i64 (h:Int)):=x7
   replace cK1:(wb.drewN nq).cell? ⟨bK,oK+k,none⟩=some (.int .i64 (kk:Int)):=cK1
   replace cW1:(wb.drewN nq).cell? ⟨bW,oW+k,none⟩=some (.int .i64 (ww:Int)):=cW1
   replace hbel:Below w1.heap.size w1 (wb.drewN nq):=Zbx hbel _
   replace hb8:b8<(wb.drewN nq).heap.size:=hb8
   go_wp2_with fail
   generalize wb.drewN nq=wc at*
   refine (kA _).mono ?_
   rintro e' wd' ⟨rfl,m,rfl⟩
   clear kA
   replace x0:(wc.drewN m).cell? ⟨b8,o8,none⟩=some (.int .i64 (a:Int)):=x0
   replace x1:(wc.drewN m).cell? ⟨b8,o8+1,none⟩=some (.int .i64 (b:Int)):=x1
   replace x2:(wc.drewN m).cell? ⟨b8,o8+2,none⟩=some (.int .i64 (c:Int)):=x2
   replace x3:(wc.drewN m).cell? ⟨b8,o8+3,none⟩=some (.int .i64 (d:Int)):=x3
   replace x4:(wc.drewN m).cell? ⟨b8,o8+4,none⟩=some (.int .i64 (e:Int)):=x4
   replace x5:(wc.drewN m).cell? ⟨b8,o8+5,none⟩=some (.int .i64 (f:Int)):=x5
   replace x6:(wc.drewN m).cell? ⟨b8,o8+6,none⟩=some (.int .i64 (g:Int)):=x6
   replace x7:(wc.drewN m).cell? ⟨b8,o8+7,none⟩=some (.int .i64 (h:Int)):=x7
   replace hbel:Below w1.heap.size w1 (wc.drewN m):=Zbx hbel _
   replace hb8:b8<(wc.drewN m).heap.size:=hb8
   clear cK1 cW1
   generalize wc.drewN m=wd at*
   go_wp2_with fail
   have hX:∀w',Zao wd w'→(w'.cell? ⟨b8,o8,none⟩=some (.int .i64 (a:Int))∧w'.cell? ⟨b8,o8+1,none⟩=some (.int .i64 (b:Int))∧w'.cell? ⟨b8,o8+2,none⟩=some (.int .i64 (c:Int))∧w'.cell? ⟨b8,o8+3,none⟩=some (.int .i64 (d:Int))∧w'.cell? ⟨b8,o8+4,none⟩=some (.int .i64 (e:Int))∧w'.cell? ⟨b8,o8+5,none⟩=some (.int .i64 (f:Int))∧w'.cell? ⟨b8,o8+6,none⟩=some (.int .i64 (g:Int))):=fun w' hw'=>by
    have hc:∀j,w'.cell? ⟨b8,j,none⟩=wd.cell? ⟨b8,j,none⟩:=fun j=>Below.cell hw' hb8
    exact ⟨(hc _).trans x0,(hc _).trans x1,(hc _).trans x2,(hc _).trans x3,(hc _).trans x4,(hc _).trans x5,(hc _).trans x6⟩
   have HX:Hid (∀w',Zao wd w'→(w'.cell? ⟨b8,o8,none⟩=some (.int .i64 (a:Int))∧w'.cell? ⟨b8,o8+1,none⟩=some (.int .i64 (b:Int))∧w'.cell? ⟨b8,o8+2,none⟩=some (.int .i64 (c:Int))∧w'.cell? ⟨b8,o8+3,none⟩=some (.int .i64 (d:Int))∧w'.cell? ⟨b8,o8+4,none⟩=some (.int .i64 (e:Int))∧w'.cell? ⟨b8,o8+5,none⟩=some (.int .i64 (f:Int))∧w'.cell? ⟨b8,o8+6,none⟩=some (.int .i64 (g:Int)))):=hX
   clear hX x0 x1 x2 x3 x4 x5 x6 x7
   obtain ⟨na,hna⟩:∃na,(t1+t2)%4294967296=na:=⟨_,rfl⟩
   obtain ⟨nE,hnE⟩:∃nE,(d+t1)%4294967296=nE:=⟨_,rfl⟩
   rw [hna,hnE] at HN
   have HNA:Hid ((t1+t2)%4294967296=na):=hna
   have HNE:Hid ((d+t1)%4294967296=nE):=hnE
   clear hna hnE
   refine Zju (by kernel_rfl) ?_
   refine Zaz (rs:=[0,1,2,3,4,5,6,7,8,9,10,11,12,13,14,15,16,17,18,19,20,21,22,23,24,25,26,27]) (fuel:=2) (by kernel_rfl) (fun c d v a w h=>by cases d<;>exact h) (by kernel_rfl) (Zao.drew _) (fun K' hK'=> ?_)
   refine Zah _ rfl (by rfl) rfl ?_
   go_simp
   refine Zah _ rfl (by rfl) rfl ?_
   go_simp
   refine Zad (.int .i64 ((t1:Int)+(t2:Int))) rfl (by rfl) (fun w' hw'=> ?_) ?_
   ·go_simp
    all_goals (first|omega|(rw [IntKind.wrap_i64];omega))
   go_simp
   refine Zad (.int .i64 (na:Int)) rfl (by rfl) (fun w' hw'=> ?_) ?_
   ·go_simp
    all_goals (rw [Int.tmod_eq_emod_of_nonneg (by omega), ←HNA.out];omega)
   go_simp
   refine Zah _ rfl (by rfl) rfl ?_
   go_simp
   refine Zad (.pointer (some ⟨b8,o8,none⟩)) rfl (by rfl) (fun w' hw'=> ?_) ?_
   ·go_simp
   go_simp
   refine Zad (.int .i64 (a:Int)) rfl (by rfl) (fun w' hw'=> ?_) ?_
   ·obtain ⟨x0,x1,x2,x3,x4,x5,x6⟩:=HX.out w' hw'
    go_simp
   go_simp
   refine Zah _ rfl (by rfl) rfl ?_
   go_simp
   refine Zad (.pointer (some ⟨b8,o8+1,none⟩)) rfl (by rfl) (fun w' hw'=> ?_) ?_
   ·go_simp
   go_simp
   refine Zad (.int .i64 (b:Int)) rfl (by rfl) (fun w' hw'=> ?_) ?_
   ·obtain ⟨x0,x1,x2,x3,x4,x5,x6⟩:=HX.out w' hw'
    go_simp
   go_simp
   refine Zah _ rfl (by rfl) rfl ?_
   go_simp
   refine Zad (.pointer (some ⟨b8,o8+2,none⟩)) rfl (by rfl) (fun w' hw'=> ?_) ?_
   ·go_simp
   go_simp
   refine Zad (.int .i64 (c:Int)) rfl (by rfl) (fun w' hw'=> ?_) ?_
   ·obtain ⟨x0,x1,x2,x3,x4,x5,x6⟩:=HX.out w' hw'
    go_simp
   go_simp
   refine Zah _ rfl (by rfl) rfl ?_
   go_simp
   refine Zad (.pointer (some ⟨b8,o8+3,none⟩)) rfl (by rfl) (fun w' hw'=> ?_) ?_
   ·go_simp
   go_simp
   refine Zad (.int .i64 (d:Int)) rfl (by rfl) (fun w' hw'=> ?_) ?_
   ·obtain ⟨x0,x1,x2,x3,x4,x5,x6⟩:=HX.out w' hw'
    go_simp
   go_simp
   refine Zah _ rfl (by rfl) rfl ?_
   go_simp
   refine Zad (.int .i64 ((d:Int)+(t1:Int))) rfl (by rfl) (fun w' hw'=> ?_) ?_
   ·go_simp
    all_goals (first|omega|(rw [IntKind.wrap_i64];omega))
   go_simp
   refine Zad (.int .i64 (nE:Int)) rfl (by rfl) (fun w' hw'=> ?_) ?_
   ·go_simp
    all_goals (rw [Int.tmod_eq_emod_of_nonneg (by omega), ←HNE.out];omega)
   go_simp
   refine Zah _ rfl (by rfl) rfl ?_
   go_simp
   refine Zad (.pointer (some ⟨b8,o8+4,none⟩)) rfl (by rfl) (fun w' hw'=> ?_) ?_
   ·go_simp
   go_simp
   refine Zad (.int .i64 (e:Int)) rfl (by rfl) (fun w' hw'=> ?_) ?_
   ·obtain ⟨x0,x1,x2,x3,x4,x5,x6⟩:=HX.out w' hw'
    go_simp
   go_simp
   refine Zah _ rfl (by rfl) rfl ?_
   go_simp
   refine Zad (.pointer (some ⟨b8,o8+5,none⟩)) rfl (by rfl) (fun w' hw'=> ?_) ?_
   ·go_simp
   go_simp
   refine Zad (.int .i64 (f:Int)) rfl (by rfl) (fun w' hw'=> ?_) ?_
   ·obtain ⟨x0,x1,x2,x3,x4,x5,x6⟩:=HX.out w' hw'
    go_simp
   go_simp
   refine Zah _ rfl (by rfl) rfl ?_
   go_simp
   refine Zad (.pointer (some ⟨b8,o8+6,none⟩)) rfl (by rfl) (fun w' hw'=> ?_) ?_
   ·go_simp
   go_simp
   refine Zad (.int .i64 (g:Int)) rfl (by rfl) (fun w' hw'=> ?_) ?_
   ·obtain ⟨x0,x1,x2,x3,x4,x5,x6⟩:=HX.out w' hw'
    go_simp
   go_simp
   refine Zac (hK'.out _ ?_)
   clear hK' K'
   refine Zc1 (i:=28) (fuel:=1) (by kernel_rfl) rfl (by rfl) (fun K' hK'=> ?_)
   have S8':Zao wd (wd.alloc (.cells #[.int .i64 (na:Int), .int .i64 (a:Int), .int .i64 (b:Int), .int .i64 (c:Int), .int .i64 (nE:Int), .int .i64 (e:Int), .int .i64 (f:Int), .int .i64 (g:Int)] 3)).drew:=(ZaS wd _).drew
   have rN:Row .i64 (wd.alloc (.cells #[.int .i64 (na:Int), .int .i64 (a:Int), .int .i64 (b:Int), .int .i64 (c:Int), .int .i64 (nE:Int), .int .i64 (e:Int), .int .i64 (f:Int), .int .i64 (g:Int)] 3)).drew (some ⟨wd.heap.size,0,none⟩) 8 8 (nI [na,a,b,c,nE,e,f,g]):=(Zed .i64 wd 3 wd.heap.size rfl (nI [na,a,b,c,nE,e,f,g]) 8 rfl (by decide) _ rfl).below (Below.refl _ _).drew (Nat.le_refl _)
   go_simp
   refine hK' _ _ S8' ?_
   clear hK' K'
   have HBN:Hid (Below w1.heap.size w1 (wd.alloc (.cells #[.int .i64 (na:Int), .int .i64 (a:Int), .int .i64 (b:Int), .int .i64 (c:Int), .int .i64 (nE:Int), .int .i64 (e:Int), .int .i64 (f:Int), .int .i64 (g:Int)] 3)).drew):=hbel.trans (Below.mono S8' hbel.size)
   generalize (wd.alloc (.cells #[.int .i64 (na:Int), .int .i64 (a:Int), .int .i64 (b:Int), .int .i64 (c:Int), .int .i64 (nE:Int), .int .i64 (e:Int), .int .i64 (f:Int), .int .i64 (g:Int)] 3)).drew=we at*
   have HRN:Hid (Row .i64 we (some ⟨wd.heap.size,0,none⟩) 8 8 (nI [na,a,b,c,nE,e,f,g])):=rN
   refine Zaz (rs:=[29]) (fuel:=0) (by kernel_rfl) (fun c d v a w h=>by cases d<;>exact h) (by kernel_rfl) (Zao.refl _) (fun K' hK'=> ?_)
   go_simp
   refine ZaB _ rfl (by rfl) rfl ?_
   go_simp
   refine Zac (hK'.out _ ?_)
   clear hK' K' rN S8'
   refine wpAnyH_done (by kernel_rfl) ?_ _
   go_wp2
   go_roundw
   case rel=>exact ⟨k+1,na,a,b,c,nE,e,f,g,_,_,by omega,by go_num,rfl,HN,HRN,HBN⟩
   case measure=>simp [intOf];omega
  ·obtain rfl:k=64:=by omega
   have HM:Hid (mixL K s z=s.plus ⟨a,b,c,d,e,f,g,h⟩):=HFin.out _ HQ.out
   have HOKq:Hid ((⟨a,b,c,d,e,f,g,h⟩:S8).Ok):=⟨ba,bb,bc,bd,be,bf,bg,bh⟩
   have rQ:=HR.out
   have rS:=rowS.below HB.out (Nat.le_refl _)
   have HBL:=HB
   replace rQ:Row .i64 wr a8 8 c8 (nI (⟨a,b,c,d,e,f,g,h⟩:S8).list):=rQ
   generalize (⟨a,b,c,d,e,f,g,h⟩:S8)=q at*
   obtain ⟨wL,hwL⟩:∃x,x=wr:=⟨_,rfl⟩
   subst hwL
   obtain ⟨bS,oS,rfl,hbS,hcS⟩:=rS.hcell (by decide)
   obtain ⟨bQ,oQ,rfl,hbQ,hcQ⟩:=rQ.hcell (by decide)
   have HCS:Hid (∀i,i<8→wL.cell? ⟨bS,oS+i,none⟩=some (.int .i64 ((nI s.list)[i]?.getD 0))):=hcS
   have HCQ:Hid (∀i,i<8→wL.cell? ⟨bQ,oQ+i,none⟩=some (.int .i64 ((nI q.list)[i]?.getD 0))):=hcQ
   have sL:=HBL.out.size
   clear hcS hcQ rS rQ HR HB HQ HFin ba bb bc bd be bf bg bh rowS rowK rowW
   rw [show ((64:Nat):Int)=64 from rfl]
   go_wp2
   go_loopw [14,15] (fun v y wr=>∃i:Nat,i≤8∧y= .int .i64 (i:Int)∧Hid (wr.ownsRow wL.heap.size 3 1 v i ((nI ((s.plus q).list.take i)).map (Value.int .i64)))∧Hid (Below wL.heap.size wL wr)) (fun _ y _=>8 - (intOf y).toNat)
   case atStart=>exact ⟨0,by omega,rfl,World.ownsRow_nil _ _ _ _,Below.refl _ _⟩
   case round=>
    obtain ⟨i,hi,rfl,HO,HB⟩:=hrel
    have hown:=HO.out
    have hbel:=HB.out
    have hs3:=hbel.size
    by_cases hlt8:i<8
    ·have HT:Hid ((s.plus q).list.take (i+1)=(s.plus q).list.take i++ [(s.list[i]?.getD 0+q.list[i]?.getD 0)%4294967296]):=by
      show _=_
      rw [ZcY _ _ hlt8,Zvr s q i hlt8]
     have lS:=Zi5 hs i
     have lQ:=Zi5 HOKq.out i
     have HXX:Hid (∀w',Below wL.heap.size wL w'→(w'.cell? ⟨bS,oS+i,none⟩=some (.int .i64 ((s.list[i]?.getD 0:Nat):Int))∧w'.cell? ⟨bQ,oQ+i,none⟩=some (.int .i64 ((q.list[i]?.getD 0:Nat):Int)))):=fun w' hw'=>by
      refine ⟨?_, ?_⟩
      ·rw [hw'.cell (by exact hbS),HCS.out i hlt8,Za2]
      ·rw [hw'.cell (by exact hbQ),HCQ.out i hlt8,Za2]
     generalize s.list[i]?.getD 0=xs at*
     generalize q.list[i]?.getD 0=xq at*
     have hii:(i:Int)<8:=by omega
     obtain ⟨nx,hnx⟩:∃nx,(xs+xq)%4294967296=nx:=⟨_,rfl⟩
     rw [hnx] at HT
     have HNX:Hid ((xs+xq)%4294967296=nx):=hnx
     clear hnx
     go_wp2_with fail
     have hS:Below wL.heap.size wL wr.drew:=hbel.drew
     have ownd:wr.drew.ownsRow wL.heap.size 3 1 u14 i ((nI ((s.plus q).list.take i)).map (Value.int .i64)):=hown
     have hs2:wL.heap.size≤wr.drew.heap.size:=hs3
     refine ZdP (fun w'=>Below wL.heap.size wL w') (by kernel_rfl) ?_
     refine Zaz (rs:=[0,1,2,3,4,5,6,7,8,9,10]) (fuel:=3) (by kernel_rfl) (fun c d v a w h=>by cases d<;>exact h) (by kernel_rfl) hS (fun K' hK'=> ?_)
     refine Zah _ rfl (by rfl) rfl ?_
     go_simp
     refine Zah _ rfl (by rfl) rfl ?_
     go_simp
     refine Zah _ rfl (by rfl) rfl ?_
     go_simp
     refine Zad (.pointer (some ⟨bS,oS+i,none⟩)) rfl (by rfl) (fun w' hw'=> ?_) ?_
     ·go_simp
     go_simp
     refine Zad (.int .i64 (xs:Int)) rfl (by rfl) (fun w' hw'=> ?_) ?_
     ·obtain ⟨x0,x1⟩:=HXX.out w' hw'
      go_simp
     go_simp
     refine Zah _ rfl (by rfl) rfl ?_
     go_simp
     refine Zah _ rfl (by rfl) rfl ?_
     go_simp
     refine Zad (.pointer (some ⟨bQ,oQ+i,none⟩)) rfl (by rfl) (fun w' hw'=> ?_) ?_
     ·go_simp
     go_simp
     refine Zad (.int .i64 (xq:Int)) rfl (by rfl) (fun w' hw'=> ?_) ?_
     ·obtain ⟨x0,x1⟩:=HXX.out w' hw'
      go_simp
     go_simp
     refine Zad (.int .i64 ((xs:Int)+(xq:Int))) rfl (by rfl) (fun w' hw'=> ?_) ?_
     ·go_simp
      all_goals (first|omega|(rw [IntKind.wrap_i64];omega))
     go_simp
     refine Zad (.int .i64 (nx:Int)) rfl (by rfl) (fun w' hw'=> ?_) ?_
     ·go_simp
      all_goals (rw [Int.tmod_eq_emod_of_nonneg (by omega), ←HNX.out];omega)
     go_simp
     refine Zac (hK'.out _ ?_)
     clear hK' K'
     refine Zbt (i:=11) (fuel:=2) (by kernel_rfl) rfl (by rfl) (fun K' hK'=> ?_)
     have hS2:Below wL.heap.size wL (wr.drew.alloc (.cells #[.int .i64 (nx:Int)] 3)):=hS.alloc hs2 _
     go_simp
     refine hK' _ _ hS2 ?_
     clear hK' K'
     refine Zbt (i:=12) (fuel:=1) (by kernel_rfl) rfl (by rfl) (fun K' hK'=> ?_)
     refine wp_append_own _ (.tmp 123) (.tmp 134) 71 rfl wL.heap.size 3 i0 (.int .i64 0) 1 8 Tryz.underlying71 hi0 hz0 hz1 hz2 rfl (by decide) _ _ _ rfl (ownd.alloc _) ⟨wr.heap.size,0,none⟩ 1 1 [.int .i64 (nx:Int)] rfl rfl (cell_one_new wr.drew _ _) (by intro u hu;simp at hu;subst hu;rfl) (by unfold maxLen;omega) (by omega) (by simp;omega) ?_
     intro v' w9 hown' hgrow _
     have R:=Zb5 (w:=wL) hs2 ownd hS hown' hgrow
     rw [←Zch, ←HT.out] at R
     clear hown' hgrow
     refine hK' _ _ R.2 ?_
     clear hK' K'
     refine Zaz (rs:=[13]) (fuel:=0) (by kernel_rfl) (fun c d v a w h=>by cases d<;>exact h) (by kernel_rfl) R.2 (fun K' hK'=> ?_)
     go_simp
     refine ZaB _ rfl (by rfl) rfl ?_
     go_simp
     refine Zac (hK'.out _ ?_)
     clear hK' K'
     refine wpAnyH_done (by kernel_rfl) ?_ _
     go_wp2
     go_roundw
     case rel=>exact ⟨i+1,by omega,by go_num,R.1,R.2⟩
     case measure=>simp [intOf];omega
    ·obtain rfl:i=8:=by omega
     rw [List.take_of_length_le (show (s.plus q).list.length≤8 from Nat.le_refl _), ←HM.out] at hown
     go_wp2
     go_ret
     exact ⟨_,rfl,ZdN hown (by omega),q1.trans ((HBL.out.trans (hbel.mono sL)).mono s1)⟩
end Go.Proofs.YtcaloldcihpkfaaGreatDoor

/-
 Layer 13's reference: Sum. (Written by tools/gen/sha_refsum.py.)
-/
namespace Go.Proofs.YtcaloldcihpkfaaGreatDoor
open Go.RowKit
set_option linter.unusedVariables false
set_option maxRecDepth 8192

theorem Zvt {P:Program} {ops:Array Oper} {rest:List Oper} {o:Oper} {a:Act} {w:World} {Q:Exit→Act→World→Prop} (hgd:o.guard=none) (ty:TypeId) (x lo hi:Operand) (ho:o.op= .slice ty x (some lo) (some hi) none)
  (vx vl vh v:Value) (hx:a.eval x=vx) (hl:a.eval lo=vl) (hh:a.eval hi=vh) (hr:(Instr.sliceAt ty vx (some vl) (some vh) none).run P w= .ok v w)
  (h:wpList P ops Q rest (a.put o.dst v) w):wpList P ops Q (o::rest) a w:=
 wpList_plain hgd fun _ hK=>by
  unfold Oper.wp execOp
  simp only [ho,hx,hl,hh,Option.map_some,Option.map_none,Sem.run_bind,Sem.run_pure,Result.andThen_ok,hr]
  exact hK _ _ h
theorem Zvu (s:S8) (i j:Nat) (hi:i<8) (hj:j<4):s.bytes[4*i+j]?.getD 0=s.list[i]?.getD 0/2^(8*(3 - j))%256:=by
 rcases (show i=0∨i=1∨i=2∨i=3∨i=4∨i=5∨i=6∨i=7 by omega) with rfl|rfl|rfl|rfl|rfl|rfl|rfl|rfl<;>rcases (show j=0∨j=1∨j=2∨j=3 by omega) with rfl|rfl|rfl|rfl<;>simp [S8.bytes,S8.list,be4]
set_option maxHeartbeats 6400000 in
theorem Zvv (K:List Nat) (S:S8) (hKl:∀x∈K,x<4294967296) (hSok:S.Ok)
  (hR:∀w,Calls Tryz.prog 68 #[] w fun e w'=>∃v,e= .returned v∧w'.ownsRow w.heap.size 3 1 v 64 ((nI K).map (Value.int .i64))∧Below w.heap.size w w')
  (hSt:∀w,Calls Tryz.prog 69 #[] w fun e w'=>∃v,e= .returned v∧w'.ownsRow w.heap.size 3 1 v 8 ((nI S.list).map (Value.int .i64))∧Below w.heap.size w w')
  (z:List Nat) (a:Option Addr) (len cap:Nat) (w:World) (hr:Row .u8 w a len cap (nI z)) (hz:∀x∈z,x<256) (hl:len≤100000):
  Calls Tryz.prog 28 #[.slice a len cap] w fun e w'=>∃v,e= .returned v∧w'.ownsRow w.heap.size 5 1 v 32 ((nI (sumL K S z)).map (Value.int .u8))∧Below w.heap.size w w':=by
 obtain ⟨i0,hi0,hz0,hz1,hz2⟩:=info_parts Tryz.info5
 have HLz:Hid (z.length=len):=by have:=hr.hlen;rw [Zaa] at this;exact this
 have hnl:=ZdJ len
 have hpw:=ZgL len
 go_enter Tryz.func28,Tryz.ntmps28
 go_wp2_with fail
 refine (Zvm z a len cap _ hr hl).mono ?_
 rintro e w1 ⟨v1,rfl,own1,q1⟩
 obtain ⟨aP,cP,rfl,rowP⟩:=ZaF own1
 clear own1
 have HBY:Hid (∀x∈z++padL len,x<256):=fun x hx=>by
  rcases List.mem_append.1 hx with h'|h'
  ·exact hz x h'
  ·exact ZfK len x h'
 obtain ⟨TB,hTB⟩:∃TB,len+(Zas len+9)=64*TB:=⟨(len+(Zas len+9))/64,by omega⟩
 have HSU:Hid ((Zan K S (z++padL len) TB).bytes=sumL K S z):=by
  show _=_
  unfold sumL
  rw [HLz.out,show (len+(Zas len+9))/64=TB from by omega]
 rw [hTB] at rowP ⊢
 have hTBl:TB≤2000:=by omega
 generalize z++padL len=pl at*
 clear hTB hpw hnl hz hr
 go_wp2_with fail
 refine (hR _).mono ?_
 rintro e w2 ⟨v2,rfl,own2,q2⟩
 obtain ⟨aK,cK,rfl,rowK⟩:=ZaF own2
 clear own2 hR
 go_wp2_with fail
 refine (hSt _).mono ?_
 rintro e w3 ⟨v3,rfl,own3,q3⟩
 obtain ⟨aS,cS,rfl,rowS⟩:=ZaF own3
 clear own3 hSt
 have s1:=q1.size
 have s2:=q2.size
 have s3:=q3.size
 have rP:=(rowP.below q2 (Nat.le_refl _)).below q3 (Nat.le_refl _)
 have rK:=rowK.below q3 (Nat.le_refl _)
 have q03:Below w.heap.size w w3:=(q1.trans (q2.mono s1)).trans (q3.mono (by omega))
 clear rowP rowK q1 q2 q3
 have s03:=q03.size
 go_wp2
 go_loopw [5,6] (fun v y wr=>∃(k:Nat) (a5:Option Addr) (c5:Nat),k≤TB∧y= .int .i64 ((64*k:Nat):Int)∧v= .slice a5 8 c5∧Hid (Row .i64 wr a5 8 c5 (nI (Zan K S pl k).list))∧Hid (Below w3.heap.size w3 wr)) (fun _ y _=>64*TB - (intOf y).toNat)
 case atStart=>exact ⟨0,aS,cS,Nat.zero_le _,rfl,rfl,rowS,Below.refl _ _⟩
 case round=>
  clear rowS
  obtain ⟨k,a5,c5,hk,rfl,rfl,HR,HB⟩:=hrel
  have sB:=HB.out.size
  have HOKk:Hid ((Zan K S pl k).Ok):=ZdI hSok _ _
  by_cases hkt:k<TB
  ·have HNX:Hid (mixL K (Zan K S pl k) ((pl.drop (64*k)).take 64)=Zan K S pl (k+1)):=rfl
   have rPk:=rP.below HB.out (Nat.le_refl _)
   obtain ⟨a7,hs7,row7⟩:=ZjL rPk (64*k) 64 (by decide) (by omega)
   have hcap6:=rPk.hcap
   have HWin:Hid (∀W,(Instr.sliceAt 28 (.slice aP (64*TB) cP) (some (.int .i64 ((64*k:Nat):Int))) (some (.int .i64 ((64*k+64:Nat):Int))) none).run Tryz.prog W= .ok (.slice a7 64 (cP - 64*k)) W):=fun W=>by
    rw [ZjM 28 5 Tryz.underlying28 Tryz.one5 aP (64*TB) cP (64*k) (64*k+64) .i64 .i64 (by omega) (by omega) W,hs7]
   have rW:=row7 wr (fun b off hb=>⟨rfl,Nat.le_refl _⟩)
   rw [ZcN,ZcC] at rW
   have HW256:Hid (∀x∈(pl.drop (64*k)).take 64,x<256):=fun x hx=>HBY.out x (List.mem_of_mem_drop (List.mem_of_mem_take hx))
   have hblk:=Zvs K (Zan K S pl k) ((pl.drop (64*k)).take 64) aK a5 a7 cK c5 (cP - 64*k) wr HOKk.out hKl (rK.below HB.out (Nat.le_refl _)) HR.out rW HW256.out
   rw [HNX.out] at hblk
   clear row7 hs7 rPk rW HNX
   have e1:((64*k:Nat):Int)+64=((64*k+64:Nat):Int):=by omega
   obtain ⟨p0,hp0⟩:∃p0,64*k=p0:=⟨_,rfl⟩
   have HP0:Hid (64*k=p0):=hp0
   rw [hp0] at e1 HWin hblk ⊢
   obtain ⟨p1,hp1'⟩:∃p1,p0+64=p1:=⟨_,rfl⟩
   rw [hp1'] at e1 HWin
   have hp1:p0<64*TB:=by omega
   have hp2:p0≤200000:=by omega
   have hp3:p1≤200000:=by omega
   clear hp0 hp1'
   go_wp2_with (refine Zvt rfl 28 _ _ _ rfl (.slice aP (64*TB) cP) (.int .i64 (p0:Int)) (.int .i64 (p1:Int)) _ rfl rfl rfl (HWin.out _) ?_)
   refine hblk.mono ?_
   rintro e w6 ⟨v6,rfl,own6,q6⟩
   obtain ⟨a6,c6,rfl,row6⟩:=ZaF own6
   have HB6:Hid (Below w3.heap.size w3 w6):=HB.out.trans (q6.mono sB)
   clear own6 q6 e1
   go_wp2
   go_roundw
   case rel=>exact ⟨k+1,a6,c6,by omega,by have:=HP0.out;go_num,rfl,row6,HB6⟩
   case measure=>have:=HP0.out;simp [intOf];omega
  ·obtain rfl:k=TB:=by omega
   have rS:=HR.out
   obtain ⟨st,hst⟩:∃st,Zan K S pl k=st:=⟨_,rfl⟩
   rw [hst] at rS HOKk HSU
   clear hst
   obtain ⟨wL,hwL⟩:∃x,x=wr:=⟨_,rfl⟩
   subst hwL
   obtain ⟨bS,oS,rfl,hbS,hcS⟩:=rS.hcell (by decide)
   have HCS:Hid (∀i,i<8→wL.cell? ⟨bS,oS+i,none⟩=some (.int .i64 ((nI st.list)[i]?.getD 0))):=hcS
   clear hcS rS HR
   have HBL:=HB
   clear HB
   have HF:Hid (st.bytes.take (4*8)=st.bytes):=rfl
   have hp64:∃p,64*k=p:=⟨_,rfl⟩
   obtain ⟨p64,h64⟩:=hp64
   rw [h64]
   have h64l:p64≤200000:=by omega
   clear h64
   go_wp2
   go_loopw [7,8] (fun v y wr=>∃i:Nat,i≤8∧y= .int .i64 (i:Int)∧Hid (wr.ownsRow wL.heap.size 5 1 v (4*i) ((nI (st.bytes.take (4*i))).map (Value.int .u8)))∧Hid (Below wL.heap.size wL wr)) (fun _ y _=>8 - (intOf y).toNat)
   case atStart=>exact ⟨0,by omega,rfl,World.ownsRow_nil _ _ _ _,Below.refl _ _⟩
   case round=>
    obtain ⟨i,hi,rfl,HO,HB⟩:=hrel
    by_cases hlt8:i<8
    ·have HXX:Hid (∀w',Below wL.heap.size wL w'→w'.cell? ⟨bS,oS+i,none⟩=some (.int .i64 ((st.list[i]?.getD 0:Nat):Int))):=fun w' hw'=>by
      rw [hw'.cell (by exact hbS),HCS.out i hlt8,Za2]
     have lS:=Zi5 HOKk.out i
     have HG:Hid (∀j,j<4→st.bytes.take (4*i+j+1)=st.bytes.take (4*i+j)++ [st.list[i]?.getD 0/2^(8*(3 - j))%256]):=fun j hj=>by
      rw [ZcY _ _ (by rw [ZfY];omega),Zvu st i j hlt8 hj]
     generalize st.list[i]?.getD 0=xs at*
     have hii:(i:Int)<8:=by omega
     obtain ⟨i4,hi4⟩:∃i4,4*i=i4:=⟨_,rfl⟩
     have HI4:Hid (4*i=i4):=hi4
     rw [hi4] at HO HG
     have hi4l:i4≤32:=by omega
     clear hi4
     go_wp2
     go_loopw [7,9] (fun v y ws=>∃j:Nat,j≤4∧y= .int .i64 (3 - (j:Int))∧Hid (ws.ownsRow wL.heap.size 5 1 v (i4+j) ((nI (st.bytes.take (i4+j))).map (Value.int .u8)))∧Hid (Below wL.heap.size wL ws)) (fun _ y _=>(intOf y+1).toNat)
     case atStart=>exact ⟨0,by omega,rfl,HO,HB⟩
     case round=>
      clear HO HB
      obtain ⟨j,hj,rfl,HO,HB⟩:=hrel
      have hown:=HO.out
      have hbel:=HB.out
      have hs3:=hbel.size
      by_cases h4:j<4
      ·have HT0:=HG.out j h4
       have HT:Hid (st.bytes.take (i4+j+1)=st.bytes.take (i4+j)++ [xs/2^(8*(3 - j))%256]):=HT0
       clear HT0
       have hp:=fun w=>Zdl (8*(3 - j)) w (by omega)
       have hpp:0<2^(8*(3 - j)):=Nat.two_pow_pos _
       have em:(8:Int)*(3 - (j:Int))=((8*(3 - j):Nat):Int):=by omega
       have hpel:8*(3 - j)≤24:=by omega
       generalize 2^(8*(3 - j))=p at*
       generalize 8*(3 - j)=pe at*
       have hd:(xs:Int).tdiv (p:Int)=((xs/p:Nat):Int):=(Int.ofNat_tdiv xs p).symm
       have hd2:(xs:Int)/(p:Int)=((xs/p:Nat):Int):=by simp
       have hdl:xs/p≤xs:=Nat.div_le_self _ _
       have hp0:¬(p:Int)=0:=by omega
       have hp0n:¬p=0:=by omega
       generalize xs/p=d at*
       have hwd:IntKind.i64.wrap (d:Int)=(d:Int):=by rw [IntKind.wrap_i64];omega
       obtain ⟨nx,hnx⟩:∃nx,d%256=nx:=⟨_,rfl⟩
       rw [hnx] at HT
       have HNX:Hid (d%256=nx):=hnx
       have hnl:nx<256:=by rw [←hnx];exact Nat.mod_lt _ (by decide)
       clear hnx
       have hj3:(0:Int)≤3 - (j:Int):=by omega
       go_wp2_with fail
       have hS:Below wL.heap.size wL wr.drew:=hbel.drew
       have ownd:wr.drew.ownsRow wL.heap.size 5 1 u7 (i4+j) ((nI (st.bytes.take (i4+j))).map (Value.int .u8)):=hown
       have hs2:wL.heap.size≤wr.drew.heap.size:=hs3
       refine ZdP (fun w'=>Below wL.heap.size wL w') (by kernel_rfl) ?_
       refine Zaz (rs:=[0,1,2,3,4,5,6]) (fuel:=7) (by kernel_rfl) (fun c d v a w h=>by cases d<;>exact h) (by kernel_rfl) hS (fun K' hK'=> ?_)
       refine Zah _ rfl (by rfl) rfl ?_
       go_simp
       refine Zah _ rfl (by rfl) rfl ?_
       go_simp
       refine Zah _ rfl (by rfl) rfl ?_
       go_simp
       refine Zad (.pointer (some ⟨bS,oS+i,none⟩)) rfl (by rfl) (fun w' hw'=> ?_) ?_
       ·go_simp
       go_simp
       refine Zad (.int .i64 (xs:Int)) rfl (by rfl) (fun w' hw'=> ?_) ?_
       ·have x0:=HXX.out w' hw'
        go_simp
       go_simp
       refine Zah _ rfl (by rfl) rfl ?_
       go_simp
       refine Zad (.int .i64 (pe:Int)) rfl (by rfl) (fun w' hw'=> ?_) ?_
       ·go_simp
        all_goals (first|omega|(rw [IntKind.wrap_i64];omega))
       go_simp
       refine Zac (hK'.out _ ?_)
       clear hK' K'
       refine Zbt (i:=7) (fuel:=6) (by kernel_rfl) rfl (by rfl) (fun K' hK'=> ?_)
       go_simp
       refine (hp _).mono ?_
       rintro e wx ⟨rfl,rfl⟩
       refine hK' _ _ hS ?_
       clear hK' K'
       refine Zaz (rs:=[8,9,10]) (fuel:=3) (by kernel_rfl) (fun c d v a w h=>by cases d<;>exact h) (by kernel_rfl) hS (fun K' hK'=> ?_)
       go_simp
       refine Zad (.int .i64 (d:Int)) rfl (by rfl) (fun w' hw'=> ?_) ?_
       ·go_simp
        all_goals (first|exact hd|exact hd2|(rw [hd,IntKind.wrap_i64];omega)|(rw [hd2,IntKind.wrap_i64];omega)|(rw [hd2];omega)|rw [if_neg hp0n,hwd]|skip)
       go_simp
       refine Zad (.int .i64 (nx:Int)) rfl (by rfl) (fun w' hw'=> ?_) ?_
       ·go_simp
        all_goals (rw [Int.tmod_eq_emod_of_nonneg (by omega), ←HNX.out];omega)
       go_simp
       refine Zad (.int .u8 (nx:Int)) rfl (by rfl) (fun w' hw'=> ?_) ?_
       ·go_simp
        all_goals (first|omega|(rw [IntKind.wrap_u8];omega))
       go_simp
       refine Zac (hK'.out _ ?_)
       clear hK' K'
       refine Zbt (i:=11) (fuel:=2) (by kernel_rfl) rfl (by rfl) (fun K' hK'=> ?_)
       have hS2:Below wL.heap.size wL (wr.drew.alloc (.cells #[.int .u8 (nx:Int)] 5)):=hS.alloc hs2 _
       go_simp
       refine hK' _ _ hS2 ?_
       clear hK' K'
       refine Zbt (i:=12) (fuel:=1) (by kernel_rfl) rfl (by rfl) (fun K' hK'=> ?_)
       refine wp_append_own _ (.tmp 36) (.tmp 47) 28 rfl wL.heap.size 5 i0 (.int .u8 0) 1 1 Tryz.underlying28 hi0 hz0 hz1 hz2 rfl (by decide) _ _ _ rfl (ownd.alloc _) ⟨wr.heap.size,0,none⟩ 1 1 [.int .u8 (nx:Int)] rfl rfl (cell_one_new wr.drew _ _) (by intro u hu;simp at hu;subst hu;rfl) (by unfold maxLen;omega) (by omega) (by simp;omega) ?_
       intro v' w9 hown' hgrow _
       have R:=Zb5 (w:=wL) hs2 ownd hS hown' hgrow
       rw [←Zch, ←HT.out] at R
       clear hown' hgrow
       refine hK' _ _ R.2 ?_
       clear hK' K'
       refine Zaz (rs:=[13]) (fuel:=0) (by kernel_rfl) (fun c d v a w h=>by cases d<;>exact h) (by kernel_rfl) R.2 (fun K' hK'=> ?_)
       go_simp
       refine ZaB _ rfl (by rfl) rfl ?_
       go_simp
       refine Zac (hK'.out _ ?_)
       clear hK' K'
       refine wpAnyH_done (by kernel_rfl) ?_ _
       go_wp2
       go_roundw
       case rel=>exact ⟨j+1,by omega,by go_num,R.1,R.2⟩
       case measure=>simp [intOf];omega
      ·obtain rfl:j=4:=by omega
       have HI5:Hid (i4+4=4*(i+1)):=by show _=_;have:=HI4.out;omega
       rw [HI5.out] at HO
       go_wp2
       go_roundw
       case rel=>exact ⟨i+1,by omega,by go_num,HO,HB⟩
       case measure=>simp [intOf];omega
    ·obtain rfl:i=8:=by omega
     have hown:=HO.out
     rw [HF.out,HSU.out] at hown
     have sL:=HBL.out.size
     go_wp2
     go_ret
     exact ⟨_,rfl,ZdN hown (by omega),q03.trans ((HBL.out.trans (HB.out.mono sL)).mono s03)⟩
theorem Zvw (z:List Nat) (a:Option Addr) (len cap:Nat) (w:World) (hr:Row .u8 w a len cap (nI z)) (hz:∀x∈z,x<256) (hl:len≤100000):
  Calls Tryz.prog 28 #[.slice a len cap] w fun e w'=>∃v,e= .returned v∧w'.ownsRow w.heap.size 5 1 v 32 ((nI (sumL KL S0 z)).map (Value.int .u8))∧Below w.heap.size w w':=
 Zvv KL S0 ZeS ZeT Znk (fun w=>by rw [ZfN];exact Znj w) z a len cap w hr hz hl
end Go.Proofs.YtcaloldcihpkfaaGreatDoor
