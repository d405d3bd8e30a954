/-
 The document's answer of layer 21 (casemateref21): May, Place, Same.
-/
import Derived.Test.YtcaloldcihpkfaaGreatDoorCPackKa
import Derived.Test.YtcaloldcihpkfaaGreatDoorCPackMr
namespace Go.Proofs.YtcaloldcihpkfaaGreatDoor.N
open Go.RowKit
set_option linter.unusedVariables false
set_option maxRecDepth 8192

theorem Zwq {l:List Ky}:∀ {k:Nat},ZbU l k=true→ -1≤Zda l k
 | 0,_=>Int.le_refl _
 | k+1,h=>by
  rw [ZkR,Bool.and_eq_true] at h
  have h1:=of_decide_eq_true h.2
  have:=Zwq h.1
  show -1≤(kyI l k).num
  omega
set_option maxHeartbeats 1600000 in
theorem Zwz {a:Option Addr} {n cap:Nat} {l:List Ky} {w:World} (hr:KRow w a n cap l):Calls Tryz.prog 56 #[.slice a n cap] w fun e w'=>e= .returned (.bool (mayK l))∧w=w':=by
 have hm:=hr.hmax
 have hc:=hr.hcap
 unfold maxLen at hm
 have HM:Hid (mayK l=(decide (n≤8)&&ZbU l n)):=by show _=_;unfold mayK;rw [hr.hlen]
 go_enter Tryz.func56,Tryz.ntmps56
 go_wp2
 go_loop [3] (fun i=>∃k:Nat,k≤n∧i= .int .i64 (k:Int)∧Hid (ZbU l k=true)) (fun i=>n - (RowKit.intOf i).toNat)
 case atStart=>exact ⟨0,Nat.zero_le _,rfl,rfl⟩
 case round=>
  obtain ⟨k,hk,rfl,HO⟩:=hrel
  by_cases hlt:k<n
  ·obtain ⟨b,off,rfl,hbs,hcell⟩:=hr.hcell (by omega)
   have c0:=Zic (hcell k hlt)
   have HS:Hid (ZbU l (k+1)=decide (Zda l k<(kyI l k).num∧(kyI l k).num≤2147483647)):=by
    show _=_
    rw [ZkR,HO.out,Bool.true_and]
    rfl
   have HF:Hid (ZbU l (k+1)=false→mayK l=false):=fun h=>by
    rw [ZkR,HO.out,Bool.true_and] at h
    rw [HM.out,Zqy h hlt,Bool.and_false]
   have hla:=Zwq HO.out
   have hlt':(k:Int)<(n:Int):=by omega
   rcases Nat.eq_zero_or_pos k with rfl|hpos
   ·have e0:Zda l 0= -1:=rfl
    rw [e0] at HS
    rw [Nat.zero_mul,Nat.add_zero] at c0
    clear hcell hla e0
    generalize (kyI l 0).num=x at*
    by_cases h1:x<0
    ·have HN:Hid (mayK l=false):=HF.out (by rw [HS.out,decide_eq_false_iff_not];omega)
     clear HS HF
     go_wp2_with fail
     go_ret
     exact ⟨ZaC HN.out.symm,rfl⟩
    by_cases h2:2147483647<x
    ·have HN:Hid (mayK l=false):=HF.out (by rw [HS.out,decide_eq_false_iff_not];omega)
     clear HS HF
     go_wp2_with fail
     go_ret
     exact ⟨ZaC HN.out.symm,rfl⟩
    have HN:Hid (ZbU l (0+1)=true):=by show _=_;rw [HS.out];exact decide_eq_true (by omega)
    clear HS HF
    go_wp2_with fail
    go_round
    case rel=>exact ⟨0+1,by omega,by go_num,HN⟩
    case measure=>simp [RowKit.intOf];omega
   ·obtain ⟨j,rfl⟩:∃j,k=j+1:=⟨k - 1,by omega⟩
    have c1:=Zic (hcell j (by omega))
    have e0:Zda l (j+1)=(kyI l j).num:=rfl
    rw [e0] at HS hla
    have ej:((j+1:Nat):Int) - 1=(j:Int):=by omega
    have hjn:(j:Int)<(n:Int):=by omega
    clear hcell e0
    generalize (kyI l (j+1)).num=x at*
    generalize (kyI l j).num=y at*
    by_cases h1:x<0
    ·have HN:Hid (mayK l=false):=HF.out (by rw [HS.out,decide_eq_false_iff_not];omega)
     clear HS HF
     go_wp2_with fail
     go_ret
     exact ⟨ZaC HN.out.symm,rfl⟩
    by_cases h2:2147483647<x
    ·have HN:Hid (mayK l=false):=HF.out (by rw [HS.out,decide_eq_false_iff_not];omega)
     clear HS HF
     go_wp2_with fail
     go_ret
     exact ⟨ZaC HN.out.symm,rfl⟩
    by_cases h3:x≤y
    ·have HN:Hid (mayK l=false):=HF.out (by rw [HS.out,decide_eq_false_iff_not];omega)
     clear HS HF
     go_wp2_with fail
     go_ret
     exact ⟨ZaC HN.out.symm,rfl⟩
    have HN:Hid (ZbU l (j+1+1)=true):=by show _=_;rw [HS.out];exact decide_eq_true (by omega)
    clear HS HF
    go_wp2_with fail
    go_round
    case rel=>exact ⟨j+1+1,by omega,by go_num,HN⟩
    case measure=>simp [RowKit.intOf];omega
  ·obtain rfl:k=n:=by omega
   by_cases h8:k≤8
   ·have HN:Hid (mayK l=true):=by show _=_;rw [HM.out,HO.out,decide_eq_true h8];rfl
    have h8':(k:Int)≤8:=by omega
    go_wp2_with fail
    go_ret
    exact ⟨ZaC HN.out.symm,rfl⟩
   ·have HN:Hid (mayK l=false):=by show _=_;rw [HM.out,decide_eq_false h8];rfl
    have h8':¬(k:Int)≤8:=by omega
    go_wp2_with fail
    go_ret
    exact ⟨ZaC HN.out.symm,rfl⟩
def plI (l:List Ky) (x:Int):Int:=match Zbv l x with|some i=>(i:Int)|none=> -1
theorem ZwA {l:List Ky} {x:Int} {k:Nat} (hk:k<l.length) (h:∀i,i<k→(kyI l i).num≠x) (hx:(kyI l k).num=x):Zbv l x=some k:=by
 cases hp:Zbv l x with
 | none=>exact absurd hx (Zqz hp hk)
 | some j=>
  have h1:=Zgp hp
  congr 1
  rcases Nat.lt_or_ge j k with h2|h2
  ·exact absurd h1.2 (h j h2)
  ·rcases Nat.lt_or_ge k j with h3|h3
   ·have h4:=(List.find?_range_eq_some.1 hp).2.2 k h3
    simp [hx] at h4
   ·omega
theorem ZwB {l:List Ky} {x:Int} (h:∀i,i<l.length→(kyI l i).num≠x):Zbv l x=none:=by
 cases hp:Zbv l x with
 | none=>rfl
 | some j=>exact absurd (Zgp hp).2 (h j (Zgp hp).1)
theorem ZwC {a:Option Addr} {n cap:Nat} {l:List Ky} {x:Int} {w:World} (hr:KRow w a n cap l):Calls Tryz.prog 57 #[.slice a n cap, .int .i64 x] w fun e w'=>e= .returned (.int .i64 (plI l x))∧w=w':=by
 have hm:=hr.hmax
 have hc:=hr.hcap
 unfold maxLen at hm
 have HL:Hid (l.length=n):=hr.hlen
 go_enter Tryz.func57,Tryz.ntmps57
 go_wp2
 go_loop [5] (fun i=>∃k:Nat,k≤n∧i= .int .i64 (k:Int)∧Hid (∀i,i<k→(kyI l i).num≠x)) (fun i=>n - (RowKit.intOf i).toNat)
 case atStart=>exact ⟨0,Nat.zero_le _,rfl,fun i hi=>absurd hi (Nat.not_lt_zero _)⟩
 case round=>
  obtain ⟨k,hk,rfl,HO⟩:=hrel
  by_cases hlt:k<n
  ·obtain ⟨b,off,rfl,hbs,hcell⟩:=hr.hcell (by omega)
   have c0:=Zic (hcell k hlt)
   have hlt':(k:Int)<(n:Int):=by omega
   have HY:Hid ((kyI l k).num=x→plI l x=(k:Int)):=fun h=>by unfold plI;rw [ZwA (by rw [HL.out];exact hlt) HO.out h]
   have HN:Hid ((kyI l k).num≠x→∀i,i<k+1→(kyI l i).num≠x):=fun h i hi=>by
    rcases Nat.lt_or_ge i k with h1|h1
    ·exact HO.out i h1
    ·obtain rfl:i=k:=by omega
     exact h
   clear hcell
   generalize (kyI l k).num=y at*
   by_cases hy:y=x
   ·have HZ:Hid (plI l x=(k:Int)):=HY.out hy
    subst hy
    clear HY HN
    go_wp2_with fail
    go_ret
    exact ⟨Zbo HZ.out.symm,rfl⟩
   ·have HZ:Hid (∀i,i<k+1→(kyI l i).num≠x):=HN.out hy
    clear HY HN
    go_wp2_with fail
    go_round
    case rel=>exact ⟨k+1,by omega,by go_num,HZ⟩
    case measure=>simp [RowKit.intOf];omega
  ·obtain rfl:k=n:=by omega
   have HZ:Hid (plI l x= -1):=by show _=_;unfold plI;rw [ZwB (by rw [HL.out];exact HO.out)]
   go_wp2_with fail
   go_ret
   exact ⟨Zbo HZ.out.symm,rfl⟩
end Go.Proofs.YtcaloldcihpkfaaGreatDoor.N

/-
 The document's answer of layer 21 (casemateref21): Bytes.
-/
namespace Go.Proofs.YtcaloldcihpkfaaGreatDoor.N
open Go.RowKit
set_option linter.unusedVariables false
set_option maxRecDepth 8192

end Go.Proofs.YtcaloldcihpkfaaGreatDoor.N

/-
 The document's answer of layer 21 (casemateref21): Parse.
-/
namespace Go.Proofs.YtcaloldcihpkfaaGreatDoor.N
open Go.RowKit
set_option linter.unusedVariables false
set_option maxRecDepth 8192

end Go.Proofs.YtcaloldcihpkfaaGreatDoor.N

/-
 Layer 21: '==' of 32 bytes that are the same; a ring's rows in worlds that come of one.
-/
namespace Go.Proofs.YtcaloldcihpkfaaGreatDoor.N
open Go.RowKit
set_option linter.unusedVariables false
set_option maxRecDepth 8192

theorem ZwD {a:Act} {o:Oper} {w:World} {d:List Int} (hl:d.length=32) (x:Operand) (ho:o.op= .load 22 x) (b off:Nat) (hx:a.eval x= .pointer (some ⟨b,off,none⟩)) (hc:w.rangeAt b off (dC d)):(execOp a.eval o).run Tryz.prog w= .ok (.value (.agg (dA d))) w:=by
 unfold execOp
 simp only [ho,hx,Instr.loadAt,Instr.sureAddr,Sem.run_bind,Sem.run_pure,Result.andThen_ok,run_loadVar_mid w b off 22 (dC d) _ hc Tryz.underlying22 rfl (by rw [Zd1 hl];exact Tryz.szDg)]
 rfl
end Go.Proofs.YtcaloldcihpkfaaGreatDoor.N
