/-
 The code of layer 14 (sha512), as it landed: step, square, squareTop, cubeTop, root, RotateLeft64, rotr.
-/
import Derived.Test.YtcaloldcihpkfaaGreatDoorMPackSc
import Derived.Test.YtcaloldcihpkfaaGreatDoorMPackSa
import Derived.Laws.Externs
import Derived.Test.YtcaloldcihpkfaaGreatDoorMPackSb
namespace Go.Proofs.YtcaloldcihpkfaaGreatDoor.B
open Go.RowKit
set_option linter.unusedVariables false
set_option maxRecDepth 8192

theorem ZgZ {k1 k2:IntKind} {a b c d:Int} (h1:a=b) (h2:c=d):Ending.returned (.tuple #[.int k1 a, .int k2 c])= .returned (.tuple #[.int k1 b, .int k2 d]):=by rw [h1,h2]
theorem Znt {k1 k2 k3:IntKind} {a b c d x y:Int} (h1:a=b) (h2:c=d) (h3:x=y):Ending.returned (.tuple #[.int k1 a, .int k2 c, .int k3 x])= .returned (.tuple #[.int k1 b, .int k2 d, .int k3 y]):=by rw [h1,h2,h3]
theorem Zg0 (x y s o:Nat):stLo x y s o<18446744073709551616:=Nat.mod_lt _ (by decide)
theorem Zg1 {x y s o:Nat} (hy:y<18446744073709551616) (h:s+o<18446744073709551616+x):stHi x y s o≤x:=by
 unfold stHi
 have h1:x*y≤x*18446744073709551615:=Nat.mul_le_mul_left _ (by omega)
 omega
theorem Znu {x y s o:Nat} (hx:x<18446744073709551616) (hs:s<18446744073709551616) (ho:o<18446744073709551616):stHi x y s o≤y+1:=by
 unfold stHi
 have h1:x*y≤18446744073709551615*y:=Nat.mul_le_mul_right _ (by omega)
 omega
theorem Zg2 {x y s o:Nat} (hx:x<18446744073709551616) (hy:y<18446744073709551616) (hs:s<18446744073709551616) (ho:o<18446744073709551616):stHi x y s o<18446744073709551616:=by
 unfold stHi
 have h1:x*y≤18446744073709551615*18446744073709551615:=Nat.mul_le_mul (by omega) (by omega)
 generalize x*y=m at*
 omega
theorem Znv {u p:Nat} (hp:p<18446744073709551616):sqT u p≤u*u+2*u:=by
 unfold sqT
 have h1:p*p/18446744073709551616<18446744073709551616:=by
  rw [Nat.div_lt_iff_lt_mul (by decide)]
  exact Nat.mul_lt_mul_of_lt_of_lt hp hp
 have:=Zg1 (x:=2*u) (y:=p) (s:=p*p/18446744073709551616) (o:=0) hp (by omega)
 omega
theorem Znw (u p:Nat):sqM u p<18446744073709551616:=Zg0 _ _ _ _
theorem Znx (p:Nat):sqL p<18446744073709551616:=Nat.mod_lt _ (by decide)
theorem Ze3 (x y:Nat) (w:World):(callFunc 209 #[.int .u64 (x:Int), .int .u64 (y:Int), .int .u64 0]).run Tryz.prog w=
  .ok (.value (.tuple #[.int .u64 (((x+y)%18446744073709551616:Nat):Int), .int .u64 (((x+y)/18446744073709551616:Nat):Int)])) w:=by
 rw [run_callFunc_extern Tryz.func209 (by kernel_rfl) (by kernel_rfl) (by kernel_rfl) (e:=add64Entry) (by kernel_rfl),run_add64 x y 0 (by omega) (by omega) (by decide) (by decide)]
 simp only [Result.andThen]
 congr 5<;>omega
theorem Zg3 (x y s o:Nat) (hx:x<18446744073709551616) (hy:y<18446744073709551616) (hs:s<18446744073709551616) (ho:o<18446744073709551616) (hi lo c1 c2 l1 l2:Nat)
  (h1:x*y/18446744073709551616=hi) (h2:x*y%18446744073709551616=lo) (h3:(lo+s)%18446744073709551616=l1) (h4:(lo+s)/18446744073709551616=c1) (h5:(l1+o)%18446744073709551616=l2) (h6:(l1+o)/18446744073709551616=c2):
  l2=stLo x y s o∧hi+c1+c2=stHi x y s o∧hi+c1+c2<18446744073709551616:=by
 have hxy:x*y≤18446744073709551615*18446744073709551615:=Nat.mul_le_mul (by omega) (by omega)
 unfold stLo stHi
 generalize x*y=m at*
 omega
set_option maxHeartbeats 1600000 in
theorem Zc2 (x y s o:Nat) (w:World) (hx:x<18446744073709551616) (hy:y<18446744073709551616) (hs:s<18446744073709551616) (ho:o<18446744073709551616):
  Calls Tryz.prog 194 #[.int .u64 (x:Int), .int .u64 (y:Int), .int .u64 (s:Int), .int .u64 (o:Int)] w fun e w'=>e= .returned (.tuple #[.int .u64 ((stLo x y s o:Nat):Int), .int .u64 ((stHi x y s o:Nat):Int)])∧w=w':=by
 obtain ⟨hi,h1⟩:∃a,x*y/18446744073709551616=a:=⟨_,rfl⟩
 obtain ⟨lo,h2⟩:∃a,x*y%18446744073709551616=a:=⟨_,rfl⟩
 obtain ⟨l1,h3⟩:∃a,(lo+s)%18446744073709551616=a:=⟨_,rfl⟩
 obtain ⟨c1,h4⟩:∃a,(lo+s)/18446744073709551616=a:=⟨_,rfl⟩
 obtain ⟨l2,h5⟩:∃a,(l1+o)%18446744073709551616=a:=⟨_,rfl⟩
 obtain ⟨c2,h6⟩:∃a,(l1+o)/18446744073709551616=a:=⟨_,rfl⟩
 obtain ⟨r1,r2,r3⟩:=Zg3 x y s o hx hy hs ho hi lo c1 c2 l1 l2 h1 h2 h3 h4 h5 h6
 have hm:=Zdk x y hx hy w
 rw [h1,h2] at hm
 have a1:=fun w=>Ze3 lo s w
 rw [h3,h4] at a1
 have a2:=fun w=>Ze3 l1 o w
 rw [h5,h6] at a2
 have R1:Hid (l2=stLo x y s o):=r1
 have R2:Hid (hi+c1+c2=stHi x y s o):=r2
 clear h1 h2 h3 h4 h5 h6 r1 r2
 go_enter Tryz.func194,Tryz.ntmps194
 go_wp2_with fail
 refine hm.mono ?_
 rintro e w' ⟨rfl,rfl⟩
 clear hm
 go_wp2_with (first|rw [a1 _]|rw [a2 _])
 go_ret2
 exact ⟨ZgZ (by rw [R1.out]) (by rw [←R2.out];go_num),rfl⟩
set_option maxHeartbeats 1600000 in
theorem Zjv (u p:Nat) (w:World) (hu:u≤30) (hp:p<18446744073709551616):
  Calls Tryz.prog 193 #[.int .u64 (u:Int), .int .u64 (p:Int)] w fun e w'=>e= .returned (.tuple #[.int .u64 ((sqT u p:Nat):Int), .int .u64 ((sqM u p:Nat):Int), .int .u64 ((sqL p:Nat):Int)])∧w=w':=by
 have hpp:p*p/18446744073709551616<18446744073709551616:=by
  rw [Nat.div_lt_iff_lt_mul (by decide)]
  exact Nat.mul_lt_mul_of_lt_of_lt hp hp
 have hm:=Zdk p p hp hp w
 have hst:=fun w=>Zc2 (2*u) p (p*p/18446744073709551616) 0 w (by omega) hp hpp (by decide)
 have hov:=Zg1 (x:=2*u) (y:=p) (s:=p*p/18446744073709551616) (o:=0) hp (by omega)
 have huu:u*u≤30*30:=Nat.mul_le_mul hu hu
 have HT:Hid (u*u+stHi (2*u) p (p*p/18446744073709551616) 0=sqT u p):=rfl
 have HM:Hid (stLo (2*u) p (p*p/18446744073709551616) 0=sqM u p):=rfl
 have HL:Hid (p*p%18446744073709551616=sqL p):=rfl
 generalize sqT u p=rT at*
 generalize sqM u p=rM at*
 generalize sqL p=rL at*
 generalize stHi (2*u) p (p*p/18446744073709551616) 0=ov at*
 generalize stLo (2*u) p (p*p/18446744073709551616) 0=mid at*
 generalize p*p/18446744073709551616=hi at*
 generalize p*p%18446744073709551616=lo at*
 obtain ⟨u2,h2⟩:∃d,2*u=d:=⟨_,rfl⟩
 rw [h2] at hst hov
 have e2:(2:Int)*(u:Int)=(u2:Int):=by omega
 have hu2:u2≤60:=by omega
 have e3:(u:Int)*(u:Int)=((u*u:Nat):Int):=(Int.natCast_mul u u).symm
 generalize u*u=uu at*
 clear h2
 go_enter Tryz.func193,Tryz.ntmps193
 go_wp2_with fail
 refine hm.mono ?_
 rintro e w' ⟨rfl,rfl⟩
 clear hm
 go_wp2_with fail
 refine (hst _).mono ?_
 rintro e w' ⟨rfl,rfl⟩
 clear hst
 go_wp2
 go_ret3
 exact ⟨Znt (by rw [←HT.out];go_num) (by rw [←HM.out]) (by rw [←HL.out]),rfl⟩
theorem ZgS (u p:Nat) (w:World) (hu:u≤30) (hp:p<18446744073709551616):
  Calls Tryz.prog 164 #[.int .u64 (u:Int), .int .u64 (p:Int)] w fun e w'=>e= .returned (.int .u64 ((sqT u p:Nat):Int))∧w=w':=by
 have h:=Zjv u p w hu hp
 generalize sqT u p=rT at*
 generalize sqM u p=rM at*
 generalize sqL p=rL at*
 go_enter Tryz.func164,Tryz.ntmps164
 go_wp2_with fail
 refine h.mono ?_
 rintro e w' ⟨rfl,rfl⟩
 go_wp2
 go_ret
 exact ⟨rfl,rfl⟩
set_option maxHeartbeats 1600000 in
theorem ZgT (u p:Nat) (w:World) (hu:u≤30) (hp:p<18446744073709551616):
  Calls Tryz.prog 163 #[.int .u64 (u:Int), .int .u64 (p:Int)] w fun e w'=>e= .returned (.int .u64 ((cbT u p:Nat):Int))∧w=w':=by
 have hu64:u<18446744073709551616:=by omega
 have h:=Zjv u p w hu hp
 have huu:u*u≤30*30:=Nat.mul_le_mul hu hu
 have bT:sqT u p≤960:=by have:=Znv (u:=u) hp;omega
 have bM:=Znw u p
 have bL:=Znx p
 have bTu:sqT u p*u≤960*30:=Nat.mul_le_mul bT hu
 have k1:=fun w=>Zc2 (sqL p) p 0 0 w bL hp (by decide) (by decide)
 have b1:cb1 u p<18446744073709551616:=Zg2 bL hp (by decide) (by decide)
 have k2:=fun w=>Zc2 (sqM u p) p 0 (cb1 u p) w bM hp (by decide) b1
 have b2:cb2 u p<18446744073709551616:=Zg2 bM hp (by decide) b1
 have k3:=fun w=>Zc2 (sqT u p) p 0 (cb2 u p) w (by omega) hp (by decide) b2
 have b3:cb3 u p≤sqT u p:=Zg1 hp (by omega)
 have bF:cbF u p<18446744073709551616:=Zg0 _ _ _ _
 have bS:cbS u p<18446744073709551616:=Zg0 _ _ _ _
 have k4:=fun w=>Zc2 (sqL p) u (cbF u p) 0 w bL hu64 bF (by decide)
 have b4:cb4 u p<18446744073709551616:=Zg2 bL hu64 bF (by decide)
 have k5:=fun w=>Zc2 (sqM u p) u (cbS u p) (cb4 u p) w bM hu64 bS b4
 have b5:cb5 u p≤u+1:=Znu bM bS b4
 have HC:Hid (cb3 u p+sqT u p*u+cb5 u p=cbT u p):=rfl
 rw [show stHi (sqL p) p 0 0=cb1 u p from rfl] at k1
 rw [show stHi (sqM u p) p 0 (cb1 u p)=cb2 u p from rfl,show stLo (sqM u p) p 0 (cb1 u p)=cbF u p from rfl] at k2
 rw [show stHi (sqT u p) p 0 (cb2 u p)=cb3 u p from rfl,show stLo (sqT u p) p 0 (cb2 u p)=cbS u p from rfl] at k3
 rw [show stHi (sqL p) u (cbF u p) 0=cb4 u p from rfl] at k4
 rw [show stHi (sqM u p) u (cbS u p) (cb4 u p)=cb5 u p from rfl] at k5
 generalize stLo (sqL p) p 0 0=l1 at*
 generalize stLo (sqL p) u (cbF u p) 0=l4 at*
 generalize stLo (sqM u p) u (cbS u p) (cb4 u p)=l5 at*
 generalize cbT u p=rC at*
 generalize cb1 u p=c1 at*
 generalize cb2 u p=c2 at*
 generalize cb3 u p=c3 at*
 generalize cb4 u p=c4 at*
 generalize cb5 u p=c5 at*
 generalize cbF u p=cF at*
 generalize cbS u p=cS at*
 generalize sqT u p=rT at*
 generalize sqM u p=rM at*
 generalize sqL p=rL at*
 have e3:(rT:Int)*(u:Int)=((rT*u:Nat):Int):=(Int.natCast_mul rT u).symm
 generalize rT*u=ru at*
 clear huu
 go_enter Tryz.func163,Tryz.ntmps163
 go_wp2_with fail
 refine h.mono ?_
 rintro e w' ⟨rfl,rfl⟩
 clear h
 go_wp2_with fail
 refine (k1 _).mono ?_
 rintro e w' ⟨rfl,rfl⟩
 clear k1
 go_wp2_with fail
 refine (k2 _).mono ?_
 rintro e w' ⟨rfl,rfl⟩
 clear k2
 go_wp2_with fail
 refine (k3 _).mono ?_
 rintro e w' ⟨rfl,rfl⟩
 clear k3
 go_wp2_with fail
 refine (k4 _).mono ?_
 rintro e w' ⟨rfl,rfl⟩
 clear k4
 go_wp2_with fail
 refine (k5 _).mono ?_
 rintro e w' ⟨rfl,rfl⟩
 clear k5
 go_wp2
 go_ret
 exact ⟨Zbo (by rw [←HC.out];go_num),rfl⟩
theorem Zny (k:Nat) (hk:k<64):9223372036854775808/2^k=2^(63 - k):=by
 have:9223372036854775808=2^(63 - k)*2^k:=by rw [←Nat.pow_add,show 63 - k+k=63 from by omega]
 rw [this,Nat.mul_div_cancel _ (Nat.two_pow_pos k)]
set_option maxHeartbeats 1600000 in
theorem Zdm (F:FuncId) (f:Nat→Nat→Nat) (lim u:Nat) (w:World) (hlim:lim<18446744073709551616) (hf:∀(u p:Nat) w,u≤30→p<18446744073709551616→Calls Tryz.prog F #[.int .u64 (u:Int), .int .u64 (p:Int)] w fun e w'=>e= .returned (.int .u64 ((f u p:Nat):Int))∧w=w')
  (hcall:∀args w,Sem.run Tryz.prog (callFunc F args) w= .ok (.enter F args) w) (hu:u≤29) (hw:∀k,k<u→f (k+1) 0<lim) (hw2:¬f (u+1) 0<lim):
  Calls Tryz.prog 162 #[.int .u64 (lim:Int), .func (.func F) #[] #[]] w fun e w'=>e= .returned (.int .u64 ((ptTo f u lim 64:Nat):Int))∧w=w':=by
 have HW:Hid (∀k,k<u→f (k+1) 0<lim):=hw
 have HW2:Hid (¬f (u+1) 0<lim):=hw2
 clear hw hw2
 go_enter Tryz.func162,Tryz.ntmps162
 go_wp2
 go_loop [5] (fun y=>∃k:Nat,k≤u∧y= .int .u64 (k:Int)) (fun y=>u - (intOf y).toNat)
 case atStart=>exact ⟨0,Nat.zero_le _,rfl⟩
 case round=>
  obtain ⟨k,hk,rfl⟩:=hrel
  have hc:=fun w=>hf (k+1) 0 w (by omega) (by decide)
  obtain ⟨k1,hk1⟩:∃x,k+1=x:=⟨_,rfl⟩
  have HK1:Hid (k+1=k1):=hk1
  rw [hk1] at hc
  have e1:(k:Int)+1=(k1:Int):=by omega
  have hk1b:k1≤30:=by omega
  by_cases hlt:k<u
  ·have hfl:f k1 0<lim:=by rw [←hk1];exact HW.out k hlt
   clear hk1
   generalize f k1 0=fr at*
   go_wp2_with fail
   refine (hc _).mono ?_
   rintro e w2 ⟨rfl,rfl⟩
   clear hc
   go_wp2
   go_round
   case rel=>exact ⟨k1,by have:=HK1.out;omega,by go_num⟩
   case measure=>simp [intOf];omega
  ·obtain rfl:k=u:=by omega
   have hfl:¬f k1 0<lim:=by rw [←hk1];exact HW2.out
   clear hk1
   generalize f k1 0=fr at*
   go_wp2_with fail
   refine (hc _).mono ?_
   rintro e w2 ⟨rfl,rfl⟩
   clear hc e1 HW HW2
   go_wp2
   go_loop [6,7] (fun r y=>∃j:Nat,j≤64∧y= .int .u64 ((9223372036854775808/2^j:Nat):Int)∧r= .int .u64 ((ptTo f k lim j:Nat):Int)) (fun _ y=>(intOf y).toNat)
   case atStart=>exact ⟨0,by omega,by simp,rfl⟩
   case round=>
    obtain ⟨j,hj,rfl,rfl⟩:=hrel
    have hlt:=ZfR f k lim j
    have hlt1:=ZfR f k lim (j+1)
    have HH:Hid (9223372036854775808/2^(j+1)=9223372036854775808/2^j/2):=(ZdK _ j).symm
    have hle:9223372036854775808/2^j≤9223372036854775808:=Nat.div_le_self _ _
    by_cases h64:j<64
    ·have hb:=Zny j h64
     have h1:0<2^(63 - j):=Nat.two_pow_pos _
     have HF:Hid (ptTo f k lim (j+1)=bif Nat.blt (f k (ptTo f k lim j|||2^(63 - j))) lim then ptTo f k lim j|||2^(63 - j) else ptTo f k lim j):=rfl
     rw [hb] at HH hle ⊢
     have hor:ptTo f k lim j|||2^(63 - j)<18446744073709551616:=Nat.or_lt_two_pow (n:=64) hlt (Nat.pow_lt_pow_right (by decide) (by omega))
     generalize ptTo f k lim j=r at*
     generalize 2^(63 - j)=bit at*
     have eor:bits .or .u64 (r:Int) (bit:Int)=((r|||bit:Nat):Int):=u64_or_nat r bit (by omega) (by omega)
     generalize r|||bit=rb at*
     go_wp2_with fail
     refine (hf k rb _ (by omega) hor).mono ?_
     rintro e w2 ⟨rfl,rfl⟩
     have hblt:Nat.blt (f k rb) lim=decide (f k rb<lim):=by rw [Bool.eq_iff_iff,Nat.blt_eq,decide_eq_true_iff]
     rw [hblt] at HF
     generalize f k rb=fr2 at*
     clear hblt
     by_cases hfl2:fr2<lim
     ·have hd:decide (fr2<lim)=true:=decide_eq_true hfl2
      rw [hd] at HF
      clear hd
      go_wp2
      go_round
      case rel=>exact ⟨j+1,by omega,by rw [HH.out];go_num,by rw [HF.out];rfl⟩
      case measure=>simp [intOf];omega
     ·have hd:decide (fr2<lim)=false:=decide_eq_false hfl2
      rw [hd] at HF
      clear hd
      go_wp2
      go_round
      case rel=>exact ⟨j+1,by omega,by rw [HH.out];go_num,by rw [HF.out];rfl⟩
      case measure=>simp [intOf];omega
    ·obtain rfl:j=64:=by omega
     have hz:9223372036854775808/2^64=0:=by decide
     rw [hz] at HH hle ⊢
     generalize hr0:ptTo f k lim 64=r at*
     have HR:Hid (ptTo f k lim 64=r):=hr0
     clear hr0
     go_wp2
     go_ret
     exact ⟨Zbo (by rw [HR.out]),rfl⟩
theorem Znz (n:Nat) (h0:0<n) (h1:n<64):bits .and .u64 (IntKind.u64.wrap (-(n:Int))) 63=((64 - n:Nat):Int):=by
 have e:IntKind.u64.wrap (-(n:Int))=((18446744073709551616 - n:Nat):Int):=by rw [IntKind.wrap_u64];omega
 rw [e]
 have h:=bits_and_u64_nat (18446744073709551616 - n) 63 (by omega) (by omega)
 have e2:(18446744073709551616 - n)&&& 63=(18446744073709551616 - n)%64:=Nat.and_two_pow_sub_one_eq_mod _ 6
 rw [e2] at h
 rw [show ((63:Int))=((63:Nat):Int) from rfl,h]
 omega
theorem ZgU (x n:Nat) (w:World) (hx:x<18446744073709551616) (h0:0<n) (h1:n<64):Calls Tryz.prog 210 #[.int .u64 (x:Int), .int .i64 (-(n:Int))] w fun e w'=>e= .returned (.int .u64 (rr x n:Nat))∧w=w':=by
 have ha:=Znz n h0 h1
 go_enter Tryz.func210,Tryz.ntmps210
 go_wp2
 have e1:(x:Int)*2^(64 - n)%18446744073709551616=((x*2^(64 - n)%18446744073709551616:Nat):Int):=by simp
 have e2:(x:Int)/2^(64 - (64 - n))=((x/2^n:Nat):Int):=by rw [show 64 - (64 - n)=n from by omega];simp
 go_ret
 exact ⟨Zbo (by rw [IntKind.wrap_u64,e1,e2,u64_or_nat _ _ (mlt _) (dlt hx),ZgK x n hx (by omega)]),rfl⟩
theorem Zbs (x n:Nat) (w:World) (hx:x<18446744073709551616) (h0:0<n) (h1:n<64):Calls Tryz.prog 196 #[.int .u64 (x:Int), .int .i64 (n:Int)] w fun e w'=>e= .returned (.int .u64 (rr x n:Nat))∧w=w':=by
 go_enter Tryz.func196,Tryz.ntmps196
 go_wp2_with fail
 refine (ZgU x n _ hx h0 h1).mono ?_
 rintro e w' ⟨rfl,rfl⟩
 go_wp2
 go_ret
 exact ⟨rfl,rfl⟩
end Go.Proofs.YtcaloldcihpkfaaGreatDoor.B

/-
 The code of layer 14 (sha512): Start, Rounds.
-/
namespace Go.Proofs.YtcaloldcihpkfaaGreatDoor.B
open Go.RowKit
set_option linter.unusedVariables false
set_option maxRecDepth 8192

theorem Ze4:Tryz.zeroCells155=((nI (List.replicate 80 0)).map (Value.int .u64)).toArray:=by kernel_rfl
theorem Tryz.size157:(Tryz.prog.info? 157).map (·.size)=some 8:=by kernel_rfl
theorem Tryz.size155:(Tryz.prog.info? 155).map (·.size)=some 80:=by kernel_rfl
theorem Zjw (f:Nat→Nat→Nat) (n i:Nat) (h:((prL.take n).all (fun p=>whOk f p (whTo f p 8)))=true) (hn:n≤100) (hi:i<n):
  whTo f (prL[i]?.getD 0) 8≤29∧(∀k,k<whTo f (prL[i]?.getD 0) 8→f (k+1) 0<prL[i]?.getD 0)∧¬f (whTo f (prL[i]?.getD 0) 8+1) 0<prL[i]?.getD 0:=by
 have hm:prL[i]?.getD 0∈prL.take n:=by
  have hl:i<(prL.take n).length:=by rw [List.length_take,ZeQ];omega
  rw [←ZdM n i hi,List.getElem?_eq_getElem hl]
  exact List.getElem_mem hl
 have h1:=List.all_eq_true.1 h _ hm
 unfold whOk at h1
 simp only [Bool.and_eq_true,List.all_eq_true,List.mem_range,Nat.blt_eq,Bool.not_eq_true', ←Bool.not_eq_true] at h1
 exact ⟨by have:=h1.2;omega,h1.1.1,h1.1.2⟩
set_option maxHeartbeats 1600000 in
theorem ZgW (w:World):Calls Tryz.prog 122 #[] w fun e w'=>e= .returned (.agg ((nI SL).map (Value.int .u64)).toArray)∧Below w.heap.size w w':=by
 have HSL:Hid (SL.length=8):=by show _=_;decide+kernel
 go_enter Tryz.func122,Tryz.ntmps122
 go_wp2_with fail
 have A0:=(Arr.new w 157 .u64 (nI (List.replicate 8 0)) _ rfl).alloc (.cells ((nI (List.replicate 8 0)).map (Value.int .u64)).toArray 157)
 have A1:=Arr.new (w.alloc (.cells ((nI (List.replicate 8 0)).map (Value.int .u64)).toArray 157)) 157 .u64 (nI (List.replicate 8 0)) _ rfl
 have hs:(w.alloc (.cells ((nI (List.replicate 8 0)).map (Value.int .u64)).toArray 157)).heap.size=w.heap.size+1:=by simp
 have hs2:((w.alloc (.cells ((nI (List.replicate 8 0)).map (Value.int .u64)).toArray 157)).alloc (.cells ((nI (List.replicate 8 0)).map (Value.int .u64)).toArray 157)).heap.size=w.heap.size+2:=by simp
 have q1:=ZcZ w (.cells ((nI (List.replicate 8 0)).map (Value.int .u64)).toArray 157) (.cells ((nI (List.replicate 8 0)).map (Value.int .u64)).toArray 157)
 rw [hs] at A1
 clear hs
 change Calls Tryz.prog _ _ ((w.alloc (.cells ((nI (List.replicate 8 0)).map (Value.int .u64)).toArray 157)).alloc (.cells ((nI (List.replicate 8 0)).map (Value.int .u64)).toArray 157)) _
 generalize (w.alloc (.cells ((nI (List.replicate 8 0)).map (Value.int .u64)).toArray 157)).alloc (.cells ((nI (List.replicate 8 0)).map (Value.int .u64)).toArray 157)=w1 at*
 refine (ZfO 8 _ (by decide)).mono ?_
 rintro e w2 ⟨v2,rfl,hown2,q2⟩
 obtain ⟨a2,c2,rfl,_⟩:=ZaF hown2
 have q12:Below w.heap.size w w2:=q1.trans (q2.mono (by omega))
 replace A0:=A0.below q2 (by omega)
 replace A1:=A1.below q2 (by omega)
 have hs3:=q2.size
 clear q1 q2
 go_wp2
 go_loopw [12] (fun y wr=>∃k:Nat,k≤8∧y= .int .i64 (k:Int)∧Hid (Arr wr (w.heap.size+1) 157 .u64 (nI (ZaU SL 8 k)))∧Hid (Arr wr w.heap.size 157 .u64 (nI (List.replicate 8 0)))∧Hid (Below w.heap.size w wr)∧Hid (wr.ownsRow w1.heap.size 3 1 (.slice a2 8 c2) 8 ((nI (prL.take 8)).map (Value.int .i64)))) (fun y _=>8 - (intOf y).toNat)
 case atStart=>exact ⟨0,by omega,rfl,by rw [Zeg];exact A1,A0,q12,hown2⟩
 case round=>
  clear A0 A1 q12 hown2
  obtain ⟨k,hk,rfl,HA1,HA0,HB,HO⟩:=hrel
  by_cases hlt:k<8
  ·obtain ⟨a3,c3,e3,row3⟩:=ZaF HO.out
   simp only [Value.slice.injEq,true_and] at e3
   obtain ⟨rfl,rfl⟩:=e3
   obtain ⟨b,off,rfl,hbs,hcell⟩:=row3.hcell (by omega)
   have hc1:=hcell k hlt
   clear hcell row3
   rw [Za2,ZdM 8 k hlt] at hc1
   have HS:Hid (SL[k]?.getD 0=rtB sqT (prL[k]?.getD 0)):=by show _=_;rw [Zef _ 8 k SL ZgN (by decide) hlt]
   have hp:=Zee k
   obtain ⟨hu1,hu2,hu3⟩:=Zjw sqT 8 k Znn (by decide) hlt
   have hcl:=HA1.out.cell k (by rw [Zaa,ZcO HSL.out hk];exact hlt)
   have hfz:=HA1.out.unfrozen k
   generalize prL[k]?.getD 0=p at*
   have hroot:Calls Tryz.prog 162 #[.int .u64 (p:Int), .func (.func 164) #[] #[]] wr fun e w'=>e= .returned (.int .u64 ((rtB sqT p:Nat):Int))∧wr=w':=Zdm 164 sqT p (whTo sqT p 8) wr (by omega) (fun u p w h h2=>ZgS u p w h h2) (fun _ _=>rfl) hu1 hu2 hu3
   clear hu1 hu2 hu3
   have HA1':Hid (Arr (wr.setCell ⟨w.heap.size+1,k,none⟩ (.int .u64 ((rtB sqT p:Nat):Int))) (w.heap.size+1) 157 .u64 (nI (ZaU SL 8 (k+1)))):=by
    show Arr _ _ _ _ _
    have:=HA1.out.set (by rw [Zaa,ZcO HSL.out hk];decide) k ((rtB sqT p:Nat):Int)
    rw [ZbH, ←HS.out,Zei HSL.out hlt,HS.out] at this
    exact this
   have hzlt:rtB sqT p<18446744073709551616:=ZfR _ _ _ _
   generalize rtB sqT p=z at*



   go_wp2_with fail
   refine hroot.mono ?_
   rintro e w3 ⟨rfl,rfl⟩
   go_wp2
   go_roundw
   case rel=>exact ⟨k+1,by omega,by go_num,HA1',HA0.out.other _ _ (by show w.heap.size≠w.heap.size+1;omega),HB.out.setCell (by show w.heap.size≤w.heap.size+1;omega) _,ownsRow_setCell_below HO.out (by show w.heap.size+1<w1.heap.size;omega) _⟩
   case measure=>simp [intOf];omega
  ·obtain rfl:k=8:=by omega
   have A1:=HA1.out
   rw [Zeh HSL.out] at A1
   have hl:(nI SL).length=8:=by rw [Zaa];exact HSL.out
   have HL:Hid ((nI SL).length=8):=hl
   clear hl
   go_wp2_with (first
    | (refine Zci rfl 157 _ rfl (w.heap.size+1) rfl A1 Tryz.underlying157 Tryz.size157 HL.out ?_)
    | (refine ZbP rfl 157 _ _ rfl w.heap.size (nI SL) rfl rfl HA0.out Tryz.size157 (by decide+kernel) HL.out ?_))
   exact bodyPost_ret (resA rfl _ _ w.heap.size rfl (HA0.out.whole _) Tryz.underlying157 Tryz.size157 HL.out) rfl ⟨rfl,below_setRow HB.out (Nat.le_refl _) _⟩
set_option maxHeartbeats 1600000 in
theorem ZgX (w:World):Calls Tryz.prog 121 #[] w fun e w'=>e= .returned (.agg ((nI KL).map (Value.int .u64)).toArray)∧Below w.heap.size w w':=by
 have HSL:Hid (KL.length=80):=by show _=_;decide+kernel
 have hz1:=Tryz.zeroValue155
 have hz2:=Tryz.zeroCells155_ne
 have hz3:=Tryz.zeroCells155_size
 go_enter Tryz.func121,Tryz.ntmps121
 go_wp2_with fail
 have A0:=(Arr.new w 155 .u64 (nI (List.replicate 80 0)) _ Ze4).alloc (.cells Tryz.zeroCells155 155)
 have A1:=Arr.new (w.alloc (.cells Tryz.zeroCells155 155)) 155 .u64 (nI (List.replicate 80 0)) _ Ze4
 have hs:(w.alloc (.cells Tryz.zeroCells155 155)).heap.size=w.heap.size+1:=by simp
 have hs2:((w.alloc (.cells Tryz.zeroCells155 155)).alloc (.cells Tryz.zeroCells155 155)).heap.size=w.heap.size+2:=by simp
 have q1:=ZcZ w (.cells Tryz.zeroCells155 155) (.cells Tryz.zeroCells155 155)
 rw [hs] at A1
 clear hs
 change Calls Tryz.prog _ _ ((w.alloc (.cells Tryz.zeroCells155 155)).alloc (.cells Tryz.zeroCells155 155)) _
 generalize (w.alloc (.cells Tryz.zeroCells155 155)).alloc (.cells Tryz.zeroCells155 155)=w1 at*
 refine (ZfO 80 _ (by decide)).mono ?_
 rintro e w2 ⟨v2,rfl,hown2,q2⟩
 obtain ⟨a2,c2,rfl,_⟩:=ZaF hown2
 have q12:Below w.heap.size w w2:=q1.trans (q2.mono (by omega))
 replace A0:=A0.below q2 (by omega)
 replace A1:=A1.below q2 (by omega)
 have hs3:=q2.size
 clear q1 q2
 go_wp2
 go_loopw [12] (fun y wr=>∃k:Nat,k≤80∧y= .int .i64 (k:Int)∧Hid (Arr wr (w.heap.size+1) 155 .u64 (nI (ZaU KL 80 k)))∧Hid (Arr wr w.heap.size 155 .u64 (nI (List.replicate 80 0)))∧Hid (Below w.heap.size w wr)∧Hid (wr.ownsRow w1.heap.size 3 1 (.slice a2 80 c2) 80 ((nI (prL.take 80)).map (Value.int .i64)))) (fun y _=>80 - (intOf y).toNat)
 case atStart=>exact ⟨0,by omega,rfl,by rw [Zeg];exact A1,A0,q12,hown2⟩
 case round=>
  clear A0 A1 q12 hown2
  obtain ⟨k,hk,rfl,HA1,HA0,HB,HO⟩:=hrel
  by_cases hlt:k<80
  ·obtain ⟨a3,c3,e3,row3⟩:=ZaF HO.out
   simp only [Value.slice.injEq,true_and] at e3
   obtain ⟨rfl,rfl⟩:=e3
   obtain ⟨b,off,rfl,hbs,hcell⟩:=row3.hcell (by omega)
   have hc1:=hcell k hlt
   clear hcell row3
   rw [Za2,ZdM 80 k hlt] at hc1
   have HS:Hid (KL[k]?.getD 0=rtB cbT (prL[k]?.getD 0)):=by show _=_;rw [Zef _ 80 k KL ZgO (by decide) hlt]
   have hp:=Zee k
   obtain ⟨hu1,hu2,hu3⟩:=Zjw cbT 80 k Zno (by decide) hlt
   have hcl:=HA1.out.cell k (by rw [Zaa,ZcO HSL.out hk];exact hlt)
   have hfz:=HA1.out.unfrozen k
   generalize prL[k]?.getD 0=p at*
   have hroot:Calls Tryz.prog 162 #[.int .u64 (p:Int), .func (.func 163) #[] #[]] wr fun e w'=>e= .returned (.int .u64 ((rtB cbT p:Nat):Int))∧wr=w':=Zdm 163 cbT p (whTo cbT p 8) wr (by omega) (fun u p w h h2=>ZgT u p w h h2) (fun _ _=>rfl) hu1 hu2 hu3
   clear hu1 hu2 hu3
   have HA1':Hid (Arr (wr.setCell ⟨w.heap.size+1,k,none⟩ (.int .u64 ((rtB cbT p:Nat):Int))) (w.heap.size+1) 155 .u64 (nI (ZaU KL 80 (k+1)))):=by
    show Arr _ _ _ _ _
    have:=HA1.out.set (by rw [Zaa,ZcO HSL.out hk];decide) k ((rtB cbT p:Nat):Int)
    rw [ZbH, ←HS.out,Zei HSL.out hlt,HS.out] at this
    exact this
   have hzlt:rtB cbT p<18446744073709551616:=ZfR _ _ _ _
   generalize rtB cbT p=z at*
   go_wp2_with fail
   refine hroot.mono ?_
   rintro e w3 ⟨rfl,rfl⟩
   go_wp2
   go_roundw
   case rel=>exact ⟨k+1,by omega,by go_num,HA1',HA0.out.other _ _ (by show w.heap.size≠w.heap.size+1;omega),HB.out.setCell (by show w.heap.size≤w.heap.size+1;omega) _,ownsRow_setCell_below HO.out (by show w.heap.size+1<w1.heap.size;omega) _⟩
   case measure=>simp [intOf];omega
  ·obtain rfl:k=80:=by omega
   have A1:=HA1.out
   rw [Zeh HSL.out] at A1
   have hl:(nI KL).length=80:=by rw [Zaa];exact HSL.out
   have HL:Hid ((nI KL).length=80):=hl
   clear hl
   go_wp2_with (first
    | (refine Zci rfl 155 _ rfl (w.heap.size+1) rfl A1 Tryz.underlying155 Tryz.size155 HL.out ?_)
    | (refine ZbP rfl 155 _ _ rfl w.heap.size (nI KL) rfl rfl HA0.out Tryz.size155 (by decide+kernel) HL.out ?_))
   exact bodyPost_ret (resA rfl _ _ w.heap.size rfl (HA0.out.whole _) Tryz.underlying155 Tryz.size155 HL.out) rfl ⟨rfl,below_setRow HB.out (Nat.le_refl _) _⟩
end Go.Proofs.YtcaloldcihpkfaaGreatDoor.B

/-
 The code of layer 14 (sha512): spread.
-/
namespace Go.Proofs.YtcaloldcihpkfaaGreatDoor.B
open Go.RowKit
set_option linter.unusedVariables false
set_option maxRecDepth 8192

def pwr (z:List Nat) (i:Nat):Nat→Nat
 | 0=>0
 | j+1=>pwr z i j*256+z[8*i+j]?.getD 0
theorem ZfT (z:List Nat) (h:∀x∈z,x<256) (i j:Nat):pwr z i j<256^j:=by
 induction j with
 | zero=>simp [pwr]
 | succ j ih=>
  have:=ZaK (by decide) h (8*i+j)
  simp only [pwr,Nat.pow_succ]
  omega
theorem ZnA (z:List Nat) (i:Nat):pwr z i 8=Ze1 z i:=by simp [pwr,Ze1]
def wb (z:List Nat) (k:Nat):List Nat:=(List.range 80).map fun i=>pwr z i (min 8 (k - 8*i))
theorem Ze5 (z:List Nat) (k:Nat):(wb z k).length=80:=by simp [wb]
theorem Zg4 (z:List Nat):wb z 0=List.replicate 80 0:=by
 apply List.ext_getElem (by simp [wb])
 intro i h1 h2
 rw [List.getElem_replicate]
 simp only [wb,List.getElem_map,List.getElem_range]
 rw [show min 8 (0 - 8*i)=0 from by omega,pwr]
theorem Zg5 (z:List Nat) (k i:Nat) (hi:i<80):(wb z k)[i]?.getD 0=pwr z i (min 8 (k - 8*i)):=by simp [wb,hi]
theorem Zg6 (z:List Nat) (k:Nat) (hk:k<128):(wb z k)[k/8]?.getD 0=pwr z (k/8) (k%8):=by
 rw [Zg5 z k (k/8) (by omega)];congr 1;omega
theorem Zg7 (z:List Nat) (k:Nat) (hk:k<128):(wb z k).set (k/8) (pwr z (k/8) (k%8)*256+z[k]?.getD 0)=wb z (k+1):=by
 apply List.ext_getElem (by simp [wb])
 intro i h1 h2
 simp only [wb,List.length_map,List.length_range] at h2
 rw [List.getElem_set]
 by_cases e:k/8=i
 ·rw [if_pos e]
  subst e
  simp only [wb,List.getElem_map,List.getElem_range]
  rw [show min 8 (k+1 - 8*(k/8))=k%8+1 from by omega,pwr,show 8*(k/8)+k%8=k from by omega]
 ·rw [if_neg e]
  simp only [wb,List.getElem_map,List.getElem_range]
  congr 1
  omega
theorem Zg8 (z:List Nat):wb z 128=Zam z++List.replicate 64 0:=by
 apply List.ext_getElem (by simp [wb,Zam])
 intro i h1 h2
 simp only [wb,List.length_map,List.length_range] at h1
 rcases Nat.lt_or_ge i 16 with h|h
 ·rw [List.getElem_append_left (by simp [Zam];exact h)]
  simp only [wb,Zam,List.getElem_map,List.getElem_range]
  rw [show min 8 (128 - 8*i)=8 from by omega,ZnA]
 ·rw [List.getElem_append_right (by simp [Zam];exact h)]
  simp only [wb,List.getElem_map,List.getElem_range,List.getElem_replicate]
  rw [show min 8 (128 - 8*i)=0 from by omega,pwr]
def ws (z:List Nat) (k:Nat):List Nat:=Zaq (Zam z) k++List.replicate (64 - k) 0
theorem Zg9 (z:List Nat) (k:Nat) (hk:k≤64):(ws z k).length=80:=by simp [ws,Zcg,ZbW];omega
theorem Zha (z:List Nat):ws z 0=wb z 128:=by rw [Zg8];rfl
theorem Zhb (z:List Nat):ws z 64=ZaP z:=by simp [ws,ZaP]
theorem Zhc (z:List Nat) (k i:Nat) (hi:i<16+k):(ws z k)[i]?.getD 0=(Zaq (Zam z) k)[i]?.getD 0:=by
 unfold ws;rw [List.getElem?_append_left (by rw [Zcg,ZbW];exact hi)]
theorem Zhd (z:List Nat) (k:Nat) (hk:k<64):(ws z k).set (16+k) (ZbF (Zaq (Zam z) k))=ws z (k+1):=by
 unfold ws
 have hl:(Zaq (Zam z) k).length=16+k:=by rw [Zcg,ZbW]
 rw [List.set_append_right _ _ (by omega),hl,Nat.sub_self,show 64 - k=(64 - (k+1))+1 from by omega,List.replicate_succ,List.set_cons_zero,Zaq,List.append_assoc]
 rfl
set_option maxHeartbeats 3200000 in
theorem Zhe (z:List Nat) (a:Option Addr) (cap:Nat) (w:World) (hr:Row .u8 w a 128 cap (nI z)) (hz:∀x∈z,x<256):
  Calls Tryz.prog 195 #[.slice a 128 cap] w fun e w'=>e= .returned (.agg ((nI (ZaP z)).map (Value.int .u64)).toArray)∧Below w.heap.size w w':=by
 have HZ:Hid (∀x∈z,x<256):=hz
 clear hz
 have hz1:=Tryz.zeroValue155
 have hz2:=Tryz.zeroCells155_ne
 have hz3:=Tryz.zeroCells155_size
 go_enter Tryz.func195,Tryz.ntmps195
 go_wp2
 have A0:=(Arr.new w 155 .u64 (nI (List.replicate 80 0)) _ Ze4).alloc (.cells Tryz.zeroCells155 155)
 have A1:=Arr.new (w.alloc (.cells Tryz.zeroCells155 155)) 155 .u64 (nI (List.replicate 80 0)) _ Ze4
 have hs:(w.alloc (.cells Tryz.zeroCells155 155)).heap.size=w.heap.size+1:=by simp
 have q1:=ZcZ w (.cells Tryz.zeroCells155 155) (.cells Tryz.zeroCells155 155)
 rw [hs] at A1
 clear hs
 go_loopw [13] (fun y wr=>∃k:Nat,k≤128∧y= .int .i64 (k:Int)∧Hid (Arr wr (w.heap.size+1) 155 .u64 (nI (wb z k)))∧Hid (Arr wr w.heap.size 155 .u64 (nI (List.replicate 80 0)))∧Hid (Below w.heap.size w wr)) (fun y _=>128 - (intOf y).toNat)
 case atStart=>exact ⟨0,by omega,rfl,by rw [Zg4];exact A1,A0,q1⟩
 case round=>
  clear A0 A1 q1
  obtain ⟨k,hk,rfl,HA1,HA0,HB⟩:=hrel
  by_cases hlt:k<128
  ·obtain ⟨b,off,rfl,hbs,hcell⟩:=(hr.below HB.out (Nat.le_refl _)).hcell (by omega)
   have hc1:=hcell k hlt
   clear hcell
   rw [Za2] at hc1
   have hx:=ZaK (by decide) HZ.out k
   have hk8:k/8<80:=by omega
   have hcl:=HA1.out.cell (k/8) (by rw [Zaa,Ze5];exact hk8)
   have hfz:=HA1.out.unfrozen (k/8)
   rw [Za2,Zg6 z k hlt] at hcl
   have hpl:pwr z (k/8) (k%8)<256^7:=Nat.lt_of_lt_of_le (ZfT z HZ.out (k/8) (k%8)) (Nat.pow_le_pow_right (by decide) (by omega))
   have HN:Hid (Arr (wr.setCell ⟨w.heap.size+1,k/8,none⟩ (.int .u64 ((pwr z (k/8) (k%8)*256+z[k]?.getD 0:Nat):Int))) (w.heap.size+1) 155 .u64 (nI (wb z (k+1)))):=by
    show Arr _ _ _ _ _
    have:=HA1.out.set (by rw [Zaa,Ze5];decide) (k/8) ((pwr z (k/8) (k%8)*256+z[k]?.getD 0:Nat):Int)
    rw [ZbH,Zg7 z k hlt] at this
    exact this
   generalize pwr z (k/8) (k%8)=p at*
   generalize z[k]?.getD 0=x at*
   have ho:bits .or .u64 (((p*256:Nat):Int)) (x:Int)=((p*256+x:Nat):Int):=by rw [u64_or_nat _ _ (by omega) (by omega),ZfU p x hx]
   have hp1:(p:Int)*256=((p*256:Nat):Int):=by omega
   have hpl2:p*256+x<18446744073709551616:=by omega
   have hpl3:p*256<18446744073709551616:=by omega
   generalize p*256+x=px at*
   generalize p*256=p256 at*
   go_wp2
   go_roundw
   case rel=>exact ⟨k+1,by omega,by go_num,HN,HA0.out.other _ _ (by show w.heap.size≠w.heap.size+1;omega),HB.out.setCell (by show w.heap.size≤w.heap.size+1;omega) _⟩
   case measure=>simp [intOf];omega
  ·obtain rfl:k=128:=by omega
   rw [←Zha] at HA1
   rw [show ((128:Nat):Int)=128 from rfl]
   go_wp2
   go_loopw [6] (fun y wr=>∃k:Nat,k≤64∧y= .int .i64 ((16+k:Nat):Int)∧Hid (Arr wr (w.heap.size+1) 155 .u64 (nI (ws z k)))∧Hid (Arr wr w.heap.size 155 .u64 (nI (List.replicate 80 0)))∧Hid (Below w.heap.size w wr)) (fun y _=>80 - (intOf y).toNat)
   case atStart=>exact ⟨0,by omega,rfl,HA1,HA0,HB⟩
   case round=>
    clear HA1 HA0 HB
    obtain ⟨k,hk,rfl,HA1,HA0,HB⟩:=hrel
    by_cases hlt:k<64
    ·have hlen:(nI (ws z k)).length=80:=by rw [Zaa,Zg9 z k hk]
     have hml:(Zaq (Zam z) k).length=16+k:=by rw [Zcg,ZbW]
     have c16:=HA1.out.cell (16+k - 16) (by rw [hlen];omega)
     have c15:=HA1.out.cell (16+k - 15) (by rw [hlen];omega)
     have c7:=HA1.out.cell (16+k - 7) (by rw [hlen];omega)
     have c2:=HA1.out.cell (16+k - 2) (by rw [hlen];omega)
     have c0:=HA1.out.cell (16+k) (by rw [hlen];omega)
     have hfz:=HA1.out.unfrozen (16+k)
     rw [Za2,Zhc z k _ (by omega)] at c16 c15 c7 c2
     have HN:Hid (Arr (wr.setCell ⟨w.heap.size+1,16+k,none⟩ (.int .u64 ((ZbF (Zaq (Zam z) k):Nat):Int))) (w.heap.size+1) 155 .u64 (nI (ws z (k+1)))):=by
      show Arr _ _ _ _ _
      have:=HA1.out.set (by rw [hlen];decide) (16+k) ((ZbF (Zaq (Zam z) k):Nat):Int)
      rw [ZbH,Zhd z k hlt] at this
      exact this
     have b:=Zd8 _ (Zd9 z HZ.out) k
     have b16:=ZaK (by decide) b (16+k - 16)
     have b15:=ZaK (by decide) b (16+k - 15)
     have b7:=ZaK (by decide) b (16+k - 7)
     have b2:=ZaK (by decide) b (16+k - 2)
     have hnx:ZbF (Zaq (Zam z) k)=((Zaq (Zam z) k)[16+k - 16]?.getD 0+sg0 ((Zaq (Zam z) k)[16+k - 15]?.getD 0)+(Zaq (Zam z) k)[16+k - 7]?.getD 0+sg1 ((Zaq (Zam z) k)[16+k - 2]?.getD 0))%18446744073709551616:=by unfold ZbF;rw [hml]
     unfold sg0 sg1 at hnx
     have HX:Hid (_=_):=hnx
     clear hnx
     generalize ZbF (Zaq (Zam z) k)=nx at*
     generalize (Zaq (Zam z) k)[16+k - 16]?.getD 0=x16 at*
     generalize (Zaq (Zam z) k)[16+k - 15]?.getD 0=x15 at*
     generalize (Zaq (Zam z) k)[16+k - 7]?.getD 0=x7 at*
     generalize (Zaq (Zam z) k)[16+k - 2]?.getD 0=x2 at*
     clear b hml hlen
     generalize (nI (ws z k))[16+k]?.getD 0=x0 at*
     have hi1:16≤16+k:=by omega
     have hi2:16+k<80:=by omega
     generalize hi:16+k=i at*
     have HI:Hid (16+k=i):=hi
     clear hi
     have t16:((i:Int) - 16).toNat=i - 16:=by omega
     have t15:((i:Int) - 15).toNat=i - 15:=by omega
     have t7:((i:Int) - 7).toNat=i - 7:=by omega
     have t2:((i:Int) - 2).toNat=i - 2:=by omega
     have p16:(0:Int)≤(i:Int) - 16∧(i:Int) - 16<80:=by omega
     have p15:(0:Int)≤(i:Int) - 15∧(i:Int) - 15<80:=by omega
     have p7:(0:Int)≤(i:Int) - 7∧(i:Int) - 7<80:=by omega
     have p2:(0:Int)≤(i:Int) - 2∧(i:Int) - 2<80:=by omega
     obtain ⟨p16a,p16b⟩:=p16
     obtain ⟨p15a,p15b⟩:=p15
     obtain ⟨p7a,p7b⟩:=p7
     obtain ⟨p2a,p2b⟩:=p2
     have k7:=fun w=>Zbs x15 1 w b15 (by decide) (by decide)
     have k18:=fun w=>Zbs x15 8 w b15 (by decide) (by decide)
     have k17:=fun w=>Zbs x2 19 w b2 (by decide) (by decide)
     have k19:=fun w=>Zbs x2 61 w b2 (by decide) (by decide)
     have l7:=ZaG x15 1 b15 (by decide)
     have l18:=ZaG x15 8 b15 (by decide)
     have l17:=ZaG x2 19 b2 (by decide)
     have l19:=ZaG x2 61 b2 (by decide)
     have ld8:x15/128<18446744073709551616:=by omega
     have ld10:x2/64<18446744073709551616:=by omega
     have ed8:(x15:Int)/128=((x15/128:Nat):Int):=by omega
     have ed10:(x2:Int)/64=((x2/64:Nat):Int):=by omega
     generalize rr x15 1=r7 at*
     generalize rr x15 8=r18 at*
     generalize rr x2 19=r17 at*
     generalize rr x2 61=r19 at*
     generalize x15/128=d8 at*
     generalize x2/64=d10 at*
     have e1:=u64_xor_nat r7 r18 l7 l18
     have f1:=xlt l7 l18
     generalize r7^^^r18=y1 at*
     have e2:=u64_xor_nat y1 d8 f1 ld8
     have f2:=xlt f1 ld8
     generalize y1^^^d8=y2 at*
     have e3:=u64_xor_nat r17 r19 l17 l19
     have f3:=xlt l17 l19
     generalize r17^^^r19=y3 at*
     have e4:=u64_xor_nat y3 d10 f3 ld10
     have f4:=xlt f3 ld10
     generalize y3^^^d10=y4 at*
     go_wp2_with fail
     go_quiet (fail)
     go_wp2_with fail
     refine (k7 _).mono ?_
     rintro e w' ⟨rfl,rfl⟩
     go_wp2_with fail
     refine (k18 _).mono ?_
     rintro e w' ⟨rfl,rfl⟩
     go_wp2_with fail
     refine (k17 _).mono ?_
     rintro e w' ⟨rfl,rfl⟩
     go_wp2_with fail
     refine (k19 _).mono ?_
     rintro e w' ⟨rfl,rfl⟩
     clear k7 k18 k17 k19
     have hn1:i - 16≠i:=by omega
     have hn2:i - 7≠i:=by omega
     go_wp2_with fail
     go_region
     rw [show IntKind.u64.wrap (IntKind.u64.wrap (IntKind.u64.wrap ((x16:Int)+(y2:Int))+(x7:Int))+(y4:Int))=((nx:Nat):Int) from by rw [HX.out];simp only [IntKind.wrap_u64];omega]
     go_wp2
     go_roundw
     case rel=>exact ⟨k+1,by omega,by rw [←HI.out];go_num,HN,HA0.out.other _ _ (by show w.heap.size≠w.heap.size+1;omega),(Zbx HB.out _).setCell (by show w.heap.size≤w.heap.size+1;omega) _⟩
     case measure=>simp [intOf];omega
    ·obtain rfl:k=64:=by omega
     have A1:=HA1.out
     rw [Zhb] at A1
     have HL:Hid ((nI (ZaP z)).length=80):=by show _=_;rw [Zaa,ZeP]
     go_wp2_with (first
      | (refine Zci rfl 155 _ rfl (w.heap.size+1) rfl A1 Tryz.underlying155 Tryz.size155 HL.out ?_)
      | (refine ZbP rfl 155 _ _ rfl w.heap.size (nI (ZaP z)) rfl rfl HA0.out Tryz.size155 (by decide+kernel) HL.out ?_))
     exact bodyPost_ret (resA rfl _ _ w.heap.size rfl (HA0.out.whole _) Tryz.underlying155 Tryz.size155 HL.out) rfl ⟨rfl,below_setRow HB.out (Nat.le_refl _) _⟩
end Go.Proofs.YtcaloldcihpkfaaGreatDoor.B
