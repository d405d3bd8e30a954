/-
 Layer 14, in plain words: words of 64 bits as numbers; the rounds of a block; padding; what the digest is.
-/
import Derived.Test.YtcaloldcihpkfaaGreatDoorMPackSa
namespace Go.Proofs.YtcaloldcihpkfaaGreatDoor.B
set_option linter.unusedVariables false
set_option maxRecDepth 8192

def rr (x n:Nat):Nat:=x/2^n+x%2^n*2^(64 - n)
def sg0 (x:Nat):Nat:=rr x 1^^^rr x 8^^^x/128
def sg1 (x:Nat):Nat:=rr x 19^^^rr x 61^^^x/64
def bg0 (x:Nat):Nat:=rr x 28^^^rr x 34^^^rr x 39
def bg1 (x:Nat):Nat:=rr x 14^^^rr x 18^^^rr x 41
def chs (e f g:Nat):Nat:=(e&&& f)^^^((18446744073709551615 - e)&&& g)
def mjr (a b c:Nat):Nat:=(a&&& b)^^^(a&&& c)^^^(b&&& c)

theorem ZaG (x n:Nat) (hx:x<18446744073709551616) (hn:n≤64):rr x n<18446744073709551616:=by
 unfold rr
 have hp:0<2^n:=Nat.two_pow_pos n
 have e:2^n*2^(64 - n)=18446744073709551616:=by rw [←Nat.pow_add,show n+(64 - n)=64 from by omega]
 have h1:x/2^n<2^(64 - n):=(Nat.div_lt_iff_lt_mul hp).2 (by rw [Nat.mul_comm,e];exact hx)
 have h2:x%2^n+1≤2^n:=Nat.mod_lt _ hp
 have h3:=Nat.mul_le_mul_right (2^(64 - n)) h2
 rw [e,Nat.add_mul] at h3
 omega
theorem ZgK (x n:Nat) (hx:x<18446744073709551616) (hn:n≤64):(x*2^(64 - n)%18446744073709551616)|||(x/2^n)=rr x n:=by
 have hp:0<2^n:=Nat.two_pow_pos n
 have e:2^n*2^(64 - n)=18446744073709551616:=by rw [←Nat.pow_add,show n+(64 - n)=64 from by omega]
 have h1:x/2^n<2^(64 - n):=(Nat.div_lt_iff_lt_mul hp).2 (by rw [Nat.mul_comm,e];exact hx)
 have h2:x*2^(64 - n)%18446744073709551616=2^(64 - n)*(x%2^n):=by
  rw [←e,Nat.mul_mod_mul_right,Nat.mul_comm]
 rw [h2, ←Nat.two_pow_add_eq_or_of_lt h1]
 unfold rr
 rw [Nat.mul_comm (x%2^n),Nat.add_comm]

theorem xlt {a b:Nat} (ha:a<18446744073709551616) (hb:b<18446744073709551616):a^^^b<18446744073709551616:=Nat.xor_lt_two_pow (n:=64) ha hb
theorem alt {a b:Nat} (hb:b<18446744073709551616):a&&& b<18446744073709551616:=Nat.and_lt_two_pow (n:=64) _ hb
theorem dlt {a b:Nat} (ha:a<18446744073709551616):a/b<18446744073709551616:=Nat.lt_of_le_of_lt (Nat.div_le_self a b) ha
theorem mlt (a:Nat):a%18446744073709551616<18446744073709551616:=Nat.mod_lt _ (by decide)
theorem Zi6 {x:Nat} (h:x<18446744073709551616):bg0 x<18446744073709551616:=xlt (xlt (ZaG _ _ h (by decide)) (ZaG _ _ h (by decide))) (ZaG _ _ h (by decide))
theorem Zi7 {x:Nat} (h:x<18446744073709551616):bg1 x<18446744073709551616:=xlt (xlt (ZaG _ _ h (by decide)) (ZaG _ _ h (by decide))) (ZaG _ _ h (by decide))
structure S8 where
 a:Nat
 b:Nat
 c:Nat
 d:Nat
 e:Nat
 f:Nat
 g:Nat
 h:Nat
def S8.t1 (s:S8) (k w:Nat):Nat:=s.h+bg1 s.e+chs s.e s.f s.g+k+w
def S8.t2 (s:S8):Nat:=bg0 s.a+mjr s.a s.b s.c
def S8.rnd (s:S8) (k w:Nat):S8:=⟨(s.t1 k w+s.t2)%18446744073709551616,s.a,s.b,s.c,(s.d+s.t1 k w)%18446744073709551616,s.e,s.f,s.g⟩
def ZbA (s:S8) (K w:List Nat):Nat→S8
 | 0=>s
 | k+1=>(ZbA s K w k).rnd (K[k]?.getD 0) (w[k]?.getD 0)
def S8.plus (s r:S8):S8:=⟨(s.a+r.a)%18446744073709551616,(s.b+r.b)%18446744073709551616,(s.c+r.c)%18446744073709551616,(s.d+r.d)%18446744073709551616,(s.e+r.e)%18446744073709551616,(s.f+r.f)%18446744073709551616,(s.g+r.g)%18446744073709551616,(s.h+r.h)%18446744073709551616⟩
structure S8.Ok (s:S8):Prop where
 a:s.a<18446744073709551616
 b:s.b<18446744073709551616
 c:s.c<18446744073709551616
 d:s.d<18446744073709551616
 e:s.e<18446744073709551616
 f:s.f<18446744073709551616
 g:s.g<18446744073709551616
 h:s.h<18446744073709551616
def S8.list (s:S8):List Nat:=[s.a,s.b,s.c,s.d,s.e,s.f,s.g,s.h]

theorem S8.Ok.rnd {s:S8} (h:s.Ok) (k w:Nat):(s.rnd k w).Ok:=⟨mlt _,h.a,h.b,h.c,mlt _,h.e,h.f,h.g⟩
theorem S8.Ok.to {s:S8} (h:s.Ok) (K w:List Nat) (k:Nat):(ZbA s K w k).Ok:=by
 induction k with
 | zero=>exact h
 | succ k ih=>exact ih.rnd _ _
theorem S8.plus_ok (s r:S8):(s.plus r).Ok:=⟨mlt _,mlt _,mlt _,mlt _,mlt _,mlt _,mlt _,mlt _⟩

def Ze1 (z:List Nat) (i:Nat):Nat:=((((((z[8*i]?.getD 0*256+z[8*i+1]?.getD 0)*256+z[8*i+2]?.getD 0)*256+z[8*i+3]?.getD 0)*256+z[8*i+4]?.getD 0)*256+z[8*i+5]?.getD 0)*256+z[8*i+6]?.getD 0)*256+z[8*i+7]?.getD 0
def ZbF (l:List Nat):Nat:=(l[l.length - 16]?.getD 0+sg0 (l[l.length - 15]?.getD 0)+l[l.length - 7]?.getD 0+sg1 (l[l.length - 2]?.getD 0))%18446744073709551616
def Zaq (l:List Nat):Nat→List Nat
 | 0=>l
 | k+1=>Zaq l k++ [ZbF (Zaq l k)]
def Zam (z:List Nat):List Nat:=(List.range 16).map (Ze1 z)
def ZaP (z:List Nat):List Nat:=Zaq (Zam z) 64
theorem Zcg (l:List Nat) (k:Nat):(Zaq l k).length=l.length+k:=by
 induction k with
 | zero=>rfl
 | succ k ih=>simp [Zaq,ih];omega
theorem Zd8 (l:List Nat) (h:∀x∈l,x<18446744073709551616) (k:Nat):∀x∈Zaq l k,x<18446744073709551616:=by
 induction k with
 | zero=>exact h
 | succ k ih=>
  intro x hx
  simp only [Zaq,List.mem_append,List.mem_singleton] at hx
  rcases hx with hx|rfl
  ·exact ih x hx
  ·exact mlt _
theorem Znm (z:List Nat) (h:∀x∈z,x<256) (i:Nat):Ze1 z i<18446744073709551616:=by
 unfold Ze1
 have h0:=ZaK (by decide) h (8*i)
 have h1:=ZaK (by decide) h (8*i+1)
 have h2:=ZaK (by decide) h (8*i+2)
 have h3:=ZaK (by decide) h (8*i+3)
 have h4:=ZaK (by decide) h (8*i+4)
 have h5:=ZaK (by decide) h (8*i+5)
 have h6:=ZaK (by decide) h (8*i+6)
 have h7:=ZaK (by decide) h (8*i+7)
 omega
theorem Zd9 (z:List Nat) (h:∀x∈z,x<256):∀x∈Zam z,x<18446744073709551616:=by
 intro x hx
 simp only [Zam,List.mem_map] at hx
 obtain ⟨i,_,rfl⟩:=hx
 exact Znm z h i
theorem ZbW (z:List Nat):(Zam z).length=16:=by simp [Zam]
theorem ZeP (z:List Nat):(ZaP z).length=80:=by rw [ZaP,Zcg,ZbW]
theorem ZfI (z:List Nat) (h:∀x∈z,x<256):∀x∈ZaP z,x<18446744073709551616:=Zd8 _ (Zd9 z h) _

def mixL (K:List Nat) (s:S8) (z:List Nat):S8:=s.plus (ZbA s K (ZaP z) 80)

def Zan (K:List Nat) (s:S8) (z:List Nat):Nat→S8
 | 0=>s
 | k+1=>mixL K (Zan K s z k) ((z.drop (128*k)).take 128)
theorem ZdI {K:List Nat} {s:S8} (h:s.Ok) (z:List Nat) (k:Nat):(Zan K s z k).Ok:=by
 cases k with
 | zero=>exact h
 | succ k=>exact S8.plus_ok _ _

def Zas (n:Nat):Nat:=(239 - n%128)%128
def padL (n:Nat):List Nat:=128::(List.replicate (Zas n+8) 0++be8 (8*n))
def S8.bytes (s:S8):List Nat:=be8 s.a++be8 s.b++be8 s.c++be8 s.d++be8 s.e++be8 s.f++be8 s.g++be8 s.h
theorem ZfJ (n:Nat):(padL n).length=Zas n+17:=by simp [padL,be8]
theorem ZgL (n:Nat):(n+(Zas n+17))%128=0:=by unfold Zas;omega
theorem ZdJ (n:Nat):Zas n<128:=by unfold Zas;omega
theorem ZfK (n:Nat):∀x∈padL n,x<256:=by
 intro x hx
 simp only [padL,List.mem_cons,List.mem_append,List.mem_replicate] at hx
 rcases hx with h|⟨_,h⟩|h
 ·omega
 ·omega
 ·exact ZgM _ x h
def sumL (K:List Nat) (s0:S8) (z:List Nat):List Nat:=(Zan K s0 (z++padL z.length) ((z.length+(Zas z.length+17))/128)).bytes

theorem Zea (K:List Nat) (s:S8) (z y:List Nat) (k:Nat) (h:z.take (128*k)=y.take (128*k)):Zan K s z k=Zan K s y k:=by
 induction k with
 | zero=>rfl
 | succ k ih=>
  have h1:z.take (128*k)=y.take (128*k):=by
   have:=congrArg (List.take (128*k)) h
   simpa [List.take_take,Nat.min_eq_left (show 128*k≤128*(k+1) from by omega)] using this
  have h2:(z.drop (128*k)).take 128=(y.drop (128*k)).take 128:=by
   have:=congrArg (List.drop (128*k)) h
   simpa [List.drop_take,show 128*(k+1) - 128*k=128 from by omega] using this
  simp only [Zan,ih h1,h2]
theorem Zi8 (K:List Nat) (s:S8) (z:List Nat) (j k:Nat):Zan K s z (j+k)=Zan K (Zan K s z j) (z.drop (128*j)) k:=by
 induction k with
 | zero=>rfl
 | succ k ih=>
  rw [←Nat.add_assoc,Zan,Zan,ih,List.drop_drop,show 128*j+128*k=128*(j+k) from by omega]

end Go.Proofs.YtcaloldcihpkfaaGreatDoor.B

/-
 Layer 14, in plain words: the first 64 bits behind the point of the roots of primes: the numbers, held against the loops of the code and of the document.
-/
namespace Go.Proofs.YtcaloldcihpkfaaGreatDoor.B
set_option linter.unusedVariables false
set_option maxRecDepth 8192

def KL:List Nat:=[4794697086780616226,8158064640168781261,13096744586834688815,16840607885511220156,4131703408338449720,6480981068601479193,10538285296894168987,12329834152419229976,15566598209576043074,1334009975649890238,2608012711638119052,6128411473006802146,8268148722764581231,9286055187155687089,11230858885718282805,13951009754708518548,16472876342353939154,17275323862435702243,1135362057144423861,2597628984639134821,3308224258029322869,5365058923640841347,6679025012923562964,8573033837759648693,10970295158949994411,12119686244451234320,12683024718118986047,13788192230050041572,14330467153632333762,15395433587784984357,489312712824947311,1452737877330783856,2861767655752347644,3322285676063803686,5560940570517711597,5996557281743188959,7280758554555802590,8532644243296465576,9350256976987008742,10552545826968843579,11727347734174303076,12113106623233404929,14000437183269869457,14369950271660146224,15101387698204529176,15463397548674623760,17586052441742319658,1182934255886127544,1847814050463011016,2177327727835720531,2830643537854262169,3796741975233480872,4115178125766777443,5681478168544905931,6601373596472566643,7507060721942968483,8399075790359081724,8693463985226723168,9568029438360202098,10144078919501101548,10430055236837252648,11840083180663258601,13761210420658862357,14299343276471374635,14566680578165727644,15097957966210449927,16922976911328602910,17689382322260857208,500013540394364858,748580250866718886,1242879168328830382,1977374033974150939,2944078676154940804,3659926193048069267,4368137639120453308,4836135668995329356,5532061633213252278,6448918945643986474,6902733635092675308,7801388544844847127]
def SL:List Nat:=[7640891576956012808,13503953896175478587,4354685564936845355,11912009170470909681,5840696475078001361,11170449401992604703,2270897969802886507,6620516959819538809]
def S0:S8:=⟨7640891576956012808,13503953896175478587,4354685564936845355,11912009170470909681,5840696475078001361,11170449401992604703,2270897969802886507,6620516959819538809⟩

def stLo (x y s o:Nat):Nat:=(x*y+s+o)%18446744073709551616
def stHi (x y s o:Nat):Nat:=(x*y+s+o)/18446744073709551616
def sqT (u p:Nat):Nat:=u*u+stHi (2*u) p (p*p/18446744073709551616) 0
def sqM (u p:Nat):Nat:=stLo (2*u) p (p*p/18446744073709551616) 0
def sqL (p:Nat):Nat:=p*p%18446744073709551616
def cb1 (u p:Nat):Nat:=stHi (sqL p) p 0 0
def cbF (u p:Nat):Nat:=stLo (sqM u p) p 0 (cb1 u p)
def cb2 (u p:Nat):Nat:=stHi (sqM u p) p 0 (cb1 u p)
def cbS (u p:Nat):Nat:=stLo (sqT u p) p 0 (cb2 u p)
def cb3 (u p:Nat):Nat:=stHi (sqT u p) p 0 (cb2 u p)
def cb4 (u p:Nat):Nat:=stHi (sqL p) u (cbF u p) 0
def cb5 (u p:Nat):Nat:=stHi (sqM u p) u (cbS u p) (cb4 u p)
def cbT (u p:Nat):Nat:=cb3 u p+sqT u p*u+cb5 u p

def whTo (f:Nat→Nat→Nat) (lim:Nat):Nat→Nat
 | 0=>0
 | n+1=>bif Nat.blt (f (whTo f lim n+1) 0) lim then whTo f lim n+1 else whTo f lim n
def ptTo (f:Nat→Nat→Nat) (u lim:Nat):Nat→Nat
 | 0=>0
 | k+1=>bif Nat.blt (f u (ptTo f u lim k|||2^(63 - k))) lim then ptTo f u lim k|||2^(63 - k) else ptTo f u lim k
theorem ZfR (f:Nat→Nat→Nat) (u lim k:Nat):ptTo f u lim k<18446744073709551616:=by
 induction k with
 | zero=>simp [ptTo]
 | succ k ih=>
  unfold ptTo
  have h1:ptTo f u lim k|||2^(63 - k)<2^64:=Nat.or_lt_two_pow ih (Nat.pow_lt_pow_right (by decide) (by omega))
  cases Nat.blt (f u (ptTo f u lim k|||2^(63 - k))) lim
  ·exact ih
  ·exact h1
def whOk (f:Nat→Nat→Nat) (lim u:Nat):Bool:=(List.range u).all (fun k=>Nat.blt (f (k+1) 0) lim)&& !(Nat.blt (f (u+1) 0) lim)&&Nat.blt u 9
def rtB (f:Nat→Nat→Nat) (p:Nat):Nat:=ptTo f (whTo f p 8) p 64
def frTo (pw lim:Nat):Nat→Nat
 | 0=>0
 | k+1=>bif Nat.blt lim ((frTo pw lim k+2^(68 - k))^pw) then frTo pw lim k else frTo pw lim k+2^(68 - k)
theorem Znn:((prL.take 8).all (fun p=>whOk sqT p (whTo sqT p 8)))=true:=by decide+kernel
theorem Zno:((prL.take 80).all (fun p=>whOk cbT p (whTo cbT p 8)))=true:=by decide+kernel
theorem ZgN:(prL.take 8).map (fun p=>rtB sqT p)=SL:=by decide+kernel
theorem ZgO:(prL.take 80).map (fun p=>rtB cbT p)=KL:=by decide+kernel
theorem Zjh:(prL.take 8).map (fun p=>frTo 2 (p*65536^8) 69%18446744073709551616)=SL:=by decide+kernel
theorem Zji:(prL.take 80).map (fun p=>frTo 3 (p*65536^12) 69%18446744073709551616)=KL:=by decide+kernel
theorem ZeR:KL.length=80:=by decide+kernel
theorem ZeS:∀x∈KL,x<18446744073709551616:=by decide+kernel
theorem ZeT:S0.Ok:=by constructor<;>decide+kernel
theorem ZfN:S0.list=SL:=by decide+kernel

end Go.Proofs.YtcaloldcihpkfaaGreatDoor.B
