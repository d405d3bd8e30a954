/-
 Layer 13, in plain words: words of 32 bits as numbers; the rounds of a block; padding; what the digest is.
-/
import Derived.Test.YtcaloldcihpkfaaGreatDoorMPackA
import Derived.Shelf.Bits.Mul64
import Derived.Laws.BitsAllLaws
import Derived.Deep.MidRow
import Derived.Deep.WholeRow
namespace Go.Proofs.YtcaloldcihpkfaaGreatDoor
set_option linter.unusedVariables false
set_option maxRecDepth 8192

def rr (x n:Nat):Nat:=x/2^n+x%2^n*2^(32 - n)
def sg0 (x:Nat):Nat:=rr x 7^^^rr x 18^^^x/8
def sg1 (x:Nat):Nat:=rr x 17^^^rr x 19^^^x/1024
def bg0 (x:Nat):Nat:=rr x 2^^^rr x 13^^^rr x 22
def bg1 (x:Nat):Nat:=rr x 6^^^rr x 11^^^rr x 25
def chs (e f g:Nat):Nat:=(e&&& f)^^^((4294967295 - e)&&& g)
def mjr (a b c:Nat):Nat:=(a&&& b)^^^(a&&& c)^^^(b&&& c)

theorem ZaG (x n:Nat) (hx:x<4294967296) (hn:n≤32):rr x n<4294967296:=by
 unfold rr
 have hp:0<2^n:=Nat.two_pow_pos n
 have e:2^n*2^(32 - n)=4294967296:=by rw [←Nat.pow_add,show n+(32 - n)=32 from by omega]
 have h1:x/2^n<2^(32 - n):=(Nat.div_lt_iff_lt_mul hp).2 (by rw [Nat.mul_comm,e];exact hx)
 have h2:x%2^n+1≤2^n:=Nat.mod_lt _ hp
 have h3:=Nat.mul_le_mul_right (2^(32 - n)) h2
 rw [e,Nat.add_mul] at h3
 omega
theorem ZgK (x n:Nat) (hx:x<4294967296) (hn:n≤32):(x*2^(32 - n)%4294967296)|||(x/2^n)=rr x n:=by
 have hp:0<2^n:=Nat.two_pow_pos n
 have e:2^n*2^(32 - n)=4294967296:=by rw [←Nat.pow_add,show n+(32 - n)=32 from by omega]
 have h1:x/2^n<2^(32 - n):=(Nat.div_lt_iff_lt_mul hp).2 (by rw [Nat.mul_comm,e];exact hx)
 have h2:x*2^(32 - n)%4294967296=2^(32 - n)*(x%2^n):=by
  rw [←e,Nat.mul_mod_mul_right,Nat.mul_comm]
 rw [h2, ←Nat.two_pow_add_eq_or_of_lt h1]
 unfold rr
 rw [Nat.mul_comm (x%2^n),Nat.add_comm]

theorem xlt {a b:Nat} (ha:a<4294967296) (hb:b<4294967296):a^^^b<4294967296:=Nat.xor_lt_two_pow (n:=32) ha hb
theorem alt {a b:Nat} (hb:b<4294967296):a&&& b<4294967296:=Nat.and_lt_two_pow (n:=32) _ hb
theorem dlt {a b:Nat} (ha:a<4294967296):a/b<4294967296:=Nat.lt_of_le_of_lt (Nat.div_le_self a b) ha
theorem mlt (a:Nat):a%4294967296<4294967296:=Nat.mod_lt _ (by decide)
theorem Zi6 {x:Nat} (h:x<4294967296):bg0 x<4294967296:=xlt (xlt (ZaG _ _ h (by decide)) (ZaG _ _ h (by decide))) (ZaG _ _ h (by decide))
theorem Zi7 {x:Nat} (h:x<4294967296):bg1 x<4294967296:=xlt (xlt (ZaG _ _ h (by decide)) (ZaG _ _ h (by decide))) (ZaG _ _ h (by decide))
structure S8 where
 a:Nat
 b:Nat
 c:Nat
 d:Nat
 e:Nat
 f:Nat
 g:Nat
 h:Nat
def S8.t1 (s:S8) (k w:Nat):Nat:=s.h+bg1 s.e+chs s.e s.f s.g+k+w
def S8.t2 (s:S8):Nat:=bg0 s.a+mjr s.a s.b s.c
def S8.rnd (s:S8) (k w:Nat):S8:=⟨(s.t1 k w+s.t2)%4294967296,s.a,s.b,s.c,(s.d+s.t1 k w)%4294967296,s.e,s.f,s.g⟩
def ZbA (s:S8) (K w:List Nat):Nat→S8
 | 0=>s
 | k+1=>(ZbA s K w k).rnd (K[k]?.getD 0) (w[k]?.getD 0)
def S8.plus (s r:S8):S8:=⟨(s.a+r.a)%4294967296,(s.b+r.b)%4294967296,(s.c+r.c)%4294967296,(s.d+r.d)%4294967296,(s.e+r.e)%4294967296,(s.f+r.f)%4294967296,(s.g+r.g)%4294967296,(s.h+r.h)%4294967296⟩
structure S8.Ok (s:S8):Prop where
 a:s.a<4294967296
 b:s.b<4294967296
 c:s.c<4294967296
 d:s.d<4294967296
 e:s.e<4294967296
 f:s.f<4294967296
 g:s.g<4294967296
 h:s.h<4294967296
def S8.list (s:S8):List Nat:=[s.a,s.b,s.c,s.d,s.e,s.f,s.g,s.h]

theorem S8.Ok.rnd {s:S8} (h:s.Ok) (k w:Nat):(s.rnd k w).Ok:=⟨mlt _,h.a,h.b,h.c,mlt _,h.e,h.f,h.g⟩
theorem S8.Ok.to {s:S8} (h:s.Ok) (K w:List Nat) (k:Nat):(ZbA s K w k).Ok:=by
 induction k with
 | zero=>exact h
 | succ k ih=>exact ih.rnd _ _
theorem S8.plus_ok (s r:S8):(s.plus r).Ok:=⟨mlt _,mlt _,mlt _,mlt _,mlt _,mlt _,mlt _,mlt _⟩

def ZeO (z:List Nat) (i:Nat):Nat:=((z[4*i]?.getD 0*256+z[4*i+1]?.getD 0)*256+z[4*i+2]?.getD 0)*256+z[4*i+3]?.getD 0
def ZbF (l:List Nat):Nat:=(l[l.length - 16]?.getD 0+sg0 (l[l.length - 15]?.getD 0)+l[l.length - 7]?.getD 0+sg1 (l[l.length - 2]?.getD 0))%4294967296
def Zaq (l:List Nat):Nat→List Nat
 | 0=>l
 | k+1=>Zaq l k++ [ZbF (Zaq l k)]
def Zam (z:List Nat):List Nat:=(List.range 16).map (ZeO z)
def ZaP (z:List Nat):List Nat:=Zaq (Zam z) 48
theorem Zcg (l:List Nat) (k:Nat):(Zaq l k).length=l.length+k:=by
 induction k with
 | zero=>rfl
 | succ k ih=>simp [Zaq,ih];omega
theorem Zd8 (l:List Nat) (h:∀x∈l,x<4294967296) (k:Nat):∀x∈Zaq l k,x<4294967296:=by
 induction k with
 | zero=>exact h
 | succ k ih=>
  intro x hx
  simp only [Zaq,List.mem_append,List.mem_singleton] at hx
  rcases hx with hx|rfl
  ·exact ih x hx
  ·exact mlt _
theorem ZaK {l:List Nat} {B:Nat} (hB:0<B) (h:∀x∈l,x<B) (i:Nat):l[i]?.getD 0<B:=by
 rcases Nat.lt_or_ge i l.length with hi|hi
 ·rw [List.getElem?_eq_getElem hi];exact h _ (List.getElem_mem hi)
 ·rw [List.getElem?_eq_none hi];exact hB
theorem ZmY (z:List Nat) (h:∀x∈z,x<256) (i:Nat):ZeO z i<4294967296:=by
 unfold ZeO
 have h0:=ZaK (by decide) h (4*i)
 have h1:=ZaK (by decide) h (4*i+1)
 have h2:=ZaK (by decide) h (4*i+2)
 have h3:=ZaK (by decide) h (4*i+3)
 omega
theorem Zd9 (z:List Nat) (h:∀x∈z,x<256):∀x∈Zam z,x<4294967296:=by
 intro x hx
 simp only [Zam,List.mem_map] at hx
 obtain ⟨i,_,rfl⟩:=hx
 exact ZmY z h i
theorem ZbW (z:List Nat):(Zam z).length=16:=by simp [Zam]
theorem ZeP (z:List Nat):(ZaP z).length=64:=by rw [ZaP,Zcg,ZbW]
theorem ZfI (z:List Nat) (h:∀x∈z,x<256):∀x∈ZaP z,x<4294967296:=Zd8 _ (Zd9 z h) _

def mixL (K:List Nat) (s:S8) (z:List Nat):S8:=s.plus (ZbA s K (ZaP z) 64)

def Zan (K:List Nat) (s:S8) (z:List Nat):Nat→S8
 | 0=>s
 | k+1=>mixL K (Zan K s z k) ((z.drop (64*k)).take 64)
theorem ZdI {K:List Nat} {s:S8} (h:s.Ok) (z:List Nat) (k:Nat):(Zan K s z k).Ok:=by
 cases k with
 | zero=>exact h
 | succ k=>exact S8.plus_ok _ _

def be8 (n:Nat):List Nat:=[n/72057594037927936%256,n/281474976710656%256,n/1099511627776%256,n/4294967296%256,n/16777216%256,n/65536%256,n/256%256,n%256]
def be4 (n:Nat):List Nat:=[n/16777216%256,n/65536%256,n/256%256,n%256]
def Zas (n:Nat):Nat:=(119 - n%64)%64
def padL (n:Nat):List Nat:=128::(List.replicate (Zas n) 0++be8 (8*n))
def S8.bytes (s:S8):List Nat:=be4 s.a++be4 s.b++be4 s.c++be4 s.d++be4 s.e++be4 s.f++be4 s.g++be4 s.h
theorem ZfJ (n:Nat):(padL n).length=Zas n+9:=by simp [padL,be8]
theorem ZgL (n:Nat):(n+(Zas n+9))%64=0:=by unfold Zas;omega
theorem ZdJ (n:Nat):Zas n<64:=by unfold Zas;omega
theorem ZgM (n:Nat):∀x∈be8 n,x<256:=by
 intro x hx
 simp only [be8,List.mem_cons,List.not_mem_nil,or_false] at hx
 rcases hx with h|h|h|h|h|h|h|h<;>omega
theorem ZfK (n:Nat):∀x∈padL n,x<256:=by
 intro x hx
 simp only [padL,List.mem_cons,List.mem_append,List.mem_replicate] at hx
 rcases hx with h|⟨_,h⟩|h
 ·omega
 ·omega
 ·exact ZgM _ x h
def sumL (K:List Nat) (s0:S8) (z:List Nat):List Nat:=(Zan K s0 (z++padL z.length) ((z.length+(Zas z.length+9))/64)).bytes
theorem ZmZ (n:Nat):∀x∈be4 n,x<256:=by
 intro x hx
 simp only [be4,List.mem_cons,List.not_mem_nil,or_false] at hx
 rcases hx with h|h|h|h<;>omega

theorem Zea (K:List Nat) (s:S8) (z y:List Nat) (k:Nat) (h:z.take (64*k)=y.take (64*k)):Zan K s z k=Zan K s y k:=by
 induction k with
 | zero=>rfl
 | succ k ih=>
  have h1:z.take (64*k)=y.take (64*k):=by
   have:=congrArg (List.take (64*k)) h
   simpa [List.take_take,Nat.min_eq_left (show 64*k≤64*(k+1) from by omega)] using this
  have h2:(z.drop (64*k)).take 64=(y.drop (64*k)).take 64:=by
   have:=congrArg (List.drop (64*k)) h
   simpa [List.drop_take,show 64*(k+1) - 64*k=64 from by omega] using this
  simp only [Zan,ih h1,h2]
theorem Zi8 (K:List Nat) (s:S8) (z:List Nat) (j k:Nat):Zan K s z (j+k)=Zan K (Zan K s z j) (z.drop (64*j)) k:=by
 induction k with
 | zero=>rfl
 | succ k ih=>
  rw [←Nat.add_assoc,Zan,Zan,ih,List.drop_drop,show 64*j+64*k=64*(j+k) from by omega]

theorem Zi9 (x i:Nat):x%2^(i+1)=x%2^i+x/2^i%2*2^i:=by
 rw [Nat.pow_succ,Nat.mod_mul,Nat.mul_comm (2^i)]
theorem Zm0 (a b i:Nat):(a^^^b)/2^i%2=if a/2^i%2=b/2^i%2 then 0 else 1:=by
 have h:=Nat.testBit_xor a b i
 simp only [Nat.testBit_eq_decide_div_mod_eq] at h
 have e1:(a^^^b)/2^i%2=0∨(a^^^b)/2^i%2=1:=by omega
 have e2:a/2^i%2=0∨a/2^i%2=1:=by omega
 have e3:b/2^i%2=0∨b/2^i%2=1:=by omega
 rcases e1 with e1|e1<;>rcases e2 with e2|e2<;>rcases e3 with e3|e3<;>rw [e1,e2,e3] at h<;>simp at h<;>rw [e1,e2,e3]<;>rfl
theorem Zm1 (a b i:Nat):(a&&& b)/2^i%2=a/2^i%2*(b/2^i%2):=by
 have h:=Nat.testBit_and a b i
 simp only [Nat.testBit_eq_decide_div_mod_eq] at h
 have e1:(a&&& b)/2^i%2=0∨(a&&& b)/2^i%2=1:=by omega
 have e2:a/2^i%2=0∨a/2^i%2=1:=by omega
 have e3:b/2^i%2=0∨b/2^i%2=1:=by omega
 rcases e1 with e1|e1<;>rcases e2 with e2|e2<;>rcases e3 with e3|e3<;>rw [e1,e2,e3] at h<;>simp at h<;>rw [e1,e2,e3]
theorem Zm2 (a b i:Nat):(a^^^b)%2^(i+1)=(a^^^b)%2^i+(if a/2^i%2=b/2^i%2 then 0 else 2^i):=by
 rw [Zi9,Zm0];split<;>simp
theorem Zm3 (a b i:Nat):(a&&& b)%2^(i+1)=(a&&& b)%2^i+a/2^i%2*(b/2^i%2)*2^i:=by rw [Zi9,Zm1]
theorem ZdK (a i:Nat):a/2^i/2=a/2^(i+1):=by rw [Nat.div_div_eq_div_mul,Nat.pow_succ]

end Go.Proofs.YtcaloldcihpkfaaGreatDoor

/-
 Layer 13, in plain words: primes, and the first bits behind the point of their roots: the numbers, held against the loops of the code and of the document.
-/
namespace Go.Proofs.YtcaloldcihpkfaaGreatDoor
set_option linter.unusedVariables false
set_option maxRecDepth 8192

def prL:List Nat:=[2,3,5,7,11,13,17,19,23,29,31,37,41,43,47,53,59,61,67,71,73,79,83,89,97,101,103,107,109,113,127,131,137,139,149,151,157,163,167,173,179,181,191,193,197,199,211,223,227,229,233,239,241,251,257,263,269,271,277,281,283,293,307,311,313,317,331,337,347,349,353,359,367,373,379,383,389,397,401,409,419,421,431,433,439,443,449,457,461,463,467,479,487,491,499,503,509,521,523,541]
def KL:List Nat:=[1116352408,1899447441,3049323471,3921009573,961987163,1508970993,2453635748,2870763221,3624381080,310598401,607225278,1426881987,1925078388,2162078206,2614888103,3248222580,3835390401,4022224774,264347078,604807628,770255983,1249150122,1555081692,1996064986,2554220882,2821834349,2952996808,3210313671,3336571891,3584528711,113926993,338241895,666307205,773529912,1294757372,1396182291,1695183700,1986661051,2177026350,2456956037,2730485921,2820302411,3259730800,3345764771,3516065817,3600352804,4094571909,275423344,430227734,506948616,659060556,883997877,958139571,1322822218,1537002063,1747873779,1955562222,2024104815,2227730452,2361852424,2428436474,2756734187,3204031479,3329325298]
def SL:List Nat:=[1779033703,3144134277,1013904242,2773480762,1359893119,2600822924,528734635,1541459225]
def S0:S8:=⟨1779033703,3144134277,1013904242,2773480762,1359893119,2600822924,528734635,1541459225⟩

def prTo (p:Nat):List Nat:=prL.filter (fun q=>Nat.blt q p)
def Zbw (p:Nat):List Nat→Bool
 | []=>true
 | q::l=>bif Nat.blt p (q*q) then true else bif Nat.beq (p%q) 0 then false else Zbw p l
def ZbX (p:Nat) (l:List Nat):Bool:=l.all (fun q=> !(Nat.beq (p%q) 0))
def ZfL (p:Nat):Bool:=
 (prTo (p+1)==(bif prL.contains p then prTo p++ [p] else prTo p))&&(Zbw p (prTo p)==prL.contains p)&&(ZbX p (prTo p)==prL.contains p)&&(prTo p==prL.take (prTo p).length)
theorem Zm4:((List.range 541).all (fun i=>ZfL (i+2)))=true:=by decide+kernel
theorem Zja (p:Nat) (h2:2≤p) (hp:p≤542):ZfL p=true:=by
 have h:=List.all_eq_true.1 Zm4 (p - 2) (List.mem_range.2 (by omega))
 rwa [show p - 2+2=p from by omega] at h
theorem Zm5 (p:Nat) (h:542≤p):prTo p=prL:=by
 unfold prTo
 rw [List.filter_eq_self]
 intro x hx
 have h1:∀x∈prL,x<542:=by decide+kernel
 have:=h1 x hx
 rw [Nat.blt_eq];omega
theorem ZeQ:prL.length=100:=by decide+kernel
theorem ZfM:prTo 2=[]:=by decide+kernel
theorem Zjb {p n:Nat} (hn:n≤100) (h:(prTo p).length<n):p≤541:=by
 rcases Nat.lt_or_ge p 542 with h1|h1
 ·omega
 ·rw [Zm5 p h1,ZeQ] at h;omega
theorem Zjc (p:Nat) (h2:2≤p) (hp:p≤541):prTo (p+1)=(if Zbw p (prTo p)=true then prTo p++ [p] else prTo p)∧ZbX p (prTo p)=Zbw p (prTo p):=by
 have h:=Zja p h2 (by omega)
 unfold ZfL at h
 simp only [Bool.and_eq_true,beq_iff_eq] at h
 obtain ⟨⟨⟨h1,h3⟩,h4⟩,_⟩:=h
 rw [h3,h4]
 refine ⟨?_,rfl⟩
 rw [h1]
 cases prL.contains p<;>rfl
theorem Zjd (p:Nat) (h2:2≤p) (hp:p≤542):prTo p=prL.take (prTo p).length:=by
 have h:=Zja p h2 hp
 unfold ZfL at h
 simp only [Bool.and_eq_true,beq_iff_eq] at h
 exact h.2
theorem Zje:∀x∈prL,x<542:=by decide+kernel
theorem Zm6:∀x∈prL,0<x:=by decide+kernel
theorem Zjf {p x:Nat} (h:x∈prTo p):0<x∧x<542:=by
 unfold prTo at h
 have:=(List.mem_filter.1 h).1
 exact ⟨Zm6 x this,Zje x this⟩

def rtTo (f:Nat→Nat) (lim:Nat):Nat→Nat
 | 0=>0
 | k+1=>bif Nat.blt (f (rtTo f lim k|||2^(34 - k))) lim then rtTo f lim k|||2^(34 - k) else rtTo f lim k
def sqT (r:Nat):Nat:=r*r/18446744073709551616
def cbT (r:Nat):Nat:=(r*r/18446744073709551616*r+r*r%18446744073709551616*r/18446744073709551616)%18446744073709551616
theorem Zjg (f:Nat→Nat) (lim k:Nat):rtTo f lim k<34359738368:=by
 induction k with
 | zero=>simp [rtTo]
 | succ k ih=>
  unfold rtTo
  have h1:rtTo f lim k|||2^(34 - k)<2^35:=Nat.or_lt_two_pow ih (Nat.pow_lt_pow_right (by decide) (by omega))
  cases Nat.blt (f (rtTo f lim k|||2^(34 - k))) lim
  ·exact ih
  ·exact h1
def frTo (pw lim:Nat):Nat→Nat
 | 0=>0
 | k+1=>bif Nat.blt lim ((frTo pw lim k+2^(38 - k))^pw) then frTo pw lim k else frTo pw lim k+2^(38 - k)
theorem Zm7 (pw lim k:Nat) (hk:k≤39):frTo pw lim k+2^(39 - k)≤549755813888:=by
 induction k with
 | zero=>simp [frTo]
 | succ k ih=>
  have:=ih (by omega)
  have e:2^(39 - k)=2^(38 - k)*2:=by rw [←Nat.pow_succ];congr 1;omega
  have e2:39 - (k+1)=38 - k:=by omega
  rw [e2]
  unfold frTo
  have hp:0<2^(38 - k):=Nat.two_pow_pos _
  cases Nat.blt lim ((frTo pw lim k+2^(38 - k))^pw)
  ·show frTo pw lim k+2^(38 - k)+2^(38 - k)≤_;omega
  ·show frTo pw lim k+2^(38 - k)≤_;omega
theorem ZgN:(prL.take 8).map (fun p=>rtTo sqT p 35%4294967296)=SL:=by decide+kernel
theorem ZgO:(prL.take 64).map (fun p=>rtTo cbT (p*4294967296) 35%4294967296)=KL:=by decide+kernel
theorem Zjh:(prL.take 8).map (fun p=>frTo 2 (p*18446744073709551616) 39%4294967296)=SL:=by decide+kernel
theorem Zji:(prL.take 64).map (fun p=>frTo 3 (p*79228162514264337593543950336) 39%4294967296)=KL:=by decide+kernel
theorem ZeR:KL.length=64:=by decide+kernel
theorem ZeS:∀x∈KL,x<4294967296:=by decide+kernel
theorem ZeT:S0.Ok:=by constructor<;>decide+kernel
theorem ZfN:S0.list=SL:=by decide+kernel

end Go.Proofs.YtcaloldcihpkfaaGreatDoor

/-
 Layer 13, in plain words: numbers as digits of 16 bits, the lowest first: sums of products with carries, comparisons.
-/
namespace Go.Proofs.YtcaloldcihpkfaaGreatDoor
set_option linter.unusedVariables false
set_option maxRecDepth 8192

def vTo (f:Nat→Nat):Nat→Nat
 | 0=>0
 | n+1=>vTo f n+f n*65536^n
def dg (l:List Nat) (i:Nat):Nat:=l[i]?.getD 0
def vL (l:List Nat):Nat:=vTo (dg l) l.length

theorem Zbj {l:List Nat} {i:Nat} (h:l.length≤i):dg l i=0:=by unfold dg;rw [List.getElem?_eq_none h];rfl
theorem Zb4 {f g:Nat→Nat} {n:Nat} (h:∀i,i<n→f i=g i):vTo f n=vTo g n:=by
 induction n with
 | zero=>rfl
 | succ n ih=>simp only [vTo];rw [ih (fun i hi=>h i (by omega)),h n (by omega)]
theorem ZcA {f:Nat→Nat} {n:Nat} (h:∀i,i<n→f i<65536):vTo f n<65536^n:=by
 induction n with
 | zero=>simp [vTo]
 | succ n ih=>
  have h1:=ih (fun i hi=>h i (by omega))
  have h2:f n+1≤65536:=h n (by omega)
  have h3:=Nat.mul_le_mul_right (65536^n) h2
  simp only [vTo,Nat.pow_succ]
  rw [Nat.add_mul] at h3
  rw [Nat.mul_comm (65536^n)]
  omega
theorem Zeb {f:Nat→Nat} {n m:Nat} (hnm:n≤m) (h:∀i,n≤i→f i=0):vTo f m=vTo f n:=by
 induction m with
 | zero=>rw [show n=0 from by omega]
 | succ m ih=>
  rcases Nat.lt_or_ge m n with h1|h1
  ·rw [show n=m+1 from by omega]
  ·simp only [vTo];rw [ih h1,h m h1];omega
theorem ZbG (l:List Nat) (m:Nat) (h:l.length≤m):vTo (dg l) m=vL l:=Zeb h (fun i hi=>Zbj hi)
theorem ZgP {f:Nat→Nat} {n j:Nat} (h:j<n):f j*65536^j≤vTo f n:=by
 induction n with
 | zero=>omega
 | succ n ih=>
  simp only [vTo]
  rcases Nat.lt_or_ge j n with h1|h1
  ·have:=ih h1;omega
  ·rw [show j=n from by omega];omega
theorem ZeU (f:Nat→Nat) {n m:Nat} (h:n≤m):vTo f n≤vTo f m:=by
 induction m with
 | zero=>rw [show n=0 from by omega];exact Nat.le_refl _
 | succ m ih=>
  rcases Nat.lt_or_ge m n with h1|h1
  ·rw [show n=m+1 from by omega];exact Nat.le_refl _
  ·have:=ih h1;simp only [vTo];omega
theorem ZeV {f g:Nat→Nat} {n m:Nat} (hnm:n≤m) (h:∀i,n≤i→i<m→f i=g i):vTo f m+vTo g n=vTo g m+vTo f n:=by
 induction m with
 | zero=>rw [show n=0 from by omega];rfl
 | succ m ih=>
  rcases Nat.lt_or_ge m n with h1|h1
  ·rw [show n=m+1 from by omega];omega
  ·have:=ih h1 (fun i h2 h3=>h i h2 (by omega));simp only [vTo];rw [h m h1 (by omega)];omega
theorem ZcB {l:List Nat} {j x:Nat} (hj:j<l.length) (i:Nat):dg (l.set j x) i=if i=j then x else dg l i:=by
 unfold dg
 rw [List.getElem?_set]
 by_cases h:j=i
 ·subst h;simp [hj]
 ·rw [if_neg h,if_neg (fun h'=>h h'.symm)]
theorem ZeW {f g:Nat→Nat} {n j x:Nat} (hj:j<n) (hg:∀i,g i=if i=j then x else f i):vTo g n+f j*65536^j=vTo f n+x*65536^j:=by
 induction n with
 | zero=>omega
 | succ n ih=>
  simp only [vTo]
  rcases Nat.lt_or_ge j n with h1|h1
  ·have:=ih h1
   rw [hg n,if_neg (by omega)]
   omega
  ·have e:j=n:=by omega
   subst e
   rw [hg j,if_pos rfl,Zb4 (g:=f) (n:=j) (fun i hi=>by rw [hg i,if_neg (by omega)])]
   omega
theorem ZbO {l:List Nat} {j x:Nat} (hj:j<l.length):vL (l.set j x)+dg l j*65536^j=vL l+x*65536^j:=by
 unfold vL
 rw [List.length_set]
 exact ZeW hj (ZcB hj)

def digL (x n:Nat):List Nat:=(List.range n).map (fun i=>x/65536^i%65536)
theorem Zap (x n:Nat):(digL x n).length=n:=by simp [digL]
theorem ZgQ (x n:Nat):digL x (n+1)=digL x n++ [x/65536^n%65536]:=by simp [digL,List.range_succ]
theorem Zbk {x n i:Nat} (h:i<n):dg (digL x n) i=x/65536^i%65536:=by simp [dg,digL,h]
theorem Zdj (x n:Nat):vL (digL x n)=x%65536^n:=by
 unfold vL
 rw [Zap]
 have:∀m,vTo (fun i=>x/65536^i%65536) m=x%65536^m:=by
  intro m
  induction m with
  | zero=>simp [vTo,Nat.mod_one]
  | succ m ih=>simp only [vTo];rw [ih,Nat.pow_succ,Nat.mod_mul,Nat.mul_comm (65536^m)]
 rw [←this n]
 exact Zb4 (fun i hi=>Zbk hi)
def Dig (l:List Nat):Prop:=∀x∈l,x<65536
theorem Dig.at {l:List Nat} (h:Dig l) (i:Nat):dg l i<65536:=by
 unfold dg
 rcases Nat.lt_or_ge i l.length with hi|hi
 ·rw [List.getElem?_eq_getElem hi];exact h _ (List.getElem_mem hi)
 ·rw [List.getElem?_eq_none hi];decide
theorem Dig.set {l:List Nat} (h:Dig l) (j:Nat) {x:Nat} (hx:x<65536):Dig (l.set j x):=by
 intro y hy
 rcases List.mem_or_eq_of_mem_set hy with h1|rfl
 ·exact h y h1
 ·exact hx
theorem ZaD (x n:Nat):Dig (digL x n):=by
 intro y hy
 simp only [digL,List.mem_map] at hy
 obtain ⟨i,_,rfl⟩:=hy
 exact Nat.mod_lt _ (by decide)
theorem Dig.vlt {l:List Nat} (h:Dig l) (m:Nat):vTo (dg l) m<65536^m:=ZcA (fun i _=>h.at i)
theorem Dig.zero {n:Nat}:Dig (List.replicate n 0):=by
 intro x hx;rw [(List.mem_replicate.1 hx).2];decide
theorem ZcM (n:Nat):vL (List.replicate n 0)=0:=by
 have:∀m,vTo (dg (List.replicate n 0)) m=0:=by
  intro m
  induction m with
  | zero=>rfl
  | succ m ih=>
   simp only [vTo,ih]
   have:dg (List.replicate n 0) m=0:=by
    unfold dg
    rw [List.getElem?_replicate]
    split<;>rfl
   rw [this];omega
 exact this _

structure TimI (a b o out:List Nat) (i k c:Nat):Prop where
 len:out.length=a.length+b.length+1
 dig:Dig out
 clt:c<65536
 val:vL out+c*65536^(i+k)=vTo (dg a) i*vL b+dg a i*65536^i*vTo (dg b) k
theorem TimI.room {a b o out:List Nat} {i k c:Nat} (h:TimI a b o out i k c) (ha:Dig a) (hb:Dig b) (hi:i<a.length) (hk:k<b.length∨0<c):i+k<a.length+b.length+1∧(b.length≤k→k=b.length):=by
 rcases hk with h1|h1
 ·exact ⟨by omega,fun h2=>by omega⟩
 ·have e1:vTo (dg b) k≤vL b:=by
   rcases Nat.lt_or_ge k b.length with h2|h2
   ·exact ZeU _ (Nat.le_of_lt h2)
   ·rw [ZbG b k h2];exact Nat.le_refl _
  have e2:vTo (dg a) i*vL b+dg a i*65536^i*vTo (dg b) k≤vTo (dg a) (i+1)*vL b:=by
   simp only [vTo];rw [Nat.add_mul]
   exact Nat.add_le_add_left (Nat.mul_le_mul_left _ e1) _
  have e3:vTo (dg a) (i+1)*vL b<65536^(i+1)*65536^b.length:=by
   have p1:=ha.vlt (i+1)
   have p2:=hb.vlt b.length
   rcases Nat.eq_zero_or_pos (vL b) with hz|hz
   ·rw [hz];simp [Nat.pow_pos]
   ·exact Nat.lt_of_lt_of_le (Nat.mul_lt_mul_of_pos_right p1 hz) (Nat.mul_le_mul_left _ (Nat.le_of_lt p2))
  rw [←Nat.pow_add] at e3
  have e4:65536^(i+k)≤c*65536^(i+k):=Nat.le_mul_of_pos_left _ h1
  have e5:=h.val
  have e6:65536^(i+k)<65536^(i+1+b.length):=by omega
  have:=(Nat.pow_lt_pow_iff_right (a:=65536) (by decide)).1 e6
  exact ⟨by omega,fun h2=>by omega⟩
theorem TimI.next {a b o out:List Nat} {i k c x:Nat} (h:TimI a b o out i k c) (ha:Dig a) (hb:Dig b) (hi:i+k<a.length+b.length+1) (hx:x=dg out (i+k)+c+dg a i*dg b k):
  TimI a b o (out.set (i+k) (x%65536)) i (k+1) (x/65536):=by
 have b1:dg a i≤65535:=by have:=ha.at i;omega
 have b2:dg b k≤65535:=by have:=hb.at k;omega
 have b3:=Nat.mul_le_mul b1 b2
 have b4:=h.dig.at (i+k)
 have b5:=h.clt
 refine ⟨by rw [List.length_set];exact h.len,h.dig.set _ (Nat.mod_lt _ (by decide)),by omega, ?_⟩
 have hs:=ZbO (l:=out) (j:=i+k) (x:=x%65536) (by rw [h.len];exact hi)
 have hv:=h.val
 rw [←Nat.add_assoc i k 1,Nat.pow_succ]
 simp only [vTo]
 have hq:65536^(i+k)=65536^i*65536^k:=Nat.pow_add _ _ _
 have hm:x%65536+65536*(x/65536)=x:=Nat.mod_add_div x 65536
 have e1:x/65536*(65536^(i+k)*65536)+x%65536*65536^(i+k)=x*65536^(i+k):=by
  conv=>rhs;rw [←hm,Nat.add_mul]
  rw [Nat.mul_comm (65536^(i+k)) 65536, ←Nat.mul_assoc,Nat.mul_comm (x/65536) 65536];omega
 have e2:x*65536^(i+k)=dg out (i+k)*65536^(i+k)+c*65536^(i+k)+dg a i*65536^i*(dg b k*65536^k):=by
  rw [hx,Nat.add_mul,Nat.add_mul]
  congr 1
  rw [hq,Nat.mul_mul_mul_comm]
 rw [Nat.mul_add]
 omega
theorem TimI.begin {a b out:List Nat} {i:Nat} (hl:out.length=a.length+b.length+1) (hd:Dig out) (hv:vL out=vTo (dg a) i*vL b):TimI a b out out i 0 0:=
 ⟨hl,hd,by decide,by simp [vTo,hv]⟩
theorem TimI.done {a b o out:List Nat} {i k:Nat} (h:TimI a b o out i k 0) (hk:b.length≤k):vL out=vTo (dg a) (i+1)*vL b:=by
 have:=h.val
 rw [ZbG b k hk] at this
 simp only [vTo];rw [Nat.add_mul];omega

theorem Zec {f g:Nat→Nat} {i n:Nat} (hi:i<n) (hf:∀j,f j<65536) (hg:∀j,g j<65536) (h:∀j,i<j→j<n→f j=g j) (hne:f i≠g i):(g i<f i↔vTo g n<vTo f n):=by
 have e:=ZeV (f:=f) (g:=g) (n:=i+1) (m:=n) (by omega) (fun j h1 h2=>h j (by omega) h2)
 have p1:=ZcA (f:=f) (n:=i) (fun j _=>hf j)
 have p2:=ZcA (f:=g) (n:=i) (fun j _=>hg j)
 simp only [vTo] at e
 constructor
 ·intro h1
  have:=Nat.mul_le_mul_right (65536^i) (show g i+1≤f i from h1)
  rw [Nat.add_mul] at this
  omega
 ·intro h1
  rcases Nat.lt_or_ge (g i) (f i) with h2|h2
  ·exact h2
  ·have:=Nat.mul_le_mul_right (65536^i) (show f i+1≤g i from by omega)
   rw [Nat.add_mul] at this
   omega
theorem ZgR (l:List Nat) (x:Nat):vL (l++ [x])=vL l+x*65536^l.length:=by
 unfold vL
 rw [List.length_append,List.length_singleton]
 simp only [vTo]
 congr 1
 ·exact Zb4 (fun i hi=>by unfold dg;rw [List.getElem?_append_left hi])
 ·unfold dg;simp
end Go.Proofs.YtcaloldcihpkfaaGreatDoor

/-
 The code of layer 13 (sha256), as it landed: apart, Primes, Mul64, squareTop, cubeTop, root, RotateLeft32, rotr.
-/
namespace Go.Proofs.YtcaloldcihpkfaaGreatDoor
open Go.RowKit
set_option linter.unusedVariables false
set_option maxRecDepth 8192

def nI (l:List Nat):List Int:=l.map fun n:Nat=>(n:Int)
theorem Zaa (l:List Nat):(nI l).length=l.length:=by simp [nI]
theorem Za2 (l:List Nat) (i:Nat):(nI l)[i]?.getD 0=((l[i]?.getD 0:Nat):Int):=by
 unfold nI
 rw [List.getElem?_map]
 cases l[i]? <;>rfl
theorem Zch (l:List Nat) (a:Nat):nI (l++ [a])=nI l++ [(a:Int)]:=by simp [nI]
theorem ZbY (l m:List Nat):nI (l++m)=nI l++nI m:=by simp [nI]
theorem ZcC (l:List Nat) (k:Nat):(nI l).take k=nI (l.take k):=by simp [nI,List.map_take]
theorem ZcN (l:List Nat) (k:Nat):(nI l).drop k=nI (l.drop k):=by simp [nI,List.map_drop]
theorem ZbH (l:List Nat) (k a:Nat):(nI l).set k (a:Int)=nI (l.set k a):=by simp [nI,List.map_set]
theorem Zjj {p q:List Nat} (h:nI p=nI q):p=q:=by
 have h2:=congrArg (List.map Int.toNat) h
 simpa [nI,List.map_map,Function.comp_def] using h2

theorem Zm8 (p:Nat) (l:List Nat) (k:Nat) (hk:k<l.length):Zbw p (l.drop k)=if p<l[k]?.getD 0*l[k]?.getD 0 then true else if p%l[k]?.getD 0=0 then false else Zbw p (l.drop (k+1)):=by
 rw [List.drop_eq_getElem_cons hk,List.getElem?_eq_getElem hk]
 show (bif Nat.blt p (l[k]*l[k]) then true else bif Nat.beq (p%l[k]) 0 then false else Zbw p (l.drop (k+1)))=if p<l[k]*l[k] then true else if p%l[k]=0 then false else Zbw p (l.drop (k+1))
 by_cases h1:p<l[k]*l[k]
 ·rw [if_pos h1,show Nat.blt p (l[k]*l[k])=true from by rw [Nat.blt_eq];exact h1];rfl
 ·rw [if_neg h1,show Nat.blt p (l[k]*l[k])=false from by rw [←Bool.not_eq_true,Nat.blt_eq];exact h1]
  by_cases h2:p%l[k]=0
  ·rw [if_pos h2,show Nat.beq (p%l[k]) 0=true from by rw [Nat.beq_eq];exact h2];rfl
  ·rw [if_neg h2,show Nat.beq (p%l[k]) 0=false from by rw [←Bool.not_eq_true,Nat.beq_eq];exact h2];rfl

set_option maxHeartbeats 800000 in
theorem Zm9 (p:Nat) (l:List Nat) (a:Option Addr) (len cap:Nat) (w:World) (hr:Row .i64 w a len cap (nI l)) (hp:p<1000) (hl:∀x∈l,0<x∧x<542):
  Calls Tryz.prog 192 #[.int .i64 p, .slice a len cap] w fun e w'=>e= .returned (.bool (Zbw p l))∧w=w':=by
 have hm:=hr.hmax
 have hc:=hr.hcap
 have HL:Hid (l.length=len):=by have:=hr.hlen;rw [Zaa] at this;exact this
 unfold maxLen at hm
 go_enter Tryz.func192,Tryz.ntmps192
 go_wp2
 go_loop [9] (fun y=>∃k:Nat,k≤len∧y= .int .i64 k∧Hid (Zbw p l=Zbw p (l.drop k))) (fun y=>len - (intOf y).toNat)
 case atStart=>exact ⟨0,Nat.zero_le _,rfl,rfl⟩
 case round=>
  obtain ⟨k,hk,rfl,HA⟩:=hrel
  by_cases hlt:k<len
  ·obtain ⟨b,off,rfl,hbs,hcell⟩:=hr.hcell (by omega)
   have hc1:=hcell k hlt
   clear hcell
   rw [Za2] at hc1
   have HD:Hid (Zbw p (l.drop k)=if p<l[k]?.getD 0*l[k]?.getD 0 then true else if p%l[k]?.getD 0=0 then false else Zbw p (l.drop (k+1))):=Zm8 p l k (by have:=HL.out;omega)
   have hq:0<l[k]?.getD 0∧l[k]?.getD 0<542:=by
    have hk':k<l.length:=by have:=HL.out;omega
    rw [List.getElem?_eq_getElem hk']
    exact hl _ (List.getElem_mem hk')
   generalize l[k]?.getD 0=q at*
   have hqq:q*q≤541*541:=Nat.mul_le_mul (by omega) (by omega)
   have hcast:(q:Int)*(q:Int)=((q*q:Nat):Int):=(Int.natCast_mul q q).symm
   by_cases h1:p<q*q
   ·have HR:Hid (Zbw p l=true):=by show _=_;rw [HA.out,HD.out,if_pos h1]
    generalize q*q=qq at*
    go_wp2
    go_ret
    exact ⟨ZaC HR.out.symm,rfl⟩
   ·by_cases h2:p%q=0
    ·have HR:Hid (Zbw p l=false):=by show _=_;rw [HA.out,HD.out,if_neg h1,if_pos h2]
     have h2':(p:Int).tmod (q:Int)=0:=by rw [←Int.ofNat_tmod,h2];rfl
     generalize q*q=qq at*
     go_wp2
     go_ret
     exact ⟨ZaC HR.out.symm,rfl⟩
    ·have HR:Hid (Zbw p l=Zbw p (l.drop (k+1))):=by show _=_;rw [HA.out,HD.out,if_neg h1,if_neg h2]
     have h2':¬(p:Int).tmod (q:Int)=0:=by rw [←Int.ofNat_tmod];exact fun h=>h2 (by omega)
     have h2'':((p:Int).tmod (q:Int)==0)=false:=by simpa using h2'
     generalize q*q=qq at*
     go_wp2
     go_round
     case rel=>exact ⟨k+1,by omega,by go_num,HR⟩
     case measure=>simp [intOf];omega
  ·have HR:Hid (Zbw p l=true):=by
    show _=_
    rw [HA.out,List.drop_eq_nil_of_le (by have:=HL.out;omega)]
    rfl
   go_wp2
   go_ret
   exact ⟨ZaC HR.out.symm,rfl⟩
set_option maxHeartbeats 1600000 in
theorem ZfO (n:Nat) (w:World) (hn:n≤100):Calls Tryz.prog 161 #[.int .i64 (n:Int)] w fun e w'=>
  ∃v,e= .returned (.tuple #[v, .int .i64 0])∧w'.ownsRow w.heap.size 3 1 v n ((nI (prL.take n)).map (Value.int .i64))∧Below w.heap.size w w':=by
 obtain ⟨i0,hi0,hz0,hz1,hz2⟩:=info_parts Tryz.info3
 go_enter Tryz.func161,Tryz.ntmps161
 go_wp2
 go_loopw [4,5] (fun v y wr=>∃p:Nat,2≤p∧p≤542∧y= .int .i64 (p:Int)∧Hid ((prTo p).length≤n)∧Hid (wr.ownsRow w.heap.size 3 1 v (prTo p).length ((nI (prTo p)).map (Value.int .i64)))∧Hid (Below w.heap.size w wr)) (fun _ y _=>543 - (intOf y).toNat)
 case atStart=>exact ⟨2,by omega,by omega,rfl,by rw [ZfM];exact Nat.zero_le _,by rw [ZfM];exact World.ownsRow_nil _ _ _ _,Below.refl _ _⟩
 case round=>
  obtain ⟨p,hp2,hp5,rfl,HL,HO,HB⟩:=hrel
  have hsz:w.heap.size≤wr.heap.size:=HB.out.size
  obtain ⟨a,cap,rfl,hrow⟩:=ZaF HO.out
  by_cases hlt:(prTo p).length<n
  ·have hp1:p≤541:=Zjb hn hlt
   have hnx:=Zjc p hp2 hp1
   have hlL:(prTo p).length≤100:=by omega
   have HN:Hid (prTo (p+1)=(if Zbw p (prTo p)=true then prTo p++ [p] else prTo p)):=hnx.1
   clear hnx
   have hap:=Zm9 p (prTo p) a (prTo p).length cap wr hrow (by omega) (fun x hx=>Zjf hx)
   have HLT:Hid ((prTo p).length<n):=hlt
   generalize hLL:(prTo p).length=L at*
   go_wp2_with fail
   refine hap.mono ?_
   rintro e w' ⟨rfl,rfl⟩
   cases h:Zbw p (prTo p)
   ·have HE:Hid (prTo (p+1)=prTo p):=by show _=_;rw [HN.out,h];rfl
    go_wp2
    go_roundw
    case rel=>
     refine ⟨p+1,by omega,by omega,by go_num, ?_, ?_,HB⟩
     ·rw [HE.out,hLL];exact HL
     ·rw [HE.out,hLL];exact HO
    case measure=>simp [intOf];omega
   ·have HE:Hid (prTo (p+1)=prTo p++ [p]):=by show _=_;rw [HN.out,h];rfl
    have hown:=HO.out
    go_wp2_with (at_builtin;refine wpList_append_own _ rfl _ _ 71 rfl w.heap.size 3 i0 (.int .i64 0) 1 8 Tryz.underlying71 hi0 hz0 hz1 hz2 rfl (by decide) _ _ _ rfl (hown.alloc _) ⟨wr.heap.size,0,none⟩ 1 1 [.int .i64 (p:Int)] rfl rfl (cell_one_new _ _ _) (by intro u hu;simp at hu;subst hu;rfl) (by unfold maxLen;omega) (by omega) (by simp;omega) ?_)
    intro v' w1 hown' hgrow _
    have R:=Zb5 hsz hown HB.out hown' hgrow
    rw [←Zch, ←HE.out] at R
    have hLn:(prTo (p+1)).length=L+1:=by rw [HE.out];simp [hLL]
    clear hown' hgrow
    go_wp2
    go_roundw
    case rel=>
     refine ⟨p+1,by omega,by omega,by go_num, ?_, ?_,R.2⟩
     ·rw [hLn];have:=HLT.out;show L+1≤n;omega
     ·rw [hLn];exact R.1
    case measure=>simp [intOf];omega
  ·have e1:(prTo p).length=n:=by have:=HL.out;omega
   have HT:Hid (prTo p=prL.take n):=by show _=_;rw [Zjd p hp2 hp5,e1]
   have hown:=HO.out
   rw [HT.out,List.length_take,ZeQ,Nat.min_eq_left hn] at hown
   rw [e1] at*
   go_wp2
   go_ret2
   exact ⟨_,rfl,hown,HB.out⟩
set_option maxHeartbeats 1000000 in
theorem Zdk (x y:Nat) (hx:x<18446744073709551616) (hy:y<18446744073709551616) (w:World):
  Calls Tryz.prog 166 #[.int .u64 (x:Int), .int .u64 (y:Int)] w fun e w'=>e= .returned (.tuple #[.int .u64 ((x*y/18446744073709551616:Nat):Int), .int .u64 ((x*y%18446744073709551616:Nat):Int)])∧w=w':=by
 obtain ⟨bd,bt,bw,hhi⟩:=Lib.mul64_hi x y hx hy
 have ba:=Lib.half_mul_le (a:=x/4294967296) (b:=y/4294967296) (by omega) (by omega)
 have bb:=Lib.half_mul_le (a:=x/4294967296) (b:=y%4294967296) (by omega) (by omega)
 have bc:=Lib.half_mul_le (a:=x%4294967296) (b:=y/4294967296) (by omega) (by omega)
 have ba':x/4294967296*(y/4294967296)<18446744073709551616:=by omega
 have bb':x/4294967296*(y%4294967296)<18446744073709551616:=by omega
 have bc':x%4294967296*(y/4294967296)<18446744073709551616:=by omega
 have b1:x/4294967296*(y/4294967296)+(x/4294967296*(y%4294967296)+x%4294967296*(y%4294967296)/4294967296)/4294967296<18446744073709551616:=by omega
 have b2:x/4294967296*(y/4294967296)+(x/4294967296*(y%4294967296)+x%4294967296*(y%4294967296)/4294967296)/4294967296+((x/4294967296*(y%4294967296)+x%4294967296*(y%4294967296)/4294967296)%4294967296+x%4294967296*(y/4294967296))/4294967296<18446744073709551616:=by omega
 go_enter Tryz.func166,Tryz.ntmps166
 go_wp2
 simp only [Mul64.maskN x hx,Mul64.maskN y hy,Mul64.divN,Mul64.mulN,Mul64.addN,Mul64.wrapN _ bd,Mul64.wrapN _ bb',Mul64.wrapN _ bt,Mul64.maskN _ bt,Mul64.wrapN _ bc',Mul64.wrapN _ bw,Mul64.wrapN _ ba',Mul64.wrapN _ b1,Mul64.wrapN _ b2,Mul64.wrapM (x*y)]
 rw [hhi]
 go_ret2
 exact ⟨rfl,rfl⟩
theorem ZgS (r:Nat) (w:World) (hr:r<34359738368):Calls Tryz.prog 204 #[.int .u64 (r:Int)] w fun e w'=>e= .returned (.int .u64 (sqT r:Nat))∧w=w':=by
 go_enter Tryz.func204,Tryz.ntmps204
 go_wp2_with fail
 refine (Zdk r r (by omega) (by omega) _).mono ?_
 rintro e w' ⟨rfl,rfl⟩
 generalize hq:r*r/18446744073709551616=q
 generalize r*r%18446744073709551616=m
 go_wp2
 go_ret
 exact ⟨by unfold sqT;rw [hq];rfl,rfl⟩
set_option maxHeartbeats 800000 in
theorem ZgT (r:Nat) (w:World) (hr:r<34359738368):Calls Tryz.prog 203 #[.int .u64 (r:Int)] w fun e w'=>e= .returned (.int .u64 (cbT r:Nat))∧w=w':=by
 have h1:r*r%18446744073709551616<18446744073709551616:=Nat.mod_lt _ (by decide)
 have HC:Hid (cbT r=(r*r/18446744073709551616*r+r*r%18446744073709551616*r/18446744073709551616)%18446744073709551616):=rfl
 have hrr:r*r≤34359738367*34359738367:=Nat.mul_le_mul (by omega) (by omega)
 have h3:r*r/18446744073709551616≤63:=by omega
 have h4:r*r%18446744073709551616*r≤18446744073709551615*34359738367:=Nat.mul_le_mul (by omega) (by omega)
 have h5:r*r/18446744073709551616*r≤63*34359738367:=Nat.mul_le_mul h3 (by omega)
 go_enter Tryz.func203,Tryz.ntmps203
 go_wp2_with fail
 refine (Zdk r r (by omega) (by omega) _).mono ?_
 rintro e w' ⟨rfl,rfl⟩
 generalize r*r/18446744073709551616=hi at*
 generalize r*r%18446744073709551616=lo at*
 go_wp2_with fail
 refine (Zdk lo r (by omega) (by omega) _).mono ?_
 rintro e w' ⟨rfl,rfl⟩
 have h6:lo*r/18446744073709551616≤34359738367:=by omega
 generalize lo*r/18446744073709551616=ca at*
 generalize lo*r%18446744073709551616=cm at*
 have hm:(hi:Int)*(r:Int)=((hi*r:Nat):Int):=(Int.natCast_mul hi r).symm
 generalize hi*r=hr' at*
 go_wp2
 go_ret
 exact ⟨Zbo (by rw [HC.out];go_num),rfl⟩
theorem Zna (n:Nat) (h0:0<n) (h1:n<32):bits .and .u64 (IntKind.u64.wrap (-(n:Int))) 31=((32 - n:Nat):Int):=by
 have e:IntKind.u64.wrap (-(n:Int))=((18446744073709551616 - n:Nat):Int):=by rw [IntKind.wrap_u64];omega
 rw [e]
 have h:=bits_and_u64_nat (18446744073709551616 - n) 31 (by omega) (by omega)
 have e2:(18446744073709551616 - n)&&& 31=(18446744073709551616 - n)%32:=Nat.and_two_pow_sub_one_eq_mod _ 5
 rw [e2] at h
 rw [show ((31:Int))=((31:Nat):Int) from rfl,h]
 omega
theorem ZgU (x n:Nat) (w:World) (hx:x<4294967296) (h0:0<n) (h1:n<32):Calls Tryz.prog 205 #[.int .u32 (x:Int), .int .i64 (-(n:Int))] w fun e w'=>e= .returned (.int .u32 (rr x n:Nat))∧w=w':=by
 have ha:=Zna n h0 h1
 go_enter Tryz.func205,Tryz.ntmps205
 go_wp2
 have e1:(x:Int)*2^(32 - n)%4294967296=((x*2^(32 - n)%4294967296:Nat):Int):=by simp
 have e2:(x:Int)/2^(32 - (32 - n))=((x/2^n:Nat):Int):=by rw [show 32 - (32 - n)=n from by omega];simp
 go_ret
 exact ⟨Zbo (by rw [e1,e2,u32_or_nat _ _ (mlt _) (dlt hx),ZgK x n hx (by omega)]),rfl⟩
theorem Zbs (x n:Nat) (w:World) (hx:x<4294967296) (h0:0<n) (h1:n<32):Calls Tryz.prog 179 #[.int .u32 (x:Int), .int .i64 (n:Int)] w fun e w'=>e= .returned (.int .u32 (rr x n:Nat))∧w=w':=by
 go_enter Tryz.func179,Tryz.ntmps179
 go_wp2_with fail
 refine (ZgU x n _ hx h0 h1).mono ?_
 rintro e w' ⟨rfl,rfl⟩
 go_wp2
 go_ret
 exact ⟨rfl,rfl⟩
end Go.Proofs.YtcaloldcihpkfaaGreatDoor

/-
 Layer 13's reference (casemateref13): power, shr, rotr, xor, and, not, three, digits, Times, Greater, above, frac give what the plain functions give; nothing old turns.
-/
namespace Go.Proofs.YtcaloldcihpkfaaGreatDoor
open Go.RowKit
set_option linter.unusedVariables false
set_option maxRecDepth 8192

theorem Zbl {P:Program} {f:FuncId} {args:Array Value} {w:World} {n:Nat} {v:Value}
  (h:Calls P f args (w.drewN n) fun e w'=>e= .returned v∧w.drewN n=w'):Calls P f args (w.drewN n) fun e w''=>e= .returned v∧∃m,w''=w.drewN m:=
 h.mono fun _ _ ⟨he,hm⟩=>⟨he,n,hm.symm⟩

theorem Zdl (n:Nat) (w:World) (hn:n≤60):Calls Tryz.prog 71 #[.int .i64 (n:Int)] w fun e w'=>e= .returned (.int .i64 ((2^n:Nat):Int))∧w=w':=by
 go_enter Tryz.func71,Tryz.ntmps71
 go_wp2
 go_loop [3,4] (fun x y=>∃k:Nat,k≤n∧y= .int .i64 (k:Int)∧x= .int .i64 ((2^k:Nat):Int)) (fun _ y=>n - (intOf y).toNat)
 case atStart=>exact ⟨0,Nat.zero_le _,rfl,rfl⟩
 case round=>
  obtain ⟨k,hk,rfl,rfl⟩:=hrel
  have HP:Hid (2^(k+1)=2*2^k):=by show _=_;rw [Nat.pow_succ];omega
  have hb:2^k≤2^60:=Nat.pow_le_pow_right (by decide) (by omega)
  by_cases hlt:k<n
  ·generalize 2^k=p at*
   go_wp2
   go_round
   case rel=>exact ⟨k+1,by omega,by go_num,by rw [HP.out];go_num⟩
   case measure=>simp [intOf];omega
  ·obtain rfl:k=n:=by omega
   generalize hpp:2^k=p at*
   have HQ:Hid (2^k=p):=hpp
   clear hpp
   go_wp2
   go_ret
   exact ⟨Zbo (by rw [←HQ.out];simp),rfl⟩
theorem Zjk (x n:Nat) (w:World) (hn:n≤60) (hx:x<4294967296):Calls Tryz.prog 148 #[.int .i64 (x:Int), .int .i64 (n:Int)] w fun e w'=>e= .returned (.int .i64 ((x/2^n:Nat):Int))∧w=w':=by
 have hb:2^n≤2^60:=Nat.pow_le_pow_right (by decide) (by omega)
 have hp:0<2^n:=Nat.two_pow_pos n
 go_enter Tryz.func148,Tryz.ntmps148
 go_wp2_with fail
 refine (Zdl n _ hn).mono ?_
 rintro e w' ⟨rfl,rfl⟩
 have HQ:Hid (x/2^n=x/2^n):=rfl
 generalize hpp:2^n=p at hb hp ⊢
 have hd:(x:Int).tdiv (p:Int)=((x/p:Nat):Int):=(Int.ofNat_tdiv x p).symm
 have HE:Hid (x/2^n=x/p):=by show _=_;rw [hpp]
 clear hpp
 have hle:x/p≤x:=Nat.div_le_self _ _
 generalize x/p=q at*
 go_wp2
 go_ret
 exact ⟨Zbo (by rw [HE.out]),rfl⟩
set_option maxHeartbeats 1600000 in
theorem ZdL (x n:Nat) (w:World) (hx:x<4294967296) (h0:0<n) (hn:n<32):Calls Tryz.prog 147 #[.int .i64 (x:Int), .int .i64 (n:Int)] w fun e w'=>e= .returned (.int .i64 ((rr x n:Nat):Int))∧∃m,w'=w.drewN m:=by
 have hb:2^n≤2^31:=Nat.pow_le_pow_right (by decide) (by omega)
 have hp:0<2^n:=Nat.two_pow_pos n
 have hb2:2^(32 - n)≤2^31:=Nat.pow_le_pow_right (by decide) (by omega)
 have hRl:=ZaG x n hx (by omega)
 have HR:Hid (rr x n=x/2^n+x%2^n*2^(32 - n)):=rfl
 have hRl':x/2^n+x%2^n*2^(32 - n)<4294967296:=hRl
 have c1:=fun w=>Zdl n w (by omega)
 have c2:=fun w=>Zdl (32 - n) w (by omega)
 have e32:(32:Int) - (n:Int)=((32 - n:Nat):Int):=by omega
 have e32w:IntKind.i64.wrap ((32:Int) - (n:Int))=((32 - n:Nat):Int):=by rw [IntKind.wrap_i64];omega
 generalize 2^n=p at*
 generalize 2^(32 - n)=q at*
 have hd:(x:Int).tdiv (p:Int)=((x/p:Nat):Int):=(Int.ofNat_tdiv x p).symm
 have hm:(x:Int).tmod (p:Int)=((x%p:Nat):Int):=(Int.ofNat_tmod x p).symm
 have hle:x/p≤x:=Nat.div_le_self _ _
 generalize x/p=d at*
 generalize x%p=m at*
 have hmq:(m:Int)*(q:Int)=((m*q:Nat):Int):=(Int.natCast_mul m q).symm
 generalize m*q=mq at*
 generalize 32 - n=n2 at*
 go_enter Tryz.func147,Tryz.ntmps147
 go_wp2_with fail
 go_quiet (first
  | (go_at_call 71;with_reducible exact Zbl (c1 _))
  | (go_at_call 71;with_reducible exact Zbl (c2 _)))
 go_wp2
 go_ret
 exact ⟨Zbo (by rw [HR.out];go_num),_,rfl⟩
set_option maxHeartbeats 800000 in
theorem ZcX (a b:Nat) (w:World) (ha:a<4294967296) (hb:b<4294967296):Calls Tryz.prog 107 #[.int .i64 (a:Int), .int .i64 (b:Int)] w fun e w'=>e= .returned (.int .i64 ((a^^^b:Nat):Int))∧w=w':=by
 have HX:Hid ((a^^^b)%2^32=a^^^b):=Nat.mod_eq_of_lt (xlt ha hb)
 go_enter Tryz.func107,Tryz.ntmps107
 go_wp2
 go_loop [0,1,5,6,7] (fun x y o p i=>∃k:Nat,k≤32∧i= .int .i64 (k:Int)∧x= .int .i64 ((a/2^k:Nat):Int)∧y= .int .i64 ((b/2^k:Nat):Int)∧o= .int .i64 (((a^^^b)%2^k:Nat):Int)∧p= .int .i64 ((2^k:Nat):Int)) (fun _ _ _ _ i=>32 - (intOf i).toNat)
 case atStart=>exact ⟨0,by omega,rfl,by simp,by simp,by simp [Nat.mod_one],by simp⟩
 case round=>
  obtain ⟨k,hk,rfl,rfl,rfl,rfl,rfl⟩:=hrel
  by_cases hlt:k<32
  ·have HS:Hid ((a^^^b)%2^(k+1)=(a^^^b)%2^k+(if a/2^k%2=b/2^k%2 then 0 else 2^k)):=Zm2 a b k
   have HA:Hid (a/2^(k+1)=a/2^k/2):=(ZdK a k).symm
   have HB:Hid (b/2^(k+1)=b/2^k/2):=(ZdK b k).symm
   have HP:Hid (2^(k+1)=2*2^k):=by show _=_;rw [Nat.pow_succ];omega
   have h1:a/2^k≤a:=Nat.div_le_self _ _
   have h2:b/2^k≤b:=Nat.div_le_self _ _
   have h3:(a^^^b)%2^k<2^k:=Nat.mod_lt _ (Nat.two_pow_pos k)
   have h4:2^k≤2^32:=Nat.pow_le_pow_right (by decide) (by omega)
   generalize a/2^k=n1 at*
   generalize b/2^k=n2 at*
   generalize (a^^^b)%2^k=o at*
   generalize 2^k=p at*
   by_cases hd:n1%2=n2%2
   ·have hq:(((n1:Int)%2) != ((n2:Int)%2))=false:=by simp;omega
    go_wp2
    go_round
    case rel=>exact ⟨k+1,by omega,by go_num,by rw [HA.out];go_num,by rw [HB.out];go_num,by rw [HS.out,if_pos hd];go_num,by rw [HP.out];go_num⟩
    case measure=>simp [intOf];omega
   ·have hq:(((n1:Int)%2) != ((n2:Int)%2))=true:=by simp;omega
    go_wp2
    go_round
    case rel=>exact ⟨k+1,by omega,by go_num,by rw [HA.out];go_num,by rw [HB.out];go_num,by rw [HS.out,if_neg hd];go_num,by rw [HP.out];go_num⟩
    case measure=>simp [intOf];omega
  ·obtain rfl:k=32:=by omega
   generalize a/2^32=n1 at*
   generalize b/2^32=n2 at*
   generalize (a^^^b)%2^32=o at*
   go_wp2
   go_ret
   exact ⟨Zbo (by rw [HX.out]),rfl⟩
set_option maxHeartbeats 800000 in
theorem ZeY (a b:Nat) (w:World) (ha:a<4294967296) (hb:b<4294967296):Calls Tryz.prog 108 #[.int .i64 (a:Int), .int .i64 (b:Int)] w fun e w'=>e= .returned (.int .i64 ((a&&& b:Nat):Int))∧w=w':=by
 have HX:Hid ((a&&& b)%2^32=a&&& b):=Nat.mod_eq_of_lt (alt hb)
 go_enter Tryz.func108,Tryz.ntmps108
 go_wp2
 go_loop [0,1,5,6,7] (fun x y o p i=>∃k:Nat,k≤32∧i= .int .i64 (k:Int)∧x= .int .i64 ((a/2^k:Nat):Int)∧y= .int .i64 ((b/2^k:Nat):Int)∧o= .int .i64 (((a&&& b)%2^k:Nat):Int)∧p= .int .i64 ((2^k:Nat):Int)) (fun _ _ _ _ i=>32 - (intOf i).toNat)
 case atStart=>exact ⟨0,by omega,rfl,by simp,by simp,by simp [Nat.mod_one],by simp⟩
 case round=>
  obtain ⟨k,hk,rfl,rfl,rfl,rfl,rfl⟩:=hrel
  by_cases hlt:k<32
  ·have HS:Hid ((a&&& b)%2^(k+1)=(a&&& b)%2^k+a/2^k%2*(b/2^k%2)*2^k):=Zm3 a b k
   have HA:Hid (a/2^(k+1)=a/2^k/2):=(ZdK a k).symm
   have HB:Hid (b/2^(k+1)=b/2^k/2):=(ZdK b k).symm
   have HP:Hid (2^(k+1)=2*2^k):=by show _=_;rw [Nat.pow_succ];omega
   have h1:a/2^k≤a:=Nat.div_le_self _ _
   have h2:b/2^k≤b:=Nat.div_le_self _ _
   have h3:(a&&& b)%2^k<2^k:=Nat.mod_lt _ (Nat.two_pow_pos k)
   have h4:2^k≤2^32:=Nat.pow_le_pow_right (by decide) (by omega)
   generalize a/2^k=n1 at*
   generalize b/2^k=n2 at*
   generalize (a&&& b)%2^k=o at*
   generalize 2^k=p at*
   have hm1:(n1:Int)%2*((n2:Int)%2)=((n1%2*(n2%2):Nat):Int):=by simp
   have hle1:n1%2*(n2%2)≤1*1:=Nat.mul_le_mul (by omega) (by omega)
   generalize n1%2*(n2%2)=c at*
   have hm2:(c:Int)*(p:Int)=((c*p:Nat):Int):=by simp
   have hle2:c*p≤1*p:=Nat.mul_le_mul_right _ hle1
   generalize c*p=cp at*
   go_wp2
   go_round
   case rel=>exact ⟨k+1,by omega,by go_num,by rw [HA.out];go_num,by rw [HB.out];go_num,by rw [HS.out];go_num,by rw [HP.out];go_num⟩
   case measure=>simp [intOf];omega
  ·obtain rfl:k=32:=by omega
   generalize a/2^32=n1 at*
   generalize b/2^32=n2 at*
   generalize (a&&& b)%2^32=o at*
   go_wp2
   go_ret
   exact ⟨Zbo (by rw [HX.out]),rfl⟩
theorem Znb (a:Nat) (w:World) (ha:a<4294967296):Calls Tryz.prog 109 #[.int .i64 (a:Int)] w fun e w'=>e= .returned (.int .i64 ((4294967295 - a:Nat):Int))∧w=w':=by
 go_enter Tryz.func109,Tryz.ntmps109
 go_wp2
 go_ret
 exact ⟨Zbo (by go_num),rfl⟩
theorem Zjl (x a b c:Nat) (w:World) (hx:x<4294967296) (ha:0<a) (ha2:a<32) (hb:0<b) (hb2:b<32) (hc:0<c) (hc2:c<32):
  Calls Tryz.prog 110 #[.int .i64 (x:Int), .int .i64 (a:Int), .int .i64 (b:Int), .int .i64 (c:Int)] w fun e w'=>e= .returned (.int .i64 ((rr x a^^^rr x b^^^rr x c:Nat):Int))∧∃m,w'=w.drewN m:=by
 have l1:=ZaG x a hx (by omega)
 have l2:=ZaG x b hx (by omega)
 have l3:=ZaG x c hx (by omega)
 go_enter Tryz.func110,Tryz.ntmps110
 go_wp2_with fail
 refine (ZdL x a _ hx ha ha2).mono ?_
 rintro e w' ⟨rfl,m1,rfl⟩
 go_wp2_with fail
 refine (ZdL x b _ hx hb hb2).mono ?_
 rintro e w' ⟨rfl,m2,rfl⟩
 go_wp2_with fail
 refine (ZcX _ _ _ l1 l2).mono ?_
 rintro e w' ⟨rfl,rfl⟩
 go_wp2_with fail
 refine (ZdL x c _ hx hc hc2).mono ?_
 rintro e w' ⟨rfl,m3,rfl⟩
 go_wp2_with fail
 refine (ZcX _ _ _ (xlt l1 l2) l3).mono ?_
 rintro e w' ⟨rfl,rfl⟩
 go_wp2
 go_ret
 exact ⟨rfl,m1+m2+m3,by simp [Nat.add_assoc]⟩
end Go.Proofs.YtcaloldcihpkfaaGreatDoor

/-
 Layer 13's reference, of numbers as digits: digits, Times, Greater, above, frac.
-/
namespace Go.Proofs.YtcaloldcihpkfaaGreatDoor
open Go.RowKit
set_option linter.unusedVariables false
set_option maxRecDepth 8192

theorem Zbx {B:Nat} {a w:World} (h:Below B a w) (n:Nat):Below B a (w.drewN n):=⟨h.os,h.tape,h.output,h.size,h.block⟩
theorem ZgV {w w':World} {base:Nat} {e:TypeId} {size:Nat} {v:Value} {n:Nat} {xs:List Value} (h:w.ownsRow base e size v n xs) (hb:Below w.heap.size w w'):w'.ownsRow base e size v n xs:=by
 refine ⟨h.1, ?_⟩
 rcases h.2 with h2|⟨g,cap,cur,hv,hg,hh,r⟩
 ·exact .inl h2
 ·have hlt:g<w.heap.size:=by
   rcases Nat.lt_or_ge g w.heap.size with hh'|hh'
   ·exact hh'
   ·rw [Array.getElem?_eq_none hh'] at hh;simp at hh
  exact .inr ⟨g,cap,cur,hv,hg,by rw [hb.block g hlt];exact hh,r⟩
theorem ZbB (l:List Nat) (i:Nat):(nI l)[i]?.getD 0=((dg l i:Nat):Int):=Za2 l i
theorem Znc (x k:Nat) (hx:x<549755813888) (h:0<x/65536^k):k<3:=by
 rcases Nat.lt_or_ge k 3 with h1|h1
 ·exact h1
 ·exfalso
  have h2:65536^3≤65536^k:=Nat.pow_le_pow_right (by decide) h1
  have h3:x/65536^k=0:=Nat.div_eq_of_lt (by omega)
  omega
set_option maxHeartbeats 800000 in
theorem Znd (x:Nat) (w:World) (hx:x<549755813888):Calls Tryz.prog 186 #[.int .i64 (x:Int)] w fun e w'=>
  ∃v,e= .returned v∧∃k,k≤3∧x<65536^k∧w'.ownsRow w.heap.size 3 1 v k ((nI (digL x k)).map (Value.int .i64))∧Below w.heap.size w w':=by
 obtain ⟨i0,hi0,hz0,hz1,hz2⟩:=info_parts Tryz.info3
 go_enter Tryz.func186,Tryz.ntmps186
 go_wp2
 go_loopw [0,3] (fun y v wr=>∃k:Nat,k≤3∧y= .int .i64 ((x/65536^k:Nat):Int)∧Hid (wr.ownsRow w.heap.size 3 1 v k ((nI (digL x k)).map (Value.int .i64)))∧Hid (Below w.heap.size w wr)) (fun y _ _=>(intOf y).toNat)
 case atStart=>exact ⟨0,by omega,by simp,World.ownsRow_nil _ _ _ _,Below.refl _ _⟩
 case round=>
  obtain ⟨k,hk,rfl,HO,HB⟩:=hrel
  have hsz:w.heap.size≤wr.heap.size:=HB.out.size
  have HD:Hid (digL x (k+1)=digL x k++ [x/65536^k%65536]):=ZgQ x k
  have HE:Hid (x/65536^(k+1)=x/65536^k/65536):=by show _=_;rw [Nat.pow_succ,Nat.div_div_eq_div_mul]
  have h3:=Znc x k hx
  have hle:x/65536^k≤x:=Nat.div_le_self _ _
  have H0:Hid (x/65536^k=0→x<65536^k):=fun h=>by
   rcases Nat.lt_or_ge x (65536^k) with h1|h1
   ·exact h1
   ·have:=Nat.div_pos h1 (Nat.pow_pos (by decide));omega
  generalize x/65536^k=y at*
  by_cases hp:0<y
  ·have hk3:=h3 hp
   have hown:=HO.out
   go_wp2_with (at_builtin;refine wpList_append_own _ rfl _ _ 71 rfl w.heap.size 3 i0 (.int .i64 0) 1 8 Tryz.underlying71 hi0 hz0 hz1 hz2 rfl (by decide) _ _ _ rfl (hown.alloc _) ⟨wr.heap.size,0,none⟩ 1 1 [.int .i64 ((y:Int)%65536)] rfl rfl (cell_one_new _ _ _) (by intro u hu;simp at hu;subst hu;rfl) (by unfold maxLen;omega) (by omega) (by simp;omega) ?_)
   intro v' w1 hown' hgrow _
   have R:=Zb5 hsz hown HB.out hown' hgrow
   rw [show ((y:Int)%65536)=((y%65536:Nat):Int) from by omega, ←Zch, ←HD.out] at R
   clear hown' hgrow
   go_wp2
   go_roundw
   case rel=>exact ⟨k+1,by omega,by rw [HE.out];go_num,R.1,R.2⟩
   case measure=>simp [intOf];omega
  ·have HX:Hid (x<65536^k):=H0.out (by omega)
   obtain rfl:y=0:=by omega
   clear H0
   go_wp2
   go_ret
   exact ⟨_,rfl,k,hk,HX.out,HO.out,HB.out⟩
set_option maxHeartbeats 3200000 in
theorem Zne (a b:List Nat) (aa ab:Option Addr) (la ca lb cb:Nat) (w:World) (ha:Row .i64 w aa la ca (nI a)) (hb:Row .i64 w ab lb cb (nI b)) (da:Dig a) (db:Dig b) (hla:la≤20) (hlb:lb≤20):
  Calls Tryz.prog 187 #[.slice aa la ca, .slice ab lb cb] w fun e w'=>
   ∃v,e= .returned v∧∃out:List Nat,out.length=la+lb+1∧Dig out∧vL out=vL a*vL b∧w'.ownsRow w.heap.size 3 1 v (la+lb+1) ((nI out).map (Value.int .i64))∧Below w.heap.size w w':=by
 obtain ⟨i0,hi0,hz0,hz1,hz2⟩:=info_parts Tryz.info3
 have HA:Hid (a.length=la):=by have:=ha.hlen;rwa [Zaa] at this
 have HBl:Hid (b.length=lb):=by have:=hb.hlen;rwa [Zaa] at this
 have hmax:la+lb+1≤maxLen:=by unfold maxLen;omega
 have hmk:∀w1:World,w1.ownsRow w.heap.size 3 1 (.slice (some ⟨w.heap.size,0,none⟩) (la+lb+1) (la+lb+1)) (la+lb+1) (madeCells (Value.int IntKind.i64 0).cells ((la+lb+1)*1)).toList→w.grownBy w1 none→
   w1.ownsRow w.heap.size 3 1 (.slice (some ⟨w.heap.size,0,none⟩) (la+lb+1) (la+lb+1)) (la+lb+1) ((nI (List.replicate (la+lb+1) 0)).map (Value.int .i64))∧Below w.heap.size w w1:=fun w1 h1 h2=>by
  refine ⟨?_,(Below.refl _ _).grown h2 (Nat.le_refl _) (by simp)⟩
  rw [ZfP] at h1
  simpa [nI] using h1
 have hwr:IntKind.i64.wrap ((la:Int)+(lb:Int))=((la+lb:Nat):Int):=by rw [IntKind.wrap_i64];omega
 generalize hL:la+lb+1=L at*
 go_enter Tryz.func187,Tryz.ntmps187
 go_wp2_with (at_make;refine wpList_make_full _ rfl _ _ 71 rfl w.heap.size 3 i0 (.int .i64 0) 1 Tryz.underlying71 hi0 hz0 hz1 _ _ _ _ L rfl rfl (by omega) (by omega) (by rw [hz2];omega) hmax (Nat.le_refl _) ?_;intro w1 hown1 hgrow1)
 obtain ⟨hown2,hb2⟩:=hmk w1 hown1 hgrow1
 clear hmk hown1 hgrow1
 go_loopw [6] (fun y wr=>∃(i:Nat) (out:List Nat),i≤la∧y= .int .i64 (i:Int)∧Hid (out.length=a.length+b.length+1)∧Hid (Dig out)∧Hid (vL out=vTo (dg a) i*vL b)∧Hid (wr.ownsRow w.heap.size 3 1 (.slice (some ⟨w.heap.size,0,none⟩) L L) L ((nI out).map (Value.int .i64)))∧Hid (Below w.heap.size w wr)) (fun y _=>la - (intOf y).toNat)
 case atStart=>exact ⟨0,List.replicate L 0,Nat.zero_le _,rfl,by rw [List.length_replicate,HA.out,HBl.out];exact hL.symm,Dig.zero,by show _=_;rw [ZcM];simp [vTo],hown2,hb2⟩
 case round=>
  clear hown2 hb2
  obtain ⟨i,o,hi,rfl,HOL,HOD,HOV,HO,HB⟩:=hrel
  by_cases hlt:i<la
  ·have HT0:Hid (TimI a b o o i 0 0):=TimI.begin HOL.out HOD.out HOV.out
   go_wp2
   go_loopw [7,8] (fun c y ws=>∃(k cc:Nat) (out:List Nat),k≤L∧y= .int .i64 (k:Int)∧c= .int .i64 (cc:Int)∧Hid (TimI a b o out i k cc)∧Hid (ws.ownsRow w.heap.size 3 1 (.slice (some ⟨w.heap.size,0,none⟩) L L) L ((nI out).map (Value.int .i64)))∧Hid (Below w.heap.size w ws)) (fun _ y _=>L+1 - (intOf y).toNat)
   case atStart=>exact ⟨0,0,o,Nat.zero_le _,rfl,rfl,HT0,HO,HB⟩
   case round=>
    clear HOL HOD HOV HO HB HT0
    obtain ⟨k,c,out,hk,rfl,rfl,HT,HO,HB⟩:=hrel
    have hcl:=HT.out.clt
    by_cases hgo:k<lb∨0<c
    ·have hroom:=HT.out.room da db (by rw [HA.out];exact hlt) (by rw [HBl.out];exact hgo)
     rw [HA.out,HBl.out,hL] at hroom
     have hkk:lb≤k→k=lb:=hroom.2
     have hik:=hroom.1
     clear hroom
     have hik':(i:Int)+(k:Int)<(L:Int):=by omega
     have HN:Hid (∀x,x=dg out (i+k)+c+dg a i*dg b k→TimI a b o (out.set (i+k) (x%65536)) i (k+1) (x/65536)):=fun x hx=>HT.out.next da db (by rw [HA.out,HBl.out,hL];exact hik) hx
     have hcell:=ZeZ HO.out (i+k) hik
     rw [ZbB] at hcell
     have hfz:=HO.out.frozenAt (i+k)
     have hown:=HO.out
     have hsz:=HB.out.size
     obtain ⟨bA,oA,rfl,hbA,hcA⟩:=(ha.below HB.out (Nat.le_refl _)).hcell (by omega)
     have hcA1:=hcA i hlt
     clear hcA
     rw [ZbB] at hcA1
     have b1:=da.at i
     have b3:=HT.out.dig.at (i+k)
     have eik:IntKind.i64.wrap ((i:Int)+(k:Int))=((i+k:Nat):Int):=by rw [IntKind.wrap_i64];omega
     have eik2:(i:Int)+(k:Int)=((i+k:Nat):Int):=by omega
     by_cases hkb:k<lb
     ·obtain ⟨bB,oB,rfl,hbB,hcB⟩:=(hb.below HB.out (Nat.le_refl _)).hcell (by omega)
      have hcB1:=hcB k hkb
      clear hcB
      rw [ZbB] at hcB1
      have b2:=db.at k
      have hp:=Nat.mul_le_mul (show dg a i≤65535 by omega) (show dg b k≤65535 by omega)
      generalize dg a i=x1 at*
      generalize dg b k=x2 at*
      generalize dg out (i+k)=x3 at*
      have hm:(x1:Int)*(x2:Int)=((x1*x2:Nat):Int):=(Int.natCast_mul x1 x2).symm
      generalize x1*x2=xx at*
      have HS:Hid (_∧_):=Zjm (q:=i+k) (x:=((x3:Int)+(c:Int)+(xx:Int))%65536) (Nat.le_refl _) hown HB.out
      have HN1:=HN.out (x3+c+xx) rfl
      have e1:((x3:Int)+(c:Int)+(xx:Int))%65536=(((x3+c+xx)%65536:Nat):Int):=by omega
      have HE1:Hid (((x3:Int)+(c:Int)+(xx:Int))%65536=(((x3+c+xx)%65536:Nat):Int)):=e1
      clear e1
      generalize hikk:i+k=ik at*
      have HIK:Hid (i+k=ik):=hikk
      clear hikk
      have hlb':(k:Int)<(lb:Int):=by omega
      clear HN hgo hkk
      go_wp2_with fail
      go_quiet (fail)
      go_wp2
      go_roundw
      case rel=>
       refine ⟨k+1,(x3+c+xx)/65536,out.set ik ((x3+c+xx)%65536),by omega,by go_num,by go_num,HN1, ?_, ?_⟩
       ·have:=HS.out.1
        rw [HE1.out,ZbH] at this
        exact this
       ·exact (Zbx HB.out _).setCell (Nat.le_refl _) _
      case measure=>simp [intOf];omega
     ·have hc0:0<c:=by omega
      have hz:dg b k=0:=Zbj (by rw [HBl.out];omega)
      rw [hz] at HN
      generalize dg a i=x1 at*
      generalize dg out (i+k)=x3 at*
      have HS:Hid (_∧_):=Zjm (q:=i+k) (x:=((x3:Int)+(c:Int))%65536) (Nat.le_refl _) hown HB.out
      have HN1:=HN.out (x3+c) (by omega)
      have HE1:Hid (((x3:Int)+(c:Int))%65536=(((x3+c)%65536:Nat):Int)):=by show _=_;omega
      generalize hikk:i+k=ik at*
      have HIK:Hid (i+k=ik):=hikk
      clear hikk
      have hlb':¬(k:Int)<(lb:Int):=by omega
      clear HN hgo hkk hz
      go_wp2
      go_roundw
      case rel=>
       refine ⟨k+1,(x3+c)/65536,out.set ik ((x3+c)%65536),by omega,by go_num,by go_num,HN1, ?_, ?_⟩
       ·have:=HS.out.1
        rw [HE1.out,ZbH] at this
        exact this
       ·exact HS.out.2
      case measure=>simp [intOf];omega
    ·obtain rfl:c=0:=by omega
     have hge:lb≤k:=by omega
     have HV:Hid (vL out=vTo (dg a) (i+1)*vL b):=HT.out.done (by rw [HBl.out];exact hge)
     have HOL:Hid (out.length=a.length+b.length+1):=HT.out.len
     have HOD:Hid (Dig out):=HT.out.dig
     clear HT hgo
     have hlb':¬(k:Int)<(lb:Int):=by omega
     go_wp2
     go_roundw
     case rel=>exact ⟨i+1,out,by omega,by go_num,HOL,HOD,HV,HO,HB⟩
     case measure=>simp [intOf];omega
  ·obtain rfl:i=la:=by omega
   have HV:Hid (vL o=vL a*vL b):=by
    show _=_
    rw [HOV.out,show vTo (dg a) i=vL a from by unfold vL;rw [HA.out]]
   go_wp2
   go_ret
   exact ⟨_,rfl,o,by rw [HOL.out,HA.out,HBl.out,hL],HOD.out,HV.out,HO.out,HB.out⟩
end Go.Proofs.YtcaloldcihpkfaaGreatDoor

/-
 Layer 13's reference: Greater, above, frac, Primes, Start, Rounds.
-/
namespace Go.Proofs.YtcaloldcihpkfaaGreatDoor
open Go.RowKit
set_option linter.unusedVariables false
set_option maxRecDepth 8192

set_option maxHeartbeats 3200000 in
theorem Znf (a b:List Nat) (aa ab:Option Addr) (la ca lb cb:Nat) (w:World) (ha:Row .i64 w aa la ca (nI a)) (hb:Row .i64 w ab lb cb (nI b)) (da:Dig a) (db:Dig b) (hla:la≤100) (hlb:lb≤100):
  Calls Tryz.prog 188 #[.slice aa la ca, .slice ab lb cb] w fun e w'=>e= .returned (.bool (decide (vL b<vL a)))∧w=w':=by
 have HA:Hid (a.length=la):=by have:=ha.hlen;rwa [Zaa] at this
 have HBl:Hid (b.length=lb):=by have:=hb.hlen;rwa [Zaa] at this
 obtain ⟨N,hN⟩:∃N:Nat,((N=la∧lb≤la)∨(N=lb∧la<lb)):=by
  rcases Nat.lt_or_ge la lb with h|h
  ·exact ⟨lb, .inr ⟨rfl,h⟩⟩
  ·exact ⟨la, .inl ⟨rfl,h⟩⟩
 have HVa:Hid (vTo (dg a) N=vL a):=ZbG a N (by rw [HA.out];omega)
 have HVb:Hid (vTo (dg b) N=vL b):=ZbG b N (by rw [HBl.out];omega)
 have hN1:la≤N∧lb≤N∧N≤100:=by omega
 have hstart:∀(Q:Prop),((lb:Int)≤(la:Int)→N=la→Q)→((la:Int)<(lb:Int)→N=lb→Q)→Q:=fun Q h1 h2=>by
  rcases hN with ⟨h,h'⟩|⟨h,h'⟩
  ·exact h1 (by omega) h
  ·exact h2 (by omega) h
 apply hstart
 ·intro hle hNe
  subst hNe
  clear hstart hN
  go_enter Tryz.func188,Tryz.ntmps188
  go_wp2
  go_loop [5] (fun y=>∃k:Nat,k≤N∧y= .int .i64 ((k:Int) - 1)∧Hid (∀j,k≤j→j<N→dg a j=dg b j)) (fun y=>(intOf y+1).toNat)
  case atStart=>exact ⟨N,Nat.le_refl _,by go_num,fun j h1 h2=>by omega⟩
  case round=>
   obtain ⟨k,hk,rfl,HE⟩:=hrel
   by_cases h0:k=0
   ·subst h0
    have HF:Hid (decide (vL b<vL a)=false):=by
     show _=_
     rw [decide_eq_false_iff_not, ←HVa.out, ←HVb.out,Zb4 (fun i hi=>HE.out i (Nat.zero_le _) hi)]
     omega
    go_wp2
    go_ret
    exact ⟨ZaC HF.out.symm,rfl⟩
   ·have hto:((k:Int) - 1).toNat=k - 1:=by omega
    have hk0:(0:Int)≤(k:Int) - 1:=by omega
    have HNE:Hid (dg a (k - 1)≠dg b (k - 1)→decide (vL b<vL a)=decide (dg b (k - 1)<dg a (k - 1))):=fun hne=>by
     rw [decide_eq_decide, ←HVa.out, ←HVb.out]
     exact (Zec (i:=k - 1) (by omega) da.at db.at (fun j h1 h2=>HE.out j (by omega) h2) hne).symm
    have HEQ:Hid (dg a (k - 1)=dg b (k - 1)→∀j,k - 1≤j→j<N→dg a j=dg b j):=fun he j h1 h2=>by
     by_cases e:j=k - 1
     ·rw [e];exact he
     ·exact HE.out j (by omega) h2
    clear HE
    have fin:∀x y:Nat,dg a (k - 1)=x→dg b (k - 1)=y→Hid ((x≠y→decide (vL b<vL a)=decide (y<x))∧(x=y→∀j,k - 1≤j→j<N→dg a j=dg b j)):=by
     rintro x y rfl rfl
     exact ⟨HNE.out,HEQ.out⟩
    clear HNE HEQ
    have hk1:(k:Int) - 1<(N:Int):=by omega
    obtain ⟨b1,o1,rfl,hb1,hc1⟩:=ha.hcell (by omega)
    have hd1:=hc1 (k - 1) (by omega)
    clear hc1
    rw [ZbB] at hd1
    by_cases hjo:k - 1<lb
    ·obtain ⟨b2,o2,rfl,hb2,hc2⟩:=hb.hcell (by omega)
     have hd2:=hc2 (k - 1) hjo
     clear hc2
     rw [ZbB] at hd2
     have hk2:(k:Int) - 1<(lb:Int):=by omega
     have HF:=fin _ _ rfl rfl
     clear fin
     generalize hxa:dg a (k - 1)=x at*
     generalize hya:dg b (k - 1)=y at*
     clear hxa hya
     by_cases hxy:x=y
     ·have hq:((x:Int) != (y:Int))=false:=by simp;omega
      have HG:Hid (∀j,k - 1≤j→j<N→dg a j=dg b j):=HF.out.2 hxy
      have HXY:Hid (x=y):=hxy
      clear HF hxy
      go_wp2
      go_round
      case rel=>exact ⟨k - 1,by omega,by go_num,HG⟩
      case measure=>simp [intOf];omega
     ·have hq:((x:Int) != (y:Int))=true:=by simp;omega
      have HG:Hid (decide (vL b<vL a)=decide (y<x)):=HF.out.1 hxy
      have HXY:Hid (¬x=y):=hxy
      clear HF hxy
      go_wp2
      go_ret
      exact ⟨ZaC (by rw [HG.out,decide_eq_decide]<;>omega),rfl⟩
    ·have hz:dg b (k - 1)=0:=Zbj (by rw [HBl.out];omega)
     have hk2:¬(k:Int) - 1<(lb:Int):=by omega
     have HF:=fin _ 0 rfl hz
     clear fin hz
     generalize hxa:dg a (k - 1)=x at*
     clear hxa
     by_cases hxy:x=0
     ·have hq:((x:Int) != 0)=false:=by simp;omega
      have HG:Hid (∀j,k - 1≤j→j<N→dg a j=dg b j):=HF.out.2 hxy
      have HXY:Hid (x=0):=hxy
      clear HF hxy
      go_wp2
      go_round
      case rel=>exact ⟨k - 1,by omega,by go_num,HG⟩
      case measure=>simp [intOf];omega
     ·have hq:((x:Int) != 0)=true:=by simp;omega
      have HG:Hid (decide (vL b<vL a)=decide (0<x)):=HF.out.1 hxy
      have HXY:Hid (¬x=0):=hxy
      clear HF hxy
      go_wp2
      go_ret
      exact ⟨ZaC (by rw [HG.out,decide_eq_decide]<;>omega),rfl⟩
 ·intro hle hNe
  subst hNe
  clear hstart hN
  go_enter Tryz.func188,Tryz.ntmps188
  go_wp2
  go_loop [5] (fun y=>∃k:Nat,k≤N∧y= .int .i64 ((k:Int) - 1)∧Hid (∀j,k≤j→j<N→dg a j=dg b j)) (fun y=>(intOf y+1).toNat)
  case atStart=>exact ⟨N,Nat.le_refl _,by go_num,fun j h1 h2=>by omega⟩
  case round=>
   obtain ⟨k,hk,rfl,HE⟩:=hrel
   by_cases h0:k=0
   ·subst h0
    have HF:Hid (decide (vL b<vL a)=false):=by
     show _=_
     rw [decide_eq_false_iff_not, ←HVa.out, ←HVb.out,Zb4 (fun i hi=>HE.out i (Nat.zero_le _) hi)]
     omega
    go_wp2
    go_ret
    exact ⟨ZaC HF.out.symm,rfl⟩
   ·have hto:((k:Int) - 1).toNat=k - 1:=by omega
    have hk0:(0:Int)≤(k:Int) - 1:=by omega
    have HNE:Hid (dg a (k - 1)≠dg b (k - 1)→decide (vL b<vL a)=decide (dg b (k - 1)<dg a (k - 1))):=fun hne=>by
     rw [decide_eq_decide, ←HVa.out, ←HVb.out]
     exact (Zec (i:=k - 1) (by omega) da.at db.at (fun j h1 h2=>HE.out j (by omega) h2) hne).symm
    have HEQ:Hid (dg a (k - 1)=dg b (k - 1)→∀j,k - 1≤j→j<N→dg a j=dg b j):=fun he j h1 h2=>by
     by_cases e:j=k - 1
     ·rw [e];exact he
     ·exact HE.out j (by omega) h2
    clear HE
    have fin:∀x y:Nat,dg a (k - 1)=x→dg b (k - 1)=y→Hid ((x≠y→decide (vL b<vL a)=decide (y<x))∧(x=y→∀j,k - 1≤j→j<N→dg a j=dg b j)):=by
     rintro x y rfl rfl
     exact ⟨HNE.out,HEQ.out⟩
    clear HNE HEQ
    have hk1:(k:Int) - 1<(N:Int):=by omega
    obtain ⟨b1,o1,rfl,hb1,hc1⟩:=hb.hcell (by omega)
    have hd1:=hc1 (k - 1) (by omega)
    clear hc1
    rw [ZbB] at hd1
    by_cases hjo:k - 1<la
    ·obtain ⟨b2,o2,rfl,hb2,hc2⟩:=ha.hcell (by omega)
     have hd2:=hc2 (k - 1) hjo
     clear hc2
     rw [ZbB] at hd2
     have hk2:(k:Int) - 1<(la:Int):=by omega
     have HF:=fin _ _ rfl rfl
     clear fin
     generalize hxa:dg a (k - 1)=x at*
     generalize hya:dg b (k - 1)=y at*
     clear hxa hya
     by_cases hxy:x=y
     ·have hq:((x:Int) != (y:Int))=false:=by simp;omega
      have HG:Hid (∀j,k - 1≤j→j<N→dg a j=dg b j):=HF.out.2 hxy
      have HXY:Hid (x=y):=hxy
      clear HF hxy
      go_wp2
      go_round
      case rel=>exact ⟨k - 1,by omega,by go_num,HG⟩
      case measure=>simp [intOf];omega
     ·have hq:((x:Int) != (y:Int))=true:=by simp;omega
      have HG:Hid (decide (vL b<vL a)=decide (y<x)):=HF.out.1 hxy
      have HXY:Hid (¬x=y):=hxy
      clear HF hxy
      go_wp2
      go_ret
      exact ⟨ZaC (by rw [HG.out,decide_eq_decide]<;>omega),rfl⟩
    ·have hz:dg a (k - 1)=0:=Zbj (by rw [HA.out];omega)
     have hk2:¬(k:Int) - 1<(la:Int):=by omega
     have HF:=fin 0 _ hz rfl
     clear fin hz
     generalize hya:dg b (k - 1)=y at*
     clear hya
     by_cases hxy:0=y
     ·have hq:(0 != (y:Int))=false:=by simp;omega
      have HG:Hid (∀j,k - 1≤j→j<N→dg a j=dg b j):=HF.out.2 hxy
      have HXY:Hid (0=y):=hxy
      clear HF hxy
      go_wp2
      go_round
      case rel=>exact ⟨k - 1,by omega,by go_num,HG⟩
      case measure=>simp [intOf];omega
     ·have hq:(0 != (y:Int))=true:=by simp;omega
      have HG:Hid (decide (vL b<vL a)=decide (y<0)):=HF.out.1 hxy
      have HXY:Hid (¬0=y):=hxy
      clear HF hxy
      go_wp2
      go_ret
      exact ⟨ZaC (by rw [HG.out,decide_eq_decide]<;>omega),rfl⟩
set_option maxHeartbeats 3200000 in
theorem Zng (x pw p:Nat) (w:World) (hx:x<549755813888) (hpw:pw≤3) (hp:p<65536):Calls Tryz.prog 146 #[.int .i64 (x:Int), .int .i64 (pw:Int), .int .i64 (p:Int)] w fun e w'=>
  e= .returned (.bool (decide (p*65536^(2*pw)<x^pw)))∧Below w.heap.size w w':=by
 obtain ⟨i0,hi0,hz0,hz1,hz2⟩:=info_parts Tryz.info3
 go_enter Tryz.func146,Tryz.ntmps146
 go_wp2_with fail
 refine (Znd x _ hx).mono ?_
 rintro e w1 ⟨v1,rfl,n,hn,hxn,hown1,q1⟩
 obtain ⟨al,cl,rfl,rowl⟩:=ZaF hown1
 clear hown1
 have HVx:Hid (vL (digL x n)=x):=by show _=_;rw [Zdj];exact Nat.mod_eq_of_lt hxn
 have HDx:Hid (Dig (digL x n)):=ZaD x n
 clear hxn
 generalize digL x n=lx at*
 have hs1:=q1.size
 go_wp2_with fail
 have q2:=q1.alloc hs1 (.cells #[Value.int .i64 1] 3)
 have row1:Row .i64 (w1.alloc (.cells #[Value.int .i64 1] 3)) (some ⟨w1.heap.size,0,none⟩) 1 1 (nI [1]):=Zed .i64 w1 3 w1.heap.size rfl (nI [1]) 1 rfl (by decide) _ rfl
 have rowl2:=rowl.below (ZaS w1 (.cells #[Value.int .i64 1] 3)) (Nat.le_refl _)
 generalize hw2:w1.alloc (.cells #[Value.int .i64 1] 3)=w2 at*
 go_loopw [8,9] (fun v y wr=>∃(j:Nat) (out:List Nat) (a:Option Addr) (c:Nat),j≤pw∧y= .int .i64 (j:Int)∧v= .slice a out.length c∧Hid (out.length≤1+4*j)∧Hid (Dig out)∧Hid (vL out=x^j)∧Hid (Row .i64 wr a out.length c (nI out))∧Hid (Below w2.heap.size w2 wr)) (fun _ y _=>pw - (intOf y).toNat)
 case atStart=>exact ⟨0,[1],_,1,Nat.zero_le _,rfl,rfl,Nat.le_refl _,by intro z hz;simp at hz;subst hz;decide,by show _=_;simp [vL,vTo,dg],row1,Below.refl _ _⟩
 case round=>
  obtain ⟨j,out,a,c,hj,rfl,rfl,HL,HD,HV,HR,HB⟩:=hrel
  have hl:=HL.out
  by_cases hlt:j<pw
  ·have rl:=rowl2.below HB.out (Nat.le_refl _)
   go_wp2_with fail
   refine (Zne out lx _ _ _ _ _ _ _ HR.out rl HD.out HDx.out (by omega) (by omega)).mono ?_
   rintro e w3 ⟨v3,rfl,out3,hl3,hd3,hv3,hown3,q3⟩
   obtain ⟨a3,c3,rfl,row3⟩:=ZaF hown3
   have HV3:Hid (vL out3=x^(j+1)):=by show _=_;rw [hv3,HV.out,HVx.out,Nat.pow_succ]
   have HB3:Hid (Below w2.heap.size w2 w3):=HB.out.trans (q3.mono HB.out.size)
   clear hv3 hown3
   have HL3:Hid (out3.length≤1+4*(j+1)):=by show _≤_;omega
   rw [←hl3] at row3
   generalize out.length+n+1=L3 at*
   subst hl3
   go_wp2
   go_roundw
   case rel=>exact ⟨j+1,out3,a3,c3,by omega,by go_num,rfl,HL3,hd3,HV3,row3,HB3⟩
   case measure=>simp [intOf];omega
  ·obtain rfl:j=pw:=by omega
   obtain ⟨wo,hwo⟩:∃x,x=wr:=⟨_,rfl⟩
   subst hwo
   have hsz:=HB.out.size
   go_wp2
   go_loopw [10,11] (fun v y ws=>∃k:Nat,k≤2*j∧y= .int .i64 (k:Int)∧Hid (ws.ownsRow wo.heap.size 3 1 v k ((nI (List.replicate k 0)).map (Value.int .i64)))∧Hid (Below wo.heap.size wo ws)) (fun _ y _=>2*j - (intOf y).toNat)
   case atStart=>exact ⟨0,Nat.zero_le _,rfl,World.ownsRow_nil _ _ _ _,Below.refl _ _⟩
   case round=>
    obtain ⟨k,hk,rfl,HO,HB2⟩:=hrel
    have hsz2:=HB2.out.size
    have hown:=HO.out
    by_cases hlt2:k<2*j
    ·have HS:Hid (List.replicate (k+1) 0=List.replicate k 0++ [(0:Nat)]):=List.replicate_succ'
     go_wp2_with (at_builtin;refine wpList_append_own _ rfl _ _ 71 rfl _ 3 i0 (.int .i64 0) 1 8 Tryz.underlying71 hi0 hz0 hz1 hz2 rfl (by decide) _ _ _ rfl (hown.alloc _) ⟨_,0,none⟩ 1 1 [.int .i64 0] rfl rfl (cell_one_new _ _ _) (by intro u hu;simp at hu;subst hu;rfl) (by unfold maxLen;omega) (by omega) (by simp;omega) ?_)
     intro v' w3 hown' hgrow _
     have R:=Zb5 hsz2 hown HB2.out hown' hgrow
     rw [show (0:Int)=((0:Nat):Int) from rfl, ←Zch, ←HS.out] at R
     clear hown' hgrow
     go_wp2
     go_roundw
     case rel=>exact ⟨k+1,by omega,by go_num,R.1,R.2⟩
     case measure=>simp [intOf];omega
    ·obtain rfl:k=2*j:=by omega
     have HW:Hid (vL (List.replicate (2*j) 0++ [p])=p*65536^(2*j)):=by
      show _=_
      rw [ZgR,ZcM,List.length_replicate]
      omega
     have HDW:Hid (Dig (List.replicate (2*j) 0++ [p])):=by
      intro z hz
      simp only [List.mem_append,List.mem_replicate,List.mem_singleton] at hz
      rcases hz with ⟨_,rfl⟩|rfl
      ·decide
      ·exact hp
     go_wp2_with (at_builtin;refine wpList_append_own _ rfl _ _ 71 rfl _ 3 i0 (.int .i64 0) 1 8 Tryz.underlying71 hi0 hz0 hz1 hz2 rfl (by decide) _ _ _ rfl (hown.alloc _) ⟨_,0,none⟩ 1 1 [.int .i64 (p:Int)] rfl rfl (cell_one_new _ _ _) (by intro u hu;simp at hu;subst hu;rfl) (by unfold maxLen;omega) (by omega) (by simp;omega) ?_)
     intro v' w3 hown' hgrow _
     have R:=Zb5 hsz2 hown HB2.out hown' hgrow
     rw [←Zch] at R
     clear hown' hgrow
     obtain ⟨a5,c5,rfl,row5⟩:=ZaF R.1
     have row6:=HR.out.below R.2 (Nat.le_refl _)
     generalize List.replicate (2*j) 0++ [p]=want at*
     go_wp2_with fail
     refine (Znf out want _ _ _ _ _ _ _ row6 row5 HD.out HDW.out (by omega) (by omega)).mono ?_
     rintro e w4 ⟨rfl,rfl⟩
     go_wp2
     go_ret
     exact ⟨ZaC (by rw [HW.out,HV.out]),q2.trans ((HB.out.trans (R.2.mono hsz)).mono (by rw [←hw2];simp;omega))⟩
theorem Znh (k:Nat) (hk:k<39):274877906944/2^k=2^(38 - k):=by
 have:274877906944=2^(38 - k)*2^k:=by rw [←Nat.pow_add,show 38 - k+k=38 from by omega]
 rw [this,Nat.mul_div_cancel _ (Nat.two_pow_pos k)]
set_option maxHeartbeats 1600000 in
theorem Zjn (p pw:Nat) (w:World) (hpw:pw≤3) (hp:p<65536):Calls Tryz.prog 105 #[.int .i64 (p:Int), .int .i64 (pw:Int)] w fun e w'=>
  e= .returned (.int .i64 ((frTo pw (p*65536^(2*pw)) 39%4294967296:Nat):Int))∧Below w.heap.size w w':=by
 go_enter Tryz.func105,Tryz.ntmps105
 go_wp2
 go_loopw [5,6] (fun r y wr=>∃k:Nat,k≤39∧y= .int .i64 ((274877906944/2^k:Nat):Int)∧r= .int .i64 ((frTo pw (p*65536^(2*pw)) k:Nat):Int)∧Hid (Below w.heap.size w wr)) (fun _ y _=>(intOf y).toNat)
 case atStart=>exact ⟨0,by omega,by simp,rfl,Below.refl _ _⟩
 case round=>
  obtain ⟨k,hk,rfl,rfl,HB⟩:=hrel
  have hsz:=HB.out.size
  have hlt:=Zm7 pw (p*65536^(2*pw)) k hk
  have HH:Hid (274877906944/2^(k+1)=274877906944/2^k/2):=(ZdK _ k).symm
  have hle:274877906944/2^k≤274877906944:=Nat.div_le_self _ _
  by_cases h39:k<39
  ·have hb:=Znh k h39
   have h1:0<2^(38 - k):=Nat.two_pow_pos _
   have h2:2^(39 - k)=2*2^(38 - k):=by rw [show 39 - k=(38 - k)+1 from by omega,Nat.pow_succ];omega
   have HF:Hid (frTo pw (p*65536^(2*pw)) (k+1)=bif Nat.blt (p*65536^(2*pw)) ((frTo pw (p*65536^(2*pw)) k+2^(38 - k))^pw) then frTo pw (p*65536^(2*pw)) k else frTo pw (p*65536^(2*pw)) k+2^(38 - k)):=rfl
   have hab:=fun x (hx:x<549755813888) w=>Zng x pw p w hx hpw hp
   rw [hb] at HH hle ⊢
   generalize p*65536^(2*pw)=lim at*
   generalize frTo pw lim k=r at*
   generalize 2^(38 - k)=bit at*
   have hrb:r+bit<549755813888:=by omega
   have eadd:(r:Int)+(bit:Int)=((r+bit:Nat):Int):=by omega
   generalize r+bit=rb at*
   go_wp2_with fail
   refine (hab rb hrb _).mono ?_
   rintro e w2 ⟨rfl,q2⟩
   have HB2:Hid (Below w.heap.size w w2):=HB.out.trans (q2.mono hsz)
   have hblt:Nat.blt lim (rb^pw)=decide (lim<rb^pw):=by rw [Bool.eq_iff_iff,Nat.blt_eq,decide_eq_true_iff]
   rw [hblt] at HF
   generalize decide (lim<rb^pw)=tf at*
   clear hblt hab
   cases tf
   all_goals
    go_wp2
    go_roundw
    case rel=>exact ⟨k+1,by omega,by rw [HH.out];go_num,by rw [HF.out];rfl,HB2⟩
    case measure=>simp [intOf];omega
  ·obtain rfl:k=39:=by omega
   have hz:274877906944/2^39=0:=by decide
   rw [hz] at HH hle ⊢
   generalize hr0:frTo pw (p*65536^(2*pw)) 39=r at*
   have HR:Hid (frTo pw (p*65536^(2*pw)) 39=r):=hr0
   clear hr0
   go_wp2
   go_ret
   exact ⟨Zbo (by first|omega|(rw [HR.out]<;>omega)),HB.out⟩
end Go.Proofs.YtcaloldcihpkfaaGreatDoor

/-
 Layer 13's reference: Primes, Start, Rounds.
-/
namespace Go.Proofs.YtcaloldcihpkfaaGreatDoor
open Go.RowKit
set_option linter.unusedVariables false
set_option maxRecDepth 8192

theorem Zni (p:Nat) (l:List Nat) (k:Nat) (hk:k<l.length):ZbX p (l.take (k+1))=(ZbX p (l.take k)&& !(Nat.beq (p%l[k]?.getD 0) 0)):=by
 unfold ZbX
 rw [List.take_add_one,List.getElem?_eq_getElem hk,List.all_append]
 simp
set_option maxHeartbeats 1600000 in
theorem Zjo (n:Nat) (w:World) (hn:n≤100):Calls Tryz.prog 104 #[.int .i64 (n:Int)] w fun e w'=>
  ∃v,e= .returned v∧w'.ownsRow w.heap.size 3 1 v n ((nI (prL.take n)).map (Value.int .i64))∧Below w.heap.size w w':=by
 obtain ⟨i0,hi0,hz0,hz1,hz2⟩:=info_parts Tryz.info3
 go_enter Tryz.func104,Tryz.ntmps104
 go_wp2
 go_loopw [3,4] (fun v y wr=>∃p:Nat,2≤p∧p≤542∧y= .int .i64 (p:Int)∧Hid ((prTo p).length≤n)∧Hid (wr.ownsRow w.heap.size 3 1 v (prTo p).length ((nI (prTo p)).map (Value.int .i64)))∧Hid (Below w.heap.size w wr)) (fun _ y _=>543 - (intOf y).toNat)
 case atStart=>exact ⟨2,by omega,by omega,rfl,by rw [ZfM];exact Nat.zero_le _,by rw [ZfM];exact World.ownsRow_nil _ _ _ _,Below.refl _ _⟩
 case round=>
  obtain ⟨p,hp2,hp5,rfl,HL,HO,HB⟩:=hrel
  have hsz:w.heap.size≤wr.heap.size:=HB.out.size
  obtain ⟨a,cap,rfl,hrow⟩:=ZaF HO.out
  by_cases hlt:(prTo p).length<n
  ·have hp1:p≤541:=Zjb hn hlt
   have hnx:=Zjc p hp2 hp1
   have hlL:(prTo p).length≤100:=by omega
   have HN:Hid (prTo (p+1)=(if ZbX p (prTo p)=true then prTo p++ [p] else prTo p)):=by show _=_;rw [hnx.2];exact hnx.1
   clear hnx
   have hmem:∀i,i<(prTo p).length→0<(prTo p)[i]?.getD 0∧(prTo p)[i]?.getD 0<542:=fun i hi=>by rw [List.getElem?_eq_getElem hi];exact Zjf (List.getElem_mem hi)
   have HM:Hid (∀i,i<(prTo p).length→0<(prTo p)[i]?.getD 0∧(prTo p)[i]?.getD 0<542):=hmem
   clear hmem
   have HT:Hid (∀k,k<(prTo p).length→ZbX p ((prTo p).take (k+1))=(ZbX p ((prTo p).take k)&& !(Nat.beq (p%(prTo p)[k]?.getD 0) 0))):=fun k hk=>Zni p (prTo p) k hk
   have HA:Hid (ZbX p ((prTo p).take (prTo p).length)=ZbX p (prTo p)):=by show _=_;rw [List.take_length]
   have HLT:Hid ((prTo p).length<n):=hlt
   obtain ⟨wo,hwo⟩:∃x,x=wr:=⟨_,rfl⟩
   subst hwo
   generalize hLL:(prTo p).length=L at*
   go_wp2
   go_loopw [5,6] (fun b y ws=>∃k:Nat,k≤L∧y= .int .i64 (k:Int)∧b= .bool (ZbX p ((prTo p).take k))∧ws=wo) (fun _ y _=>L - (intOf y).toNat)
   case atStart=>exact ⟨0,Nat.zero_le _,rfl,rfl,rfl⟩
   case round=>
    obtain ⟨k,hk,rfl,rfl,rfl⟩:=hrel
    by_cases hkl:k<L
    ·obtain ⟨b,off,rfl,hbs,hcell⟩:=hrow.hcell (by omega)
     have hc1:=hcell k hkl
     clear hcell
     rw [Za2] at hc1
     have hq:=HM.out k hkl
     have HT1:=HT.out k hkl
     have HT2:Hid (ZbX p ((prTo p).take (k+1))=(ZbX p ((prTo p).take k)&& !(Nat.beq (p%(prTo p)[k]?.getD 0) 0))):=HT1
     clear HT1
     generalize (prTo p)[k]?.getD 0=q at*
     have hmod:(p:Int).tmod (q:Int)=((p%q:Nat):Int):=(Int.ofNat_tmod p q).symm
     have hml:p%q<q:=Nat.mod_lt _ hq.1
     have hbq:(!(Nat.beq (p%q) 0))=(((p%q:Nat):Int) != 0):=by
      rw [Bool.eq_iff_iff]
      simp only [Bool.not_eq_true',bne_iff_ne,ne_eq]
      rw [←Bool.not_eq_true,Nat.beq_eq]
      omega
     rw [hbq] at HT2
     clear hbq
     generalize p%q=m at*
     have hq0:¬(q:Int)=0:=by omega
     generalize hbb:ZbX p ((prTo p).take k)=bb at*
     clear hbb
     cases bb
     all_goals
      go_wp2
      go_roundw
      case rel=>exact ⟨k+1,by omega,by go_num,by rw [HT2.out];simp,by first|trivial|rfl⟩
      case measure=>simp [intOf];omega
    ·obtain rfl:k=L:=by omega
     rw [HA.out]
     cases h:ZbX p (prTo p)
     ·have HE:Hid (prTo (p+1)=prTo p):=by show _=_;rw [HN.out,h];rfl
      go_wp2
      go_roundw
      case rel=>
       refine ⟨p+1,by omega,by omega,by go_num, ?_, ?_,HB⟩
       ·rw [HE.out,hLL];exact HL
       ·rw [HE.out,hLL];exact HO
      case measure=>simp [intOf];omega
     ·have HE:Hid (prTo (p+1)=prTo p++ [p]):=by show _=_;rw [HN.out,h];rfl
      have hown:=HO.out
      go_wp2_with (at_builtin;refine wpList_append_own _ rfl _ _ 71 rfl w.heap.size 3 i0 (.int .i64 0) 1 8 Tryz.underlying71 hi0 hz0 hz1 hz2 rfl (by decide) _ _ _ rfl (hown.alloc _) ⟨_,0,none⟩ 1 1 [.int .i64 (p:Int)] rfl rfl (cell_one_new _ _ _) (by intro u hu;simp at hu;subst hu;rfl) (by unfold maxLen;omega) (by omega) (by simp;omega) ?_)
      intro v' w1 hown' hgrow _
      have R:=Zb5 hsz hown HB.out hown' hgrow
      rw [←Zch, ←HE.out] at R
      have hLn:(prTo (p+1)).length=k+1:=by rw [HE.out];simp [hLL]
      clear hown' hgrow
      go_wp2
      go_roundw
      case rel=>
       refine ⟨p+1,by omega,by omega,by go_num, ?_, ?_,R.2⟩
       ·rw [hLn];have:=HLT.out;show k+1≤n;omega
       ·rw [hLn];exact R.1
      case measure=>simp [intOf];omega
  ·have e1:(prTo p).length=n:=by have:=HL.out;omega
   have HT:Hid (prTo p=prL.take n):=by show _=_;rw [Zjd p hp2 hp5,e1]
   have hown:=HO.out
   rw [HT.out,List.length_take,ZeQ,Nat.min_eq_left hn] at hown
   rw [e1] at*
   go_wp2
   go_ret
   exact ⟨_,rfl,hown,HB.out⟩
theorem ZdM (n i:Nat) (h:i<n):(prL.take n)[i]?.getD 0=prL[i]?.getD 0:=by rw [List.getElem?_take,if_pos h]
theorem Zee (i:Nat):prL[i]?.getD 0<542:=by
 rcases Nat.lt_or_ge i prL.length with h|h
 ·rw [List.getElem?_eq_getElem h];exact Zje _ (List.getElem_mem h)
 ·rw [List.getElem?_eq_none h];decide
theorem Zef (f:Nat→Nat) (n i:Nat) (L:List Nat) (h:(prL.take n).map f=L) (hn:n≤100) (hi:i<n):L[i]?.getD 0=f (prL[i]?.getD 0):=by
 have hl:i<prL.length:=by rw [ZeQ];omega
 rw [←h,List.getElem?_map,List.getElem?_take,if_pos hi,List.getElem?_eq_getElem hl]
 rfl
theorem ZcY (ps:List Nat) (k:Nat) (h:k<ps.length):ps.take (k+1)=ps.take k++ [ps[k]?.getD 0]:=by
 rw [List.take_add_one,List.getElem?_eq_getElem h];rfl
set_option maxHeartbeats 1600000 in
theorem Znj (w:World):Calls Tryz.prog 69 #[] w fun e w'=>∃v,e= .returned v∧w'.ownsRow w.heap.size 3 1 v 8 ((nI SL).map (Value.int .i64))∧Below w.heap.size w w':=by
 obtain ⟨i0,hi0,hz0,hz1,hz2⟩:=info_parts Tryz.info3
 have HLL:Hid (SL.length=8):=by show _=_;decide+kernel
 go_enter Tryz.func69,Tryz.ntmps69
 go_wp2_with fail
 refine (Zjo 8 _ (by decide)).mono ?_
 rintro e w1 ⟨v1,rfl,hown1,q1⟩
 obtain ⟨a1,c1,rfl,row1⟩:=ZaF hown1
 clear hown1
 have hs1:=q1.size
 go_wp2
 go_loopw [2,3] (fun v y wr=>∃k:Nat,k≤8∧y= .int .i64 (k:Int)∧Hid (wr.ownsRow w1.heap.size 3 1 v k ((nI (SL.take k)).map (Value.int .i64)))∧Hid (Below w1.heap.size w1 wr)) (fun _ y _=>8 - (intOf y).toNat)
 case atStart=>exact ⟨0,by omega,rfl,World.ownsRow_nil _ _ _ _,Below.refl _ _⟩
 case round=>
  obtain ⟨k,hk,rfl,HO,HB⟩:=hrel
  have hsz:=HB.out.size
  by_cases hlt:k<8
  ·have hrow:=row1.below HB.out (Nat.le_refl _)
   obtain ⟨b,off,rfl,hbs,hcell⟩:=hrow.hcell (by omega)
   have hc1:=hcell k hlt
   clear hcell
   rw [Za2,ZdM 8 k hlt] at hc1
   have HS:Hid (SL.take (k+1)=SL.take k++ [frTo 2 (prL[k]?.getD 0*18446744073709551616) 39%4294967296]):=by
    show _=_
    rw [ZcY _ _ (by rw [HLL.out];exact hlt),Zef _ 8 k SL Zjh (by decide) hlt]
   have hp:=Zee k
   generalize prL[k]?.getD 0=p at*
   have hf:=Zjn p 2 wr (by decide) (by omega)
   rw [show 65536^(2*2)=18446744073709551616 from by decide] at hf
   have hlt':=Nat.mod_lt (frTo 2 (p*18446744073709551616) 39) (show 4294967296>0 by decide)
   generalize frTo 2 (p*18446744073709551616) 39%4294967296=z at*
   go_wp2_with fail
   refine hf.mono ?_
   rintro e w2 ⟨rfl,q2⟩
   have hs2:=q2.size
   have hown:w2.ownsRow w1.heap.size 3 1 _ k _:=ZgV HO.out q2
   have HB2:Hid (Below w1.heap.size w1 w2):=HB.out.trans (q2.mono hsz)
   go_wp2_with (at_builtin;refine wpList_append_own _ rfl _ _ 71 rfl _ 3 i0 (.int .i64 0) 1 8 Tryz.underlying71 hi0 hz0 hz1 hz2 rfl (by decide) _ _ _ rfl (hown.alloc _) ⟨_,0,none⟩ 1 1 [.int .i64 (z:Int)] rfl rfl (cell_one_new _ _ _) (by intro u hu;simp at hu;subst hu;rfl) (by unfold maxLen;omega) (by omega) (by simp;omega) ?_)
   intro v' w3 hown' hgrow _
   have R:=Zb5 (by omega) hown HB2.out hown' hgrow
   rw [←Zch, ←HS.out] at R
   clear hown' hgrow
   go_wp2
   go_roundw
   case rel=>exact ⟨k+1,by omega,by go_num,R.1,R.2⟩
   case measure=>simp [intOf];omega
  ·obtain rfl:k=8:=by omega
   have hown:=HO.out
   rw [List.take_of_length_le (by rw [HLL.out];exact Nat.le_refl _)] at hown
   go_wp2
   go_ret
   exact ⟨_,rfl,ZdN hown hs1,q1.trans (HB.out.mono hs1)⟩
set_option maxHeartbeats 1600000 in
theorem Znk (w:World):Calls Tryz.prog 68 #[] w fun e w'=>∃v,e= .returned v∧w'.ownsRow w.heap.size 3 1 v 64 ((nI KL).map (Value.int .i64))∧Below w.heap.size w w':=by
 obtain ⟨i0,hi0,hz0,hz1,hz2⟩:=info_parts Tryz.info3
 have HLL:Hid (KL.length=64):=by show _=_;decide+kernel
 go_enter Tryz.func68,Tryz.ntmps68
 go_wp2_with fail
 refine (Zjo 64 _ (by decide)).mono ?_
 rintro e w1 ⟨v1,rfl,hown1,q1⟩
 obtain ⟨a1,c1,rfl,row1⟩:=ZaF hown1
 clear hown1
 have hs1:=q1.size
 go_wp2
 go_loopw [2,3] (fun v y wr=>∃k:Nat,k≤64∧y= .int .i64 (k:Int)∧Hid (wr.ownsRow w1.heap.size 3 1 v k ((nI (KL.take k)).map (Value.int .i64)))∧Hid (Below w1.heap.size w1 wr)) (fun _ y _=>64 - (intOf y).toNat)
 case atStart=>exact ⟨0,by omega,rfl,World.ownsRow_nil _ _ _ _,Below.refl _ _⟩
 case round=>
  obtain ⟨k,hk,rfl,HO,HB⟩:=hrel
  have hsz:=HB.out.size
  by_cases hlt:k<64
  ·have hrow:=row1.below HB.out (Nat.le_refl _)
   obtain ⟨b,off,rfl,hbs,hcell⟩:=hrow.hcell (by omega)
   have hc1:=hcell k hlt
   clear hcell
   rw [Za2,ZdM 64 k hlt] at hc1
   have HS:Hid (KL.take (k+1)=KL.take k++ [frTo 3 (prL[k]?.getD 0*79228162514264337593543950336) 39%4294967296]):=by
    show _=_
    rw [ZcY _ _ (by rw [HLL.out];exact hlt),Zef _ 64 k KL Zji (by decide) hlt]
   have hp:=Zee k
   generalize prL[k]?.getD 0=p at*
   have hf:=Zjn p 3 wr (by decide) (by omega)
   rw [show 65536^(2*3)=79228162514264337593543950336 from by decide] at hf
   have hlt':=Nat.mod_lt (frTo 3 (p*79228162514264337593543950336) 39) (show 4294967296>0 by decide)
   generalize frTo 3 (p*79228162514264337593543950336) 39%4294967296=z at*
   go_wp2_with fail
   refine hf.mono ?_
   rintro e w2 ⟨rfl,q2⟩
   have hs2:=q2.size
   have hown:w2.ownsRow w1.heap.size 3 1 _ k _:=ZgV HO.out q2
   have HB2:Hid (Below w1.heap.size w1 w2):=HB.out.trans (q2.mono hsz)
   go_wp2_with (at_builtin;refine wpList_append_own _ rfl _ _ 71 rfl _ 3 i0 (.int .i64 0) 1 8 Tryz.underlying71 hi0 hz0 hz1 hz2 rfl (by decide) _ _ _ rfl (hown.alloc _) ⟨_,0,none⟩ 1 1 [.int .i64 (z:Int)] rfl rfl (cell_one_new _ _ _) (by intro u hu;simp at hu;subst hu;rfl) (by unfold maxLen;omega) (by omega) (by simp;omega) ?_)
   intro v' w3 hown' hgrow _
   have R:=Zb5 (by omega) hown HB2.out hown' hgrow
   rw [←Zch, ←HS.out] at R
   clear hown' hgrow
   go_wp2
   go_roundw
   case rel=>exact ⟨k+1,by omega,by go_num,R.1,R.2⟩
   case measure=>simp [intOf];omega
  ·obtain rfl:k=64:=by omega
   have hown:=HO.out
   rw [List.take_of_length_le (by rw [HLL.out];exact Nat.le_refl _)] at hown
   go_wp2
   go_ret
   exact ⟨_,rfl,ZdN hown hs1,q1.trans (HB.out.mono hs1)⟩
end Go.Proofs.YtcaloldcihpkfaaGreatDoor

/-
 The code of layer 13 (sha256): root, Start, Rounds: arrays by value.
-/
namespace Go.Proofs.YtcaloldcihpkfaaGreatDoor
open Go.RowKit
set_option linter.unusedVariables false
set_option maxRecDepth 8192

def Arr (w:World) (g:Nat) (T:TypeId) (k:IntKind) (zs:List Int):Prop:=w.heap[g]? =some (.cells (zs.map (Value.int k)).toArray T (0,0))
theorem Arr.lt {w:World} {g:Nat} {T:TypeId} {k:IntKind} {zs:List Int} (h:Arr w g T k zs):g<w.heap.size:=by
 unfold Arr at h
 rcases Nat.lt_or_ge g w.heap.size with h'|h'
 ·exact h'
 ·rw [Array.getElem?_eq_none h'] at h;simp at h
theorem Arr.cell {w:World} {g:Nat} {T:TypeId} {k:IntKind} {zs:List Int} (h:Arr w g T k zs) (i:Nat) (hi:i<zs.length):w.cell? ⟨g,i,none⟩=some (.int k (zs[i]?.getD 0)):=by
 rw [cell_of_row w g i _ T (0,0) h]
 simp [List.getElem?_map,List.getElem?_eq_getElem hi]
theorem Arr.unfrozen {w:World} {g:Nat} {T:TypeId} {k:IntKind} {zs:List Int} (h:Arr w g T k zs) (i:Nat):w.frozen? ⟨g,i,none⟩=false:=by
 unfold Arr at h;simp [World.frozen?,h]
theorem Arr.new (w:World) (T:TypeId) (k:IntKind) (zs:List Int) (cs:Array Value) (hc:cs=(zs.map (Value.int k)).toArray):Arr (w.alloc (.cells cs T)) w.heap.size T k zs:=by
 subst hc;exact heap_alloc_last w _
theorem Arr.alloc {w:World} {g:Nat} {T:TypeId} {k:IntKind} {zs:List Int} (h:Arr w g T k zs) (o:Obj):Arr (w.alloc o) g T k zs:=by
 unfold Arr;rw [Below.heap_alloc w o g h.lt];exact h
theorem Arr.below {w w':World} {g B:Nat} {T:TypeId} {k:IntKind} {zs:List Int} (h:Arr w g T k zs) (hb:Below B w w') (hg:g<B):Arr w' g T k zs:=by
 unfold Arr;rw [hb.block g hg];exact h
theorem Arr.drewN {w:World} {g:Nat} {T:TypeId} {k:IntKind} {zs:List Int} (h:Arr w g T k zs) (n:Nat):Arr (w.drewN n) g T k zs:=h
theorem Arr.other {w:World} {g:Nat} {T:TypeId} {k:IntKind} {zs:List Int} (h:Arr w g T k zs) (a:Addr) (v:Value) (hne:g≠a.block):Arr (w.setCell a v) g T k zs:=by
 unfold Arr;rw [Below.heap_setCell w a v g hne];exact h
theorem Arr.own {w:World} {g:Nat} {T:TypeId} {k:IntKind} {zs:List Int} (h:Arr w g T k zs) (hm:zs.length≤maxLen):w.ownsRow g T 1 (.slice (some ⟨g,0,none⟩) zs.length zs.length) zs.length (zs.map (Value.int k)):=
 Zjp h (by simp) (Nat.le_refl _) hm
theorem Arr.set {w:World} {g:Nat} {T:TypeId} {k:IntKind} {zs:List Int} (h:Arr w g T k zs) (hm:zs.length≤maxLen) (i:Nat) (x:Int):Arr (w.setCell ⟨g,i,none⟩ (.int k x)) g T k (zs.set i x):=by
 have h1:=((h.own hm).stored i (.int k x)).1
 rw [←List.map_set] at h1
 exact Ze0 h1
theorem Arr.whole {w:World} {g:Nat} {T:TypeId} {k:IntKind} {zs:List Int} (h:Arr w g T k zs) (ys:List Int):Arr (w.setRow g (ys.map (Value.int k)).toArray) g T k ys:=setRow_heap w g _ _ T (0,0) h
theorem Arr.whole_other {w:World} {g g':Nat} {T:TypeId} {k:IntKind} {zs:List Int} (h:Arr w g T k zs) (cs:Array Value) (hne:g≠g'):Arr (w.setRow g' cs) g T k zs:=by
 unfold Arr;rw [setRow_other w g' g cs hne];exact h
theorem Arr.row {w:World} {g:Nat} {T:TypeId} {k:IntKind} {zs:List Int} (h:Arr w g T k zs) (hm:zs.length≤maxLen) (n:Nat) (hn:zs.length=n):Row k w (some ⟨g,0,none⟩) n n zs:=by
 subst hn
 obtain ⟨a,c,e,r⟩:=ZaF (h.own hm)
 simp only [Value.slice.injEq,true_and] at e
 obtain ⟨rfl,rfl⟩:=e
 exact r
theorem ZfQ (k:IntKind) (zs:List Int):((zs.map (Value.int k)).toArray).all (·.oneCell')=true:=all_oneCell_toArray (by intro v hv;obtain ⟨z,_,rfl⟩:=List.mem_map.1 hv;rfl)
theorem Zci {P:Program} {ops:Array Oper} {rest:List Oper} {o:Oper} {a:Act} {w:World} {Q:Exit→Act→World→Prop} (hgd:o.guard=none) (ty:TypeId) (x:Operand) (ho:o.op= .load ty x)
  (g:Nat) (hx:a.eval x= .pointer (some ⟨g,0,none⟩)) {T:TypeId} {k:IntKind} {zs:List Int} (hA:Arr w g T k zs) {n:Nat} {e:TypeId} (hu:P.underlying ty=some (.array n e)) {m:Nat} (hi:(P.info? ty).map (·.size)=some m) (hl:zs.length=m)
  (h:wpList P ops Q rest (a.put o.dst (.agg (zs.map (Value.int k)).toArray)) w):wpList P ops Q (o::rest) a w:=
 wpList_load_row hgd ty x ho g hx T _ (0,0) _ hA hu rfl (by rw [hi];simp [hl]) h
theorem ZbP {P:Program} {ops:Array Oper} {rest:List Oper} {o:Oper} {a:Act} {w:World} {Q:Exit→Act→World→Prop} (hgd:o.guard=none) (ty:TypeId) (x y:Operand) (ho:o.op= .store ty x y)
  (g:Nat) {k:IntKind} (ys:List Int) (hx:a.eval x= .pointer (some ⟨g,0,none⟩)) (hy:a.eval y= .agg (ys.map (Value.int k)).toArray) {T:TypeId} {zs:List Int} (hA:Arr w g T k zs) {m:Nat} (hi:(P.info? ty).map (·.size)=some m) (hl:zs.length=m) (hl2:ys.length=m)
  (h:wpList P ops Q rest (a.put o.dst undef) (w.setRow g (ys.map (Value.int k)).toArray)):wpList P ops Q (o::rest) a w:=
 wpList_store_row hgd ty x y ho g _ hx hy T _ hA (by rw [hi];simp [hl2]) (by simp [hl,hl2]) (ZfQ k ys) h
theorem resA {P:Program} {fn:Func} {p:Tmp} {ty:TypeId} (h:fn.results= #[.cell p ty]) (tmps:Array Value) (w:World) (g:Nat) (hp:tmps.getD p undef= .pointer (some ⟨g,0,none⟩)) {T:TypeId} {k:IntKind} {zs:List Int} (hA:Arr w g T k zs)
  {n:Nat} {e:TypeId} (hu:P.underlying ty=some (.array n e)) {m:Nat} (hi:(P.info? ty).map (·.size)=some m) (hl:zs.length=m):(results fn tmps).run P w= .ok (.agg (zs.map (Value.int k)).toArray) w:=
 results_cell_row h tmps w g T _ (0,0) _ hp hA hu rfl (by rw [hi];simp [hl])
theorem Tryz.size185:(Tryz.prog.info? 185).map (·.size)=some 8:=by kernel_rfl
theorem Tryz.size184:(Tryz.prog.info? 184).map (·.size)=some 64:=by kernel_rfl
theorem Znl (k:Nat) (hk:k<35):17179869184/2^k=2^(34 - k):=by
 have:17179869184=2^(34 - k)*2^k:=by rw [←Nat.pow_add,show 34 - k+k=34 from by omega]
 rw [this,Nat.mul_div_cancel _ (Nat.two_pow_pos k)]
set_option maxHeartbeats 1600000 in
theorem Zdm (F:FuncId) (f:Nat→Nat) (lim:Nat) (w:World) (hlim:lim<18446744073709551616) (hf:∀(r:Nat) w,r<34359738368→Calls Tryz.prog F #[.int .u64 (r:Int)] w fun e w'=>e= .returned (.int .u64 ((f r:Nat):Int))∧w=w')
  (hcall:∀args w,Sem.run Tryz.prog (callFunc F args) w= .ok (.enter F args) w):
  Calls Tryz.prog 202 #[.int .u64 (lim:Int), .func (.func F) #[] #[]] w fun e w'=>e= .returned (.int .u32 ((rtTo f lim 35%4294967296:Nat):Int))∧w=w':=by
 go_enter Tryz.func202,Tryz.ntmps202
 go_wp2
 go_loop [5,6] (fun r y=>∃k:Nat,k≤35∧y= .int .u64 ((17179869184/2^k:Nat):Int)∧r= .int .u64 ((rtTo f lim k:Nat):Int)) (fun _ y=>(intOf y).toNat)
 case atStart=>exact ⟨0,by omega,by simp,rfl⟩
 case round=>
  obtain ⟨k,hk,rfl,rfl⟩:=hrel
  have hlt:=Zjg f lim k
  have hlt1:=Zjg f lim (k+1)
  have HH:Hid (17179869184/2^(k+1)=17179869184/2^k/2):=(ZdK _ k).symm
  have hle:17179869184/2^k≤17179869184:=Nat.div_le_self _ _
  by_cases h35:k<35
  ·have hb:=Znl k h35
   have h1:0<2^(34 - k):=Nat.two_pow_pos _
   have HF:Hid (rtTo f lim (k+1)=bif Nat.blt (f (rtTo f lim k|||2^(34 - k))) lim then rtTo f lim k|||2^(34 - k) else rtTo f lim k):=rfl
   rw [hb] at HH hle ⊢
   have hor:rtTo f lim k|||2^(34 - k)<34359738368:=Nat.or_lt_two_pow (n:=35) hlt (Nat.pow_lt_pow_right (by decide) (by omega))
   generalize rtTo f lim k=r at*
   generalize 2^(34 - k)=bit at*
   have eor:bits .or .u64 (r:Int) (bit:Int)=((r|||bit:Nat):Int):=u64_or_nat r bit (by omega) (by omega)
   generalize r|||bit=rb at*
   go_wp2_with fail
   refine (hf rb _ hor).mono ?_
   rintro e w2 ⟨rfl,rfl⟩
   have hblt:Nat.blt (f rb) lim=decide (f rb<lim):=by rw [Bool.eq_iff_iff,Nat.blt_eq,decide_eq_true_iff]
   rw [hblt] at HF
   generalize f rb=fr at*
   clear hblt
   by_cases hfl:fr<lim
   ·have hd:decide (fr<lim)=true:=decide_eq_true hfl
    rw [hd] at HF
    clear hd
    go_wp2
    go_round
    case rel=>exact ⟨k+1,by omega,by rw [HH.out];go_num,by rw [HF.out];rfl⟩
    case measure=>simp [intOf];omega
   ·have hd:decide (fr<lim)=false:=decide_eq_false hfl
    rw [hd] at HF
    clear hd
    go_wp2
    go_round
    case rel=>exact ⟨k+1,by omega,by rw [HH.out];go_num,by rw [HF.out];rfl⟩
    case measure=>simp [intOf];omega
  ·obtain rfl:k=35:=by omega
   have hz:17179869184/2^35=0:=by decide
   rw [hz] at HH hle ⊢
   generalize hr0:rtTo f lim 35=r at*
   have HR:Hid (rtTo f lim 35=r):=hr0
   clear hr0
   go_wp2
   go_ret
   exact ⟨Zbo (by first|omega|(rw [HR.out]<;>omega)),rfl⟩
def ZaU (L:List Nat) (n k:Nat):List Nat:=L.take k++List.replicate (n - k) 0
theorem ZcO {L:List Nat} {n k:Nat} (hL:L.length=n) (hk:k≤n):(ZaU L n k).length=n:=by simp [ZaU];omega
theorem Zeg (L:List Nat) (n:Nat):ZaU L n 0=List.replicate n 0:=by simp [ZaU]
theorem Zeh {L:List Nat} {n:Nat} (hL:L.length=n):ZaU L n n=L:=by simp [ZaU,List.take_of_length_le (show L.length≤n by omega)]
theorem Zei {L:List Nat} {n k:Nat} (hL:L.length=n) (hk:k<n):(ZaU L n k).set k (L[k]?.getD 0)=ZaU L n (k+1):=by
 unfold ZaU
 have hl:(L.take k).length=k:=by simp;omega
 rw [List.set_append_right _ _ (by omega),hl,Nat.sub_self,ZcY L k (by omega),show n - k=(n - (k+1))+1 from by omega,List.replicate_succ,List.set_cons_zero,List.append_assoc]
 rfl
set_option maxHeartbeats 1600000 in
theorem ZgW (w:World):Calls Tryz.prog 176 #[] w fun e w'=>e= .returned (.agg ((nI SL).map (Value.int .u32)).toArray)∧Below w.heap.size w w':=by
 have HSL:Hid (SL.length=8):=by show _=_;decide+kernel
 go_enter Tryz.func176,Tryz.ntmps176
 go_wp2_with fail
 have A0:=(Arr.new w 185 .u32 (nI (List.replicate 8 0)) _ rfl).alloc (.cells ((nI (List.replicate 8 0)).map (Value.int .u32)).toArray 185)
 have A1:=Arr.new (w.alloc (.cells ((nI (List.replicate 8 0)).map (Value.int .u32)).toArray 185)) 185 .u32 (nI (List.replicate 8 0)) _ rfl
 have hs:(w.alloc (.cells ((nI (List.replicate 8 0)).map (Value.int .u32)).toArray 185)).heap.size=w.heap.size+1:=by simp
 have hs2:((w.alloc (.cells ((nI (List.replicate 8 0)).map (Value.int .u32)).toArray 185)).alloc (.cells ((nI (List.replicate 8 0)).map (Value.int .u32)).toArray 185)).heap.size=w.heap.size+2:=by simp
 have q1:=ZcZ w (.cells ((nI (List.replicate 8 0)).map (Value.int .u32)).toArray 185) (.cells ((nI (List.replicate 8 0)).map (Value.int .u32)).toArray 185)
 rw [hs] at A1
 clear hs
 change Calls Tryz.prog _ _ ((w.alloc (.cells ((nI (List.replicate 8 0)).map (Value.int .u32)).toArray 185)).alloc (.cells ((nI (List.replicate 8 0)).map (Value.int .u32)).toArray 185)) _
 generalize (w.alloc (.cells ((nI (List.replicate 8 0)).map (Value.int .u32)).toArray 185)).alloc (.cells ((nI (List.replicate 8 0)).map (Value.int .u32)).toArray 185)=w1 at*
 refine (ZfO 8 _ (by decide)).mono ?_
 rintro e w2 ⟨v2,rfl,hown2,q2⟩
 obtain ⟨a2,c2,rfl,_⟩:=ZaF hown2
 have q12:Below w.heap.size w w2:=q1.trans (q2.mono (by omega))
 replace A0:=A0.below q2 (by omega)
 replace A1:=A1.below q2 (by omega)
 have hs3:=q2.size
 clear q1 q2
 go_wp2
 go_loopw [12] (fun y wr=>∃k:Nat,k≤8∧y= .int .i64 (k:Int)∧Hid (Arr wr (w.heap.size+1) 185 .u32 (nI (ZaU SL 8 k)))∧Hid (Arr wr w.heap.size 185 .u32 (nI (List.replicate 8 0)))∧Hid (Below w.heap.size w wr)∧Hid (wr.ownsRow w1.heap.size 3 1 (.slice a2 8 c2) 8 ((nI (prL.take 8)).map (Value.int .i64)))) (fun y _=>8 - (intOf y).toNat)
 case atStart=>exact ⟨0,by omega,rfl,by rw [Zeg];exact A1,A0,q12,hown2⟩
 case round=>
  clear A0 A1 q12 hown2
  obtain ⟨k,hk,rfl,HA1,HA0,HB,HO⟩:=hrel
  by_cases hlt:k<8
  ·obtain ⟨a3,c3,e3,row3⟩:=ZaF HO.out
   simp only [Value.slice.injEq,true_and] at e3
   obtain ⟨rfl,rfl⟩:=e3
   obtain ⟨b,off,rfl,hbs,hcell⟩:=row3.hcell (by omega)
   have hc1:=hcell k hlt
   clear hcell row3
   rw [Za2,ZdM 8 k hlt] at hc1
   have HS:Hid (SL[k]?.getD 0=rtTo sqT (prL[k]?.getD 0) 35%4294967296):=by show _=_;rw [Zef _ 8 k SL ZgN (by decide) hlt]
   have hp:=Zee k
   have hcl:=HA1.out.cell k (by rw [Zaa,ZcO HSL.out hk];exact hlt)
   have hfz:=HA1.out.unfrozen k
   generalize prL[k]?.getD 0=p at*
   have hroot:=Zdm 204 sqT p wr (by omega) (fun r w h=>ZgS r w h) (fun _ _=>rfl)
   have HA1':Hid (Arr (wr.setCell ⟨w.heap.size+1,k,none⟩ (.int .u32 ((rtTo sqT p 35%4294967296:Nat):Int))) (w.heap.size+1) 185 .u32 (nI (ZaU SL 8 (k+1)))):=by
    show Arr _ _ _ _ _
    have:=HA1.out.set (by rw [Zaa,ZcO HSL.out hk];decide) k ((rtTo sqT p 35%4294967296:Nat):Int)
    rw [ZbH, ←HS.out,Zei HSL.out hlt,HS.out] at this
    exact this
   have hzlt:=Nat.mod_lt (rtTo sqT p 35) (show 4294967296>0 by decide)
   generalize rtTo sqT p 35%4294967296=z at*



   go_wp2_with fail
   refine hroot.mono ?_
   rintro e w3 ⟨rfl,rfl⟩
   go_wp2
   go_roundw
   case rel=>exact ⟨k+1,by omega,by go_num,HA1',HA0.out.other _ _ (by show w.heap.size≠w.heap.size+1;omega),HB.out.setCell (by show w.heap.size≤w.heap.size+1;omega) _,ownsRow_setCell_below HO.out (by show w.heap.size+1<w1.heap.size;omega) _⟩
   case measure=>simp [intOf];omega
  ·obtain rfl:k=8:=by omega
   have A1:=HA1.out
   rw [Zeh HSL.out] at A1
   have hl:(nI SL).length=8:=by rw [Zaa];exact HSL.out
   have HL:Hid ((nI SL).length=8):=hl
   clear hl
   go_wp2_with (first
    | (refine Zci rfl 185 _ rfl (w.heap.size+1) rfl A1 Tryz.underlying185 Tryz.size185 HL.out ?_)
    | (refine ZbP rfl 185 _ _ rfl w.heap.size (nI SL) rfl rfl HA0.out Tryz.size185 (by decide+kernel) HL.out ?_))
   exact bodyPost_ret (resA rfl _ _ w.heap.size rfl (HA0.out.whole _) Tryz.underlying185 Tryz.size185 HL.out) rfl ⟨rfl,below_setRow HB.out (Nat.le_refl _) _⟩
set_option maxHeartbeats 1600000 in
theorem ZgX (w:World):Calls Tryz.prog 175 #[] w fun e w'=>e= .returned (.agg ((nI KL).map (Value.int .u32)).toArray)∧Below w.heap.size w w':=by
 have HSL:Hid (KL.length=64):=by show _=_;decide+kernel
 go_enter Tryz.func175,Tryz.ntmps175
 go_wp2_with fail
 have A0:=(Arr.new w 184 .u32 (nI (List.replicate 64 0)) _ rfl).alloc (.cells ((nI (List.replicate 64 0)).map (Value.int .u32)).toArray 184)
 have A1:=Arr.new (w.alloc (.cells ((nI (List.replicate 64 0)).map (Value.int .u32)).toArray 184)) 184 .u32 (nI (List.replicate 64 0)) _ rfl
 have hs:(w.alloc (.cells ((nI (List.replicate 64 0)).map (Value.int .u32)).toArray 184)).heap.size=w.heap.size+1:=by simp
 have hs2:((w.alloc (.cells ((nI (List.replicate 64 0)).map (Value.int .u32)).toArray 184)).alloc (.cells ((nI (List.replicate 64 0)).map (Value.int .u32)).toArray 184)).heap.size=w.heap.size+2:=by simp
 have q1:=ZcZ w (.cells ((nI (List.replicate 64 0)).map (Value.int .u32)).toArray 184) (.cells ((nI (List.replicate 64 0)).map (Value.int .u32)).toArray 184)
 rw [hs] at A1
 clear hs
 change Calls Tryz.prog _ _ ((w.alloc (.cells ((nI (List.replicate 64 0)).map (Value.int .u32)).toArray 184)).alloc (.cells ((nI (List.replicate 64 0)).map (Value.int .u32)).toArray 184)) _
 generalize (w.alloc (.cells ((nI (List.replicate 64 0)).map (Value.int .u32)).toArray 184)).alloc (.cells ((nI (List.replicate 64 0)).map (Value.int .u32)).toArray 184)=w1 at*
 refine (ZfO 64 _ (by decide)).mono ?_
 rintro e w2 ⟨v2,rfl,hown2,q2⟩
 obtain ⟨a2,c2,rfl,_⟩:=ZaF hown2
 have q12:Below w.heap.size w w2:=q1.trans (q2.mono (by omega))
 replace A0:=A0.below q2 (by omega)
 replace A1:=A1.below q2 (by omega)
 have hs3:=q2.size
 clear q1 q2
 go_wp2
 go_loopw [12] (fun y wr=>∃k:Nat,k≤64∧y= .int .i64 (k:Int)∧Hid (Arr wr (w.heap.size+1) 184 .u32 (nI (ZaU KL 64 k)))∧Hid (Arr wr w.heap.size 184 .u32 (nI (List.replicate 64 0)))∧Hid (Below w.heap.size w wr)∧Hid (wr.ownsRow w1.heap.size 3 1 (.slice a2 64 c2) 64 ((nI (prL.take 64)).map (Value.int .i64)))) (fun y _=>64 - (intOf y).toNat)
 case atStart=>exact ⟨0,by omega,rfl,by rw [Zeg];exact A1,A0,q12,hown2⟩
 case round=>
  clear A0 A1 q12 hown2
  obtain ⟨k,hk,rfl,HA1,HA0,HB,HO⟩:=hrel
  by_cases hlt:k<64
  ·obtain ⟨a3,c3,e3,row3⟩:=ZaF HO.out
   simp only [Value.slice.injEq,true_and] at e3
   obtain ⟨rfl,rfl⟩:=e3
   obtain ⟨b,off,rfl,hbs,hcell⟩:=row3.hcell (by omega)
   have hc1:=hcell k hlt
   clear hcell row3
   rw [Za2,ZdM 64 k hlt] at hc1
   have HS:Hid (KL[k]?.getD 0=rtTo cbT (prL[k]?.getD 0*4294967296) 35%4294967296):=by show _=_;rw [Zef _ 64 k KL ZgO (by decide) hlt]
   have hp:=Zee k
   have hcl:=HA1.out.cell k (by rw [Zaa,ZcO HSL.out hk];exact hlt)
   have hfz:=HA1.out.unfrozen k
   generalize prL[k]?.getD 0=p at*
   have hroot:=Zdm 203 cbT (p*4294967296) wr (by omega) (fun r w h=>ZgT r w h) (fun _ _=>rfl)
   have HA1':Hid (Arr (wr.setCell ⟨w.heap.size+1,k,none⟩ (.int .u32 ((rtTo cbT (p*4294967296) 35%4294967296:Nat):Int))) (w.heap.size+1) 184 .u32 (nI (ZaU KL 64 (k+1)))):=by
    show Arr _ _ _ _ _
    have:=HA1.out.set (by rw [Zaa,ZcO HSL.out hk];decide) k ((rtTo cbT (p*4294967296) 35%4294967296:Nat):Int)
    rw [ZbH, ←HS.out,Zei HSL.out hlt,HS.out] at this
    exact this
   have hzlt:=Nat.mod_lt (rtTo cbT (p*4294967296) 35) (show 4294967296>0 by decide)
   generalize rtTo cbT (p*4294967296) 35%4294967296=z at*
   have hsh:(p:Int)*4294967296=((p*4294967296:Nat):Int):=by omega
   have hpl:p*4294967296<18446744073709551616:=by omega
   generalize p*4294967296=pp at*
   go_wp2_with fail
   refine hroot.mono ?_
   rintro e w3 ⟨rfl,rfl⟩
   go_wp2
   go_roundw
   case rel=>exact ⟨k+1,by omega,by go_num,HA1',HA0.out.other _ _ (by show w.heap.size≠w.heap.size+1;omega),HB.out.setCell (by show w.heap.size≤w.heap.size+1;omega) _,ownsRow_setCell_below HO.out (by show w.heap.size+1<w1.heap.size;omega) _⟩
   case measure=>simp [intOf];omega
  ·obtain rfl:k=64:=by omega
   have A1:=HA1.out
   rw [Zeh HSL.out] at A1
   have hl:(nI KL).length=64:=by rw [Zaa];exact HSL.out
   have HL:Hid ((nI KL).length=64):=hl
   clear hl
   go_wp2_with (first
    | (refine Zci rfl 184 _ rfl (w.heap.size+1) rfl A1 Tryz.underlying184 Tryz.size184 HL.out ?_)
    | (refine ZbP rfl 184 _ _ rfl w.heap.size (nI KL) rfl rfl HA0.out Tryz.size184 (by decide+kernel) HL.out ?_))
   exact bodyPost_ret (resA rfl _ _ w.heap.size rfl (HA0.out.whole _) Tryz.underlying184 Tryz.size184 HL.out) rfl ⟨rfl,below_setRow HB.out (Nat.le_refl _) _⟩
end Go.Proofs.YtcaloldcihpkfaaGreatDoor
