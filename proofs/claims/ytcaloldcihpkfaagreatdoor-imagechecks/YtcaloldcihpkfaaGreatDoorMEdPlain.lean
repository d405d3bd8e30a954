/-
 Layer 19, in plain words: a digest as a number; the numbers of a seed, of a signature; what was signed is verified, and by one number alone; the examples.
-/
import Derived.Test.YtcaloldcihpkfaaGreatDoorMPackCa
import Derived.Test.YtcaloldcihpkfaaGreatDoorMPackCb
import Derived.Test.YtcaloldcihpkfaaGreatDoorMPackSc
namespace Go.Proofs.YtcaloldcihpkfaaGreatDoor.N
set_option linter.unusedVariables false
set_option maxRecDepth 8192

theorem ZlP (K:List Nat) (S:B.S8) (z:List Nat):(B.sumL K S z).length=64:=rfl
theorem ZlQ (K:List Nat) (S:B.S8) (z:List Nat):Dig (B.sumL K S z):=by
 unfold B.sumL B.S8.bytes
 intro x hx
 simp only [List.mem_append] at hx
 rcases hx with (((((((h|h)|h)|h)|h)|h)|h)|h)<;>exact ZgM _ x h
def hN (z:List Nat):Nat:=vL (B.sumL B.KL B.S0 z)
theorem Zs1 (z:List Nat):B.sumL B.KL B.S0 z=digL (hN z) 64:=by
 have h:=Zca (ZlQ B.KL B.S0 z)
 rwa [ZlP] at h
theorem p256:(256:Nat)^32=2^256:=by decide
theorem ZlR (z:List Nat):hN z<2^256*2^256:=by
 have h:=(ZlQ B.KL B.S0 z).vL_lt
 rw [ZlP,show 64=32+32 from rfl,Nat.pow_add,p256] at h
 exact h
theorem Zs2 {v:Nat} (h:v<2^256*2^256):v/2^256<2^256:=(Nat.div_lt_iff_lt_mul (Nat.two_pow_pos 256)).2 h
theorem ZlS (v:Nat):v%2^256<2^256:=Nat.mod_lt _ (Nat.two_pow_pos 256)
def numN (z:List Nat):Nat:=hN z%oL
theorem Zs3 (z:List Nat):numN z=hN z%oL:=rfl
theorem Zfy (z:List Nat):numN z<2^256:=Zit _
def secA (sd:Nat):Nat:=Zfp (hN (digL sd 32)%2^256)
def secB (sd:Nat):Nat:=hN (digL sd 32)/2^256
theorem Zs4 (sd:Nat):secA sd=Zfp (hN (digL sd 32)%2^256):=rfl
theorem Zs5 (sd:Nat):secB sd=hN (digL sd 32)/2^256:=rfl
theorem ZiN (sd:Nat):secA sd<2^256:=Zsi _
def pubP (sd:Nat):Pt:=Zau (secA sd) ZaA
theorem Zs6 (sd:Nat):OnC (pubP sd):=Zb2 ZbV _
def pubN (sd:Nat):Nat:=Zaw (pubP sd)
theorem ZlT (sd:Nat):pubN sd<2^256:=ZeG _
def rN (sd:Nat) (m:List Nat):Nat:=numN (digL (secB sd) 32++m)
def rP (sd:Nat) (m:List Nat):Pt:=Zau (rN sd m) ZaA
theorem Zs7 (sd:Nat) (m:List Nat):OnC (rP sd m):=Zb2 ZbV _
def ptN (sd:Nat) (m:List Nat):Nat:=Zaw (rP sd m)
theorem ZlU (sd:Nat) (m:List Nat):ptN sd m<2^256:=ZeG _
def kN (R P:Nat) (m:List Nat):Nat:=numN (digL R 32++digL P 32++m)
def sN (sd:Nat) (m:List Nat):Nat:=(kN (ptN sd m) (pubN sd) m*secA sd+rN sd m)%oL
theorem Zs8 (sd:Nat) (m:List Nat):sN sd m<oL:=Zlq _
theorem Zs9 (sd:Nat) (m:List Nat):sN sd m<2^256:=Zit _
def sgN (sd:Nat) (m:List Nat):Nat:=ptN sd m+2^256*sN sd m
theorem ZlV {a b:Nat} (h:a<2^256):(a+2^256*b)%2^256=a:=by rw [Nat.add_mul_mod_self_left,Nat.mod_eq_of_lt h]
theorem ZlW {a b:Nat} (h:a<2^256):(a+2^256*b)/2^256=b:=by rw [Nat.add_mul_div_left _ _ (Nat.two_pow_pos 256),Nat.div_eq_of_lt h,Nat.zero_add]
theorem Zta {A a b:Nat} (h:a<A) (h':b<A):a+A*b<A*A:=by
 have h1:A*(b+1)≤A*A:=Nat.mul_le_mul_left A h'
 rw [Nat.mul_add,Nat.mul_one] at h1
 omega
theorem ZlX {a b:Nat} (h:a<2^256) (h':b<2^256):a+2^256*b<2^256*2^256:=Zta h h'
theorem Ztb (v n:Nat):digL (v%256^n) n=digL v n:=by
 unfold digL
 apply List.map_congr_left
 intro i hi
 have hi:i<n:=List.mem_range.1 hi
 have e:(256:Nat)^n=256^i*(256*256^(n - i - 1)):=by rw [←Nat.pow_succ', ←Nat.pow_add,show i+(n - i - 1).succ=n by omega]
 rw [e,Nat.mod_mul_right_div_self,Nat.mod_mul_right_mod]
theorem ZlY (v:Nat):digL (v%2^256) 32=digL v 32:=by rw [←p256];exact Ztb v 32
theorem ZiO (v:Nat):digL v 64=digL v 32++digL (v/2^256) 32:=by
 apply Zdq (by simp [Zap])
 intro i
 rcases Nat.lt_or_ge i 64 with h|h
 ·rw [Zbk h]
  rcases Nat.lt_or_ge i 32 with h1|h1
  ·unfold dg
   rw [List.getElem?_append_left (by rw [Zap];exact h1)]
   have:=Zbk (x:=v) h1
   unfold dg at this
   rw [this]
  ·unfold dg
   rw [List.getElem?_append_right (by rw [Zap];exact h1),Zap]
   have:=Zbk (x:=v/2^256) (show i - 32<32 by omega)
   unfold dg at this
   rw [this, ←p256,Nat.div_div_eq_div_mul, ←Nat.pow_add,show 32+(i - 32)=i by omega]
 ·rw [Zbj (by rw [Zap];exact h),Zbj (by rw [List.length_append,Zap,Zap];exact h)]
theorem Ztc {a b:Nat} (h:a<2^256):digL (a+2^256*b) 64=digL a 32++digL b 32:=by
 rw [ZiO,ZlW h, ←ZlY,ZlV h]
theorem sum_holds (k a r:Nat):Zau ((k*a+r)%oL) ZaA=psum (Zau r ZaA) (Zau k (Zau a ZaA)):=by
 rw [Zsl,Zgv ZbV,Nat.mul_comm k a,Zli ZbV,Zlh (Zb2 (Zb2 ZbV _) _) (Zb2 ZbV _)]
theorem sign_holds (sd:Nat) (m:List Nat):Zau (sN sd m) ZaA=psum (rP sd m) (Zau (kN (ptN sd m) (pubN sd) m) (pubP sd)):=sum_holds _ _ _
attribute [irreducible] hN numN secA secB
end Go.Proofs.YtcaloldcihpkfaaGreatDoor.N
