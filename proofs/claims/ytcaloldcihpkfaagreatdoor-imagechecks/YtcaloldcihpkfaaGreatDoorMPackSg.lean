/-
 Layer 13's reference: Pad.
-/
import Derived.Test.YtcaloldcihpkfaaGreatDoorMPackSb
import Derived.Test.YtcaloldcihpkfaaGreatDoorMPackSc
import Derived.Test.YtcaloldcihpkfaaGreatDoorMPackSa
import Derived.Test.YtcaloldcihpkfaaGreatDoorMPackSd
import Derived.Test.YtcaloldcihpkfaaGreatDoorMPackSe
namespace Go.Proofs.YtcaloldcihpkfaaGreatDoor
open Go.RowKit
set_option linter.unusedVariables false
set_option maxRecDepth 8192

theorem Zvk (k:Nat):256^k=2^(8*k):=by rw [show 256=2^8 from rfl, ←Nat.pow_mul]
theorem ZmR {n k:Nat} (h:k<Zas n):(n+1+k+8)%64≠0:=by unfold Zas at h;omega
theorem ZmS (n:Nat):(n+1+Zas n+8)%64=0:=by unfold Zas;omega
def Zd7 (n k:Nat):List Nat:=128::List.replicate k 0
theorem Zvl (n k:Nat):Zd7 n k++ [0]=Zd7 n (k+1):=by simp [Zd7,List.replicate_succ']
theorem Zi4 {B:Nat} {e:TypeId} {w wr w1:World} {v v':Value} {o:Obj} {n:Nat} {xs:List Nat} {x:Nat} (hB:B≤wr.heap.size)
  (hown:wr.ownsRow B e 1 v n ((nI xs).map (Value.int .u8))) (hnx:Below B w wr)
  (hown':w1.ownsRow B e 1 v' (n+1) ((nI xs).map (Value.int .u8)++ [.int .u8 (x:Int)])) (hgrow:(wr.alloc o).grownBy w1 v.ownBlock):
  w1.ownsRow B e 1 v' (n+1) ((nI (xs++ [x])).map (Value.int .u8))∧Below B w w1:=by
 have R:=Zb5 hB hown hnx hown' hgrow
 rw [←Zch] at R
 exact R
set_option maxHeartbeats 3200000 in
theorem Zvm (z:List Nat) (a:Option Addr) (len cap:Nat) (w:World) (hr:Row .u8 w a len cap (nI z)) (hl:len≤100000):
  Calls Tryz.prog 67 #[.slice a len cap] w fun e w'=>∃v,e= .returned v∧w'.ownsRow w.heap.size 5 1 v (len+(Zas len+9)) ((nI (z++padL len)).map (Value.int .u8))∧Below w.heap.size w w':=by
 obtain ⟨i0,hi0,hz0,hz1,hz2⟩:=info_parts Tryz.info5
 have hn64:=ZdJ len
 go_enter Tryz.func67,Tryz.ntmps67
 go_wp2_with (at_builtin;refine Zdn _ rfl _ _ 28 rfl w.heap.size 5 i0 (.int .u8 0) 1 Tryz.underlying28 hi0 hz0 hz1 hz2 rfl _ 0 [] rfl (World.ownsRow_nil _ _ _ _) .u8 a len cap _ rfl hr (by unfold maxLen;omega) (by omega) (Nat.le_refl _) ?_)
 intro v1 w1 own1 hg1
 have q1:Below w.heap.size w w1:=(Below.refl _ _).grown hg1 (Nat.le_refl _) (by simp [Value.ownBlock])
 have s1:=q1.size
 clear hg1
 go_wp2_with (at_builtin;refine wpList_append_own _ rfl _ _ 28 rfl w.heap.size 5 i0 (.int .u8 0) 1 1 Tryz.underlying28 hi0 hz0 hz1 hz2 rfl (by decide) _ _ _ rfl (own1.alloc _) ⟨w1.heap.size,0,none⟩ 1 1 [.int .u8 128] rfl rfl (cell_one_new _ _ _) (by intro u hu;simp at hu;subst hu;rfl) (by unfold maxLen;omega) (by omega) (by simp;omega) ?_)
 intro v2 w2 own2' hg2 _
 have R2:=Zi4 (x:=128) s1 own1 q1 own2' hg2
 clear own2' hg2 own1 q1
 go_wp2
 go_loopw [3] (fun v wr=>∃k:Nat,k≤Zas len∧Hid (wr.ownsRow w.heap.size 5 1 v (len+1+k) ((nI (z++Zd7 len k)).map (Value.int .u8)))∧Hid (Below w.heap.size w wr)) (fun v _=>match v with| .slice _ l _=>1000000 - l|_=>1000000)
 case atStart=>exact ⟨0,Nat.zero_le _,R2.1,R2.2⟩
 case round=>
  clear R2
  obtain ⟨k,hk,HO,HB⟩:=hrel
  obtain ⟨a3,c3,rfl,_⟩:=ZaF HO.out
  have s3:=HB.out.size
  by_cases hlt:k<Zas len
  ·have hne:=ZmR hlt
   have hq:(((len+1+k:Nat):Int)+8)%64≠0:=by omega
   have hq2:((((len+1+k:Nat):Int)+8)%64 != 0)=true:=by simpa using hq
   have hown:=HO.out
   have HLT:Hid (k<Zas len):=hlt
   have hL:len+1+k≤200000:=by omega
   generalize hLk:len+1+k=L at*
   have HLk:Hid (len+1+k=L):=hLk
   clear hLk hne hq
   go_wp2_with (at_builtin;refine wpList_append_own _ rfl _ _ 28 rfl w.heap.size 5 i0 (.int .u8 0) 1 1 Tryz.underlying28 hi0 hz0 hz1 hz2 rfl (by decide) _ _ _ rfl (hown.alloc _) ⟨_,0,none⟩ 1 1 [.int .u8 0] rfl rfl (cell_one_new _ _ _) (by intro u hu;simp at hu;subst hu;rfl) (by unfold maxLen;omega) (by omega) (by simp;omega) ?_)
   intro v4 w4 own4' hg4 _
   have R4:=Zi4 (x:=0) s3 hown HB.out own4' hg4
   rw [List.append_assoc,Zvl] at R4
   obtain ⟨a4,c4,rfl,_⟩:=ZaF R4.1
   clear own4' hg4
   go_wp2
   go_roundw
   case rel=>exact ⟨k+1,by have:=HLT.out;omega,by rw [show len+1+(k+1)=L+1 from by have:=HLk.out;omega];exact R4.1,R4.2⟩
   case measure=>simp only;omega
  ·obtain rfl:k=Zas len:=by omega
   have hq2:((((len+1+Zas len:Nat):Int)+8)%64 != 0)=false:=by have:=ZmS len;simp;omega
   have HP:Hid (z++padL len=z++Zd7 len (Zas len)++beN 8 (8*len)):=by show _=_;rw [ZfW];simp [padL,Zd7]
   have hown:=HO.out
   have HB8:Hid (∀j,j<8→(beN 8 (8*len)).take (j+1)=(beN 8 (8*len)).take j++ [8*len/2^(8*(7 - j))%256]):=fun j hj=>by
    rw [ZcY _ _ (by rw [ZdO];exact hj),ZfX 8 (8*len) j hj,Zvk,show 8 - 1 - j=7 - j from by omega]
   have hfull:(beN 8 (8*len)).take 8=beN 8 (8*len):=List.take_of_length_le (by rw [ZdO];exact Nat.le_refl _)
   have HFl:Hid ((beN 8 (8*len)).take 8=beN 8 (8*len)):=hfull
   clear hfull
   have e8:(8:Int)*(len:Int)=((8*len:Nat):Int):=by omega
   have hN:8*len≤800000:=by omega
   have HNN:Hid (8*len=8*len):=rfl
   have hL:len+1+Zas len≤200000:=by omega
   generalize hLk:len+1+Zas len=L at*
   have HLk:Hid (len+1+Zas len=L):=hLk
   clear hLk
   obtain ⟨N,hNe⟩:∃N,8*len=N:=⟨_,rfl⟩
   rw [hNe] at e8 hN HP HB8 HFl
   clear hNe
   generalize beN 8 N=bl at*
   generalize z++Zd7 len (Zas len)=zp at*
   go_wp2
   clear e8
   go_loopw [3,5] (fun v y wr=>∃j:Nat,j≤8∧y= .int .i64 (7 - (j:Int))∧Hid (wr.ownsRow w.heap.size 5 1 v (L+j) ((nI (zp++bl.take j)).map (Value.int .u8)))∧Hid (Below w.heap.size w wr)) (fun _ y _=>(intOf y+1).toNat)
   case atStart=>exact ⟨0,by omega,rfl,by rw [List.take_zero,List.append_nil];exact HO,HB⟩
   case round=>
    clear HO HB hown s3 hq2
    obtain ⟨j,hj,rfl,HO,HB⟩:=hrel
    have hown:=HO.out
    have s4:=HB.out.size
    by_cases h8:j<8
    ·have HT:=HB8.out j h8
     have HT2:Hid (bl.take (j+1)=bl.take j++ [N/2^(8*(7 - j))%256]):=HT
     clear HT
     have hp:=fun w=>Zdl (8*(7 - j)) w (by omega)
     have hpp:0<2^(8*(7 - j)):=Nat.two_pow_pos _
     have hpl:2^(8*(7 - j))≤2^56:=Nat.pow_le_pow_right (by decide) (by omega)
     have em:(8:Int)*(7 - (j:Int))=((8*(7 - j):Nat):Int):=by omega
     generalize 2^(8*(7 - j))=p at*
     generalize 8*(7 - j)=pe at*
     have hd:(N:Int).tdiv (p:Int)=((N/p:Nat):Int):=(Int.ofNat_tdiv N p).symm
     have hdl:N/p≤N:=Nat.div_le_self _ _
     have hp0:¬(p:Int)=0:=by omega
     generalize N/p=d at*
     have hj7:(0:Int)≤7 - (j:Int):=by omega
     go_wp2_with fail
     refine (hp _).mono ?_
     rintro e w' ⟨rfl,rfl⟩
     go_wp2_with (at_builtin;refine wpList_append_own _ rfl _ _ 28 rfl w.heap.size 5 i0 (.int .u8 0) 1 1 Tryz.underlying28 hi0 hz0 hz1 hz2 rfl (by decide) _ _ _ rfl (hown.alloc _) ⟨_,0,none⟩ 1 1 [.int .u8 ((d:Int)%256)] rfl rfl (cell_one_new _ _ _) (by intro u hu;simp at hu;subst hu;rfl) (by unfold maxLen;omega) (by omega) (by simp;omega) ?_)
     intro v5 w5 own5' hg5 _
     rw [show (d:Int)%256=((d%256:Nat):Int) from by omega] at own5'
     have R5:=Zi4 (x:=d%256) s4 hown HB.out own5' hg5
     rw [List.append_assoc, ←HT2.out] at R5
     clear own5' hg5
     go_wp2
     go_roundw
     case rel=>exact ⟨j+1,by omega,by go_num,R5.1,R5.2⟩
     case measure=>simp [intOf];omega
    ·obtain rfl:j=8:=by omega
     rw [HFl.out, ←HP.out,show L+8=len+(Zas len+9) from by have:=HLk.out;omega] at hown
     go_wp2
     go_ret
     exact ⟨_,rfl,hown,HB.out⟩
end Go.Proofs.YtcaloldcihpkfaaGreatDoor

/-
 The document's answer for layer 14 (casemateref14): root.
-/
namespace Go.Proofs.YtcaloldcihpkfaaGreatDoor.B
open Go.RowKit
set_option linter.unusedVariables false
set_option maxRecDepth 8192

structure DI (l:List Nat) (n:Nat):Prop where
 len:l.length=5
 dig:Dig l
 low:∀i,2^(min 16 (n - 16*i))∣dg l i
theorem DI.zero:DI (List.replicate 5 0) 69:=⟨rfl,Dig.zero,fun i=>by
 have:dg (List.replicate 5 0) i=0:=by unfold dg;rw [List.getElem?_replicate];split<;>rfl
 rw [this];exact Nat.dvd_zero _⟩
theorem Zvn (b:Nat):2^b=2^(b%16)*65536^(b/16):=by
 rw [show (65536:Nat)=2^16 from rfl, ←Nat.pow_mul, ←Nat.pow_add]
 congr 1
 omega
theorem DI.room {l:List Nat} {b:Nat} (h:DI l (b+1)):dg l (b/16)+2^(b%16)<65536:=by
 have h1:=h.low (b/16)
 have e:min 16 (b+1 - 16*(b/16))=b%16+1:=by omega
 rw [e] at h1
 have h2:=h.dig.at (b/16)
 obtain ⟨q,hq⟩:=h1
 have hp:2^(b%16+1)=2*2^(b%16):=by rw [Nat.pow_succ];omega
 have hr:b%16≤15:=by omega
 have h3:2^(b%16)*2^(15 - b%16)=32768:=by rw [←Nat.pow_add,show b%16+(15 - b%16)=15 from by omega]
 have hpos:0<2^(b%16):=Nat.two_pow_pos _
 rw [hq,hp] at h2 ⊢
 generalize 2^(b%16)=W at*
 generalize 2^(15 - b%16)=V at*
 have h4:2*W*V=65536:=by rw [Nat.mul_assoc,h3]
 have h5:q<V:=by
  rcases Nat.lt_or_ge q V with h'|h'
  ·exact h'
  ·have:=Nat.mul_le_mul_left (2*W) h';omega
 have h6:=Nat.mul_le_mul_left (2*W) (show q+1≤V from h5)
 rw [Nat.mul_add] at h6
 omega
theorem DI.add {l:List Nat} {b:Nat} (h:DI l (b+1)) (hb:b≤68):DI (l.set (b/16) (dg l (b/16)+2^(b%16))) b∧vL (l.set (b/16) (dg l (b/16)+2^(b%16)))=vL l+2^b:=by
 have hj:b/16<l.length:=by rw [h.len];omega
 refine ⟨⟨by rw [List.length_set];exact h.len,h.dig.set _ h.room,fun i=> ?_⟩, ?_⟩
 ·rw [ZcB hj i]
  by_cases e:i=b/16
  ·rw [if_pos e]
   subst e
   have e2:min 16 (b - 16*(b/16))=b%16:=by omega
   rw [e2]
   have h1:=h.low (b/16)
   rw [show min 16 (b+1 - 16*(b/16))=b%16+1 from by omega] at h1
   exact Nat.dvd_add (Nat.dvd_trans (Nat.pow_dvd_pow 2 (by omega)) h1) (Nat.dvd_refl _)
  ·rw [if_neg e]
   exact Nat.dvd_trans (Nat.pow_dvd_pow 2 (by omega)) (h.low i)
 ·have hs:=ZbO (l:=l) (j:=b/16) (x:=dg l (b/16)+2^(b%16)) hj
  rw [Nat.add_mul, ←Zvn b] at hs
  omega
theorem DI.four {l:List Nat} {n:Nat} (h:DI l n):((dg l 3*65536+dg l 2)*65536+dg l 1)*65536+dg l 0=vL l%18446744073709551616:=by
 have e:vL l=vTo (dg l) 5:=by unfold vL;rw [h.len]
 have h0:=h.dig.at 0
 have h1:=h.dig.at 1
 have h2:=h.dig.at 2
 have h3:=h.dig.at 3
 have h4:=h.dig.at 4
 rw [e]
 simp only [vTo]
 omega
end Go.Proofs.YtcaloldcihpkfaaGreatDoor.B

/-
 The document's answer for layer 14 (casemateref14): Start, Rounds. (Written by tools/gen/shb_ref2.py.)
-/
namespace Go.Proofs.YtcaloldcihpkfaaGreatDoor.B
open Go.RowKit
set_option linter.unusedVariables false
set_option maxRecDepth 8192

end Go.Proofs.YtcaloldcihpkfaaGreatDoor.B

/-
 The document's answer for layer 14 (casemateref14): rotr, three, Pad. (Pad: written by tools/gen/shb_ref3.py.)
-/
namespace Go.Proofs.YtcaloldcihpkfaaGreatDoor.B
open Go.RowKit
set_option linter.unusedVariables false
set_option maxRecDepth 8192

theorem ZmR {n k:Nat} (h:k<Zas n):(n+1+k+16)%128≠0:=by unfold Zas at h;omega
theorem ZmS (n:Nat):(n+1+Zas n+16)%128=0:=by unfold Zas;omega
end Go.Proofs.YtcaloldcihpkfaaGreatDoor.B
