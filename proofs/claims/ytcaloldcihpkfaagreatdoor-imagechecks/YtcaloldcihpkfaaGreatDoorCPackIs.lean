/-
 The document's answer of layer 23 (casemateref23): Digests, Fits.
-/
import Derived.Test.YtcaloldcihpkfaaGreatDoorCPackIb
import Derived.Test.YtcaloldcihpkfaaGreatDoorCPackIa
import Derived.Test.YtcaloldcihpkfaaGreatDoorMPackSh
import Derived.Test.YtcaloldcihpkfaaGreatDoorCPackKa
namespace Go.Proofs.YtcaloldcihpkfaaGreatDoor.N
open Go.RowKit
set_option linter.unusedVariables false
set_option maxRecDepth 8192

theorem Zv6 {w:World} {b o:Nat} {s:Sg} (h:w.rangeAt b o (sC s)):w.rangeAt b (o+2) (s.dig.map (Value.int .u8)):=fun j v hv=>by
 rw [show o+2+j=o+(2+j) by omega]
 exact h (2+j) v (by rw [show 2+j=j+1+1 by omega];exact hv)
theorem Zv7 {w:World} {g:Nat} {T:TypeId} {d:List Int} (hl:d.length=32) (h:w.heap[g]? =some (.cells (dA d) T (0,0))):Row .u8 w (some ⟨g,0,none⟩) 32 32 d:=
 ⟨hl,Nat.le_refl _,by unfold maxLen;omega,by simp,fun _=>⟨g,0,rfl,Zat h,fun i hi=>by
  rw [cell_of_row w g _ _ _ _ h,Nat.zero_add]
  have hd:i<d.length:=by omega
  simp [dA,dC,List.getElem?_eq_getElem hd]⟩⟩
theorem Zv8 (w:World) (z:List Nat) (a:Option Addr) (len cap:Nat) (hr:Row .u8 w a len cap (nI z)) (hz:∀x∈z,x<256) (hl:len≤100000):
  Calls Tryz.prog 28 #[.slice a len cap] w fun e w'=>∃v,e= .returned v∧w'.ownsRow w.heap.size 5 1 v 32 ((dgI z).map (Value.int .u8))∧Below w.heap.size w w':=Zvw z a len cap w hr hz hl
set_option maxHeartbeats 1600000 in
theorem Zv9 {w:World} {v s k e:Int} {a pa:Option Addr} {n c m pc:Nat} {l:List Sg} {R:Nat→B.PartV} (hr:SegRow w a n c l) (ok:∀s∈l,s.Ok) (hp:B.PartsAt w pa m pc R) (hb:∀i,i<m→(R i).len≤100000):
  Calls Tryz.prog 20 #[.agg #[.int .i64 v, .int .i64 s, .int .i64 k, .int .i64 e, .slice a n c], .slice pa m pc] w fun e' w'=>e'= .returned (.bool (decide (m=n)&&areS l R n))∧Below w.heap.size w w':=by
 have hm:=hr.hmax
 have hc:=hr.hcap
 have hpm:=hp.hmax
 have hpl:=hp.hlen
 unfold maxLen at hm hpm
 have HB:Hid (∀i,i<m→(R i).len≤100000):=hb
 clear hb
 have V0:=Vars.start w
 go_enter Tryz.func20,Tryz.ntmps20
 by_cases hmn:m=n
 case neg=>
  have hmn':((m:Int) != (n:Int))=true:=by rw [bne_iff_ne];omega
  go_wp2_with (refine Zaj V0 2 25 _ rfl rfl rfl #[.int .i64 v, .int .i64 s, .int .i64 k, .int .i64 e, .slice a n c] rfl ?_;intro w1 g2 V1;have c4:w1.cell? ⟨g2,4,none⟩=some (.slice a n c):=Zag (V1.at 0 rfl) 4)
  go_ret
  exact ⟨ZaC (by rw [decide_eq_false hmn];rfl),V1.bel⟩
 subst hmn
 have hmn':((m:Int) != (m:Int))=false:=by simp
 go_wp2_with (refine Zaj V0 2 25 _ rfl rfl rfl #[.int .i64 v, .int .i64 s, .int .i64 k, .int .i64 e, .slice a m c] rfl ?_;intro w1 g2 V1;have c4:w1.cell? ⟨g2,4,none⟩=some (.slice a m c):=Zag (V1.at 0 rfl) 4)
 have HV:Hid (Vars w w1 [⟨g2,25, #[.int .i64 v, .int .i64 s, .int .i64 k, .int .i64 e, .slice a m c]⟩]):=V1
 have HT:Hid ((decide (m=m)&&areS l R m)=areS l R m):=by show _=_;simp
 clear V0 V1 c4
 go_loopw [5] (fun i wr=>∃k':Nat,k'≤m∧i= .int .i64 (k':Int)∧Hid (areS l R k'=true)∧Hid (Vars w wr [⟨g2,25, #[.int .i64 v, .int .i64 s, .int .i64 k, .int .i64 e, .slice a m c]⟩])) (fun i _=>m - (RowKit.intOf i).toNat)
 case atStart=>exact ⟨0,Nat.zero_le _,rfl,rfl,HV⟩
 case round=>
  clear HV
  obtain ⟨k',hk,rfl,HA,HV⟩:=hrel
  have V:=HV.out
  by_cases hlt:k'<m
  ·obtain ⟨b,off,rfl,hbs,hcell⟩:=(hr.below V.bel (Nat.le_refl _)).hcell (by omega)
   have hx:=hcell k' hlt
   have hs:=ZcP ok k'
   obtain ⟨b2,off2,rfl,hbs2,hpe⟩:=(hp.below V.bel (Nat.le_refl _)).each (by omega)
   obtain ⟨x0,hri,hzi⟩:=hpe k' hlt
   have hlb:=HB.out k' hlt
   have HS:Hid (areS l R (k'+1)=isS l R k'):=by show _=_;rw [ZpJ,HA.out,Bool.true_and]
   have HF:Hid (isS l R k'=false→areS l R m=false):=fun h=>ZpK hlt h
   have HSZ:Hid (((R k').len:Int)≠(sgI l k').size→isS l R k'=false):=ZpV
   have HSD:Hid (((R k').len:Int)=(sgI l k').size→isS l R k'=decide (dgI (R k').num=(sgI l k').dig)):=ZpW
   have cg:wr.cell? ⟨g2,4,none⟩=some (.slice (some ⟨b,off,none⟩) m c):=Zag (V.at 0 rfl) 4
   clear hcell hpe HA
   generalize hak:areS l R (k'+1)=ak1 at HS
   have HAK:Hid (areS l R (k'+1)=ak1):=hak
   clear hak
   generalize isS l R k'=ik at*
   generalize sgI l k'=sg at*
   generalize R k'=r at*
   obtain ⟨ar,len,cr,zr⟩:=r
   simp only at x0 hri hzi hlb HSZ HSD
   have HZ:Hid (∀x∈zr,x<256):=hzi
   have hrd:=Zv6 hx
   have hl2:=hs.len
   have hb2:=hs.byt
   have cz:wr.cell? ⟨b,off+k'*34+1,none⟩=some (.int .i64 sg.size):=hx 1 _ rfl
   clear hzi
   have hlt':(k':Int)<(m:Int):=by omega
   have U0:=Vars.start wr
   go_upto_region 7 with (first
    | (refine ZjF rfl 22 _ rfl b (off+k'*34+2) rfl hrd Tryz.underlying22 Tryz.szDg hl2 ?_)
    | (refine Zai U0 6 22 rfl rfl rfl (dA ZbT) Zk2 ?_;intro u1 g6 U1)
    | (refine Zal U1 0 rfl _ (.tmp 24) rfl rfl rfl (dA sg.dig) rfl rfl Tryz.szDg (Zcm Zb1.len) (Zcm hl2) (Zgr _) ?_;intro u2 U2))
   have W:=(V.made U2.bel (U2.low _ (List.mem_singleton.2 rfl)) (U2.at 0 rfl)).drew
   have QD:=U2.bel.drew
   have xd:=(QD.cell (p:=⟨b2,off2+k',none⟩) hbs2).trans x0
   have zd:=(QD.cell (p:=⟨b,off+k'*34+1,none⟩) hbs).trans cz
   have gd:u2.drew.cell? ⟨g2,4,none⟩=some (.slice (some ⟨b,off,none⟩) m c):=Zag (W.at 1 rfl) 4
   have rd:=hri.below QD (Nat.le_refl _)
   have rg:=Zv7 hl2 (W.at 0 rfl)
   have hbz:=ZhY zr
   have hlz:=Zfj zr
   have hsum:=Zv8 u2.drew zr ar len cr rd HZ.out hlb
   clear U0 U1 U2 V HV QD x0 cz hri hx hrd cg
   obtain ⟨wd,hwd⟩:∃wd,wd=u2.drew:=⟨_,rfl⟩
   by_cases hsz:(len:Int)=sg.size
   ·have HD:Hid (ik=decide (dgI zr=sg.dig)):=HSD.out hsz
    have hne:((len:Int) != sg.size)=false:=by rw [hsz];simp
    clear HSD HSZ hsz
    generalize dgI zr=dg at*
    refine Zar (fun w'=>Zao u2.drew w') (by kernel_rfl) ?_
    rw [←hwd] at W xd zd gd rd rg hsum ⊢
    clear hwd
    refine Zaz (rs:=[0,1,2,3,4,5,6,7,8,9,10,11,12,13,14,15,16,19,20]) (fuel:=4) (by kernel_rfl) (fun c d v a w h=>by cases d<;>exact h) (by kernel_rfl) (Zao.refl _) (fun K hK=> ?_)
    iterate 17 (first
     | (refine Zah _ rfl (by rfl) rfl ?_;go_simp)
     | (apply Zad _ rfl (by rfl) (fun w' hw'=>by (have x3:=(Below.cell hw' (p:=⟨b2,off2+k',none⟩) (Za0 xd)).trans xd);(have x4:=(Below.cell hw' (p:=⟨b,off+k'*34+1,none⟩) (Za0 zd)).trans zd);(have x5:=(Below.cell hw' (p:=⟨g2,4,none⟩) (Za0 gd)).trans gd);go_simp;rfl);go_simp))
    refine Zad (.slice (some ⟨g6,0,none⟩) 32 32) rfl (by rfl) (fun w' hw'=>ZbL (W.call hw') 0 rfl _ rfl rfl) ?_
    go_simp
    refine Zad (.string (strOfNums sg.dig)) rfl (by rfl) (fun w' hw'=>by
     have kc1:=ZfS (P:=Tryz.prog) Tryz.underlying28 Tryz.underlying5 Tryz.underlying9 (rg.below hw' (Nat.le_refl _))
     go_simp) ?_
    go_simp
    refine Zac (hK.out _ ?_)
    clear hK K
    refine Zc1 (i:=17) (fuel:=3) (by kernel_rfl) rfl (by rfl) (fun K hK=> ?_)
    go_simp
    refine hsum.mono ?_
    rintro e5 u5 ⟨v5,rfl,own5,q5⟩
    obtain ⟨a5,c5,rfl,r5⟩:=ZaF own5
    have HQ5:Hid (Vars w u5 [⟨g2,25, #[.int .i64 v, .int .i64 s, .int .i64 k, .int .i64 e, .slice (some ⟨b,off,none⟩) m c]⟩]):=(W.call q5).tail
    refine hK _ _ q5 ?_
    clear hK K hsum
    have HE:Hid (((strOfNums dg).toList==(strOfNums sg.dig).toList)=ik):=by
     show _=_
     rw [Zv3 hbz hb2,HD.out]
    refine Zaz (rs:=[18,21,22]) (fuel:=0) (by kernel_rfl) (fun c d v a w h=>by cases d<;>exact h) (by kernel_rfl) (Zao.refl _) (fun K hK=> ?_)
    go_simp
    refine Zad (.string (strOfNums dg)) rfl (by rfl) (fun w' hw'=>by
     have kc1:=ZfS (P:=Tryz.prog) Tryz.underlying28 Tryz.underlying5 Tryz.underlying9 (r5.below hw' (Nat.le_refl _))
     go_simp) ?_
    go_simp
    refine Zad (.bool !ik) rfl (by rfl) (fun w' hw'=>by
     go_simp
     simp [HE.out]) ?_
    go_simp
    refine Zad (.bool !ik) rfl (by rfl) (fun w' hw'=>by go_simp) ?_
    go_simp
    refine Zac (hK.out _ ?_)
    clear hK K W xd zd gd rd rg q5 own5 r5 hne HD HE hbz hlz hl2 hb2
    refine wpAnyH_done (by kernel_rfl) ?_ _
    cases hik:ik
    ·have HN:Hid (areS l R m=false):=HF.out hik
     go_wp2_with fail
     go_ret
     exact ⟨ZaC HN.out.symm,HQ5.out.bel⟩
    ·have HN:Hid (areS l R (k'+1)=true):=by show _=_;rw [HAK.out,HS.out,hik]
     go_wp2_with fail
     go_roundw
     case rel=>exact ⟨k'+1,by omega,by go_num,HN,HQ5⟩
     case measure=>simp [RowKit.intOf];omega
   ·have HN:Hid (areS l R m=false):=HF.out (HSZ.out hsz)
    have hne:((len:Int) != sg.size)=true:=by rw [bne_iff_ne];exact hsz
    have HQ5:Hid (Below w.heap.size w u2.drew):=W.bel
    clear HSD HSZ hsz hsum rg
    refine Zar (fun w'=>Zao u2.drew w') (by kernel_rfl) ?_
    rw [←hwd] at W xd zd gd rd HQ5 ⊢
    clear hwd
    refine Zaz (rs:=[0,1,2,3,4,5,6,7,8,9,10,11,12,13,14,15,16,17,18,19,20,21,22]) (fuel:=0) (by kernel_rfl) (fun c d v a w h=>by cases d<;>exact h) (by kernel_rfl) (Zao.refl _) (fun K hK=> ?_)
    iterate 22 (first
     | (refine Zah _ rfl (by rfl) rfl ?_;go_simp)
     | (refine Zjs rfl (by rfl) ?_;go_simp)
     | (apply Zad _ rfl (by rfl) (fun w' hw'=>by (have x3:=(Below.cell hw' (p:=⟨b2,off2+k',none⟩) (Za0 xd)).trans xd);(have x4:=(Below.cell hw' (p:=⟨b,off+k'*34+1,none⟩) (Za0 zd)).trans zd);(have x5:=(Below.cell hw' (p:=⟨g2,4,none⟩) (Za0 gd)).trans gd);go_simp;rfl);go_simp))
    refine Zad (.bool true) rfl (by rfl) (fun w' hw'=>by go_simp) ?_
    go_simp
    refine Zac (hK.out _ ?_)
    clear hK K W xd zd gd rd hne
    refine wpAnyH_done (by kernel_rfl) ?_ _
    go_wp2_with fail
    go_ret
    exact ⟨ZaC HN.out.symm,HQ5.out⟩
  ·obtain rfl:k'=m:=by omega
   have hk0:¬(k':Int)<(k':Int):=by omega
   go_wp2
   go_ret
   exact ⟨ZaC HA.out.symm,V.bel⟩
end Go.Proofs.YtcaloldcihpkfaaGreatDoor.N

/-
 The document's answer of layer 23 (casemateref23): Fits.
-/
namespace Go.Proofs.YtcaloldcihpkfaaGreatDoor.N
open Go.RowKit
set_option linter.unusedVariables false
set_option maxRecDepth 8192

set_option maxHeartbeats 1600000 in
theorem Zwa {w:World} {v s k e:Int} {a pa la:Option Addr} {m c pc lc:Nat} {l:List Sg} {R:Nat→B.PartV} (hL:LdRow w la m lc l R) (hr:SegRow w a m c l) (hp:B.PartsAt w pa m pc R):
  Calls Tryz.prog 21 #[.agg #[.int .i64 0, .int .i64 e, .int .i64 s, .slice la m lc, .int .i64 0], .agg #[.int .i64 v, .int .i64 s, .int .i64 k, .int .i64 e, .slice a m c], .slice pa m pc] w fun e' w'=>e'= .returned (.bool true)∧Below w.heap.size w w':=by
 have hm:=hr.hmax
 have hc:=hr.hcap
 have hpm:=hp.hmax
 have hpl:=hp.hlen
 have hlm:=hL.hmax
 have hlc:=hL.hcap
 unfold maxLen at hm hpm hlm
 have V0:=Vars.start w
 go_enter Tryz.func21,Tryz.ntmps21
 go_wp2_with (first
  | (refine Zaj V0 3 44 _ rfl rfl rfl #[.int .i64 0, .int .i64 e, .int .i64 s, .slice la m lc, .int .i64 0] rfl ?_;intro w1 g3 V1)
  | (refine Zaj V1 4 25 _ rfl rfl rfl #[.int .i64 v, .int .i64 s, .int .i64 k, .int .i64 e, .slice a m c] rfl ?_;intro w2 g4 V2;have c0:w2.cell? ⟨g3,0,none⟩=some (.int .i64 0):=Zag (V2.at 1 rfl) 0;have c1:w2.cell? ⟨g3,1,none⟩=some (.int .i64 e):=Zag (V2.at 1 rfl) 1;have c2:w2.cell? ⟨g3,2,none⟩=some (.int .i64 s):=Zag (V2.at 1 rfl) 2;have c3:w2.cell? ⟨g3,3,none⟩=some (.slice la m lc):=Zag (V2.at 1 rfl) 3;have c4:w2.cell? ⟨g3,4,none⟩=some (.int .i64 0):=Zag (V2.at 1 rfl) 4;have d1:w2.cell? ⟨g4,1,none⟩=some (.int .i64 s):=Zag (V2.at 0 rfl) 1;have d3:w2.cell? ⟨g4,3,none⟩=some (.int .i64 e):=Zag (V2.at 0 rfl) 3))
 have HV:Hid (Vars w w2 [⟨g4,25, #[.int .i64 v, .int .i64 s, .int .i64 k, .int .i64 e, .slice a m c]⟩,⟨g3,44, #[.int .i64 0, .int .i64 e, .int .i64 s, .slice la m lc, .int .i64 0]⟩]):=V2
 clear V0 V1 V2 c0 c1 c2 c3 c4 d1 d3
 go_loopw [7] (fun i wr=>∃k':Nat,k'≤m∧i= .int .i64 (k':Int)∧Hid (Vars w wr [⟨g4,25, #[.int .i64 v, .int .i64 s, .int .i64 k, .int .i64 e, .slice a m c]⟩,⟨g3,44, #[.int .i64 0, .int .i64 e, .int .i64 s, .slice la m lc, .int .i64 0]⟩])) (fun i _=>m - (RowKit.intOf i).toNat)
 case atStart=>exact ⟨0,Nat.zero_le _,rfl,HV⟩
 case round=>
  clear HV
  obtain ⟨k',hk,rfl,HV⟩:=hrel
  have V:=HV.out
  by_cases hlt:k'<m
  ·obtain ⟨b,off,rfl,hbs,hcell⟩:=hr.hcell (by omega)
   have hx:=hcell k' hlt 0 _ rfl
   obtain ⟨b2,off2,rfl,hbs2,hpe⟩:=hp.each (by omega)
   obtain ⟨x0,hri,hzi⟩:=hpe k' hlt
   obtain ⟨bl,rfl,hbl,he⟩:=hL.each (by omega)
   obtain ⟨ad,cd,y0,y1,hrd⟩:=he k' hlt
   have W:=V.drew
   have Q:=W.bel
   have xd:=(Q.cell (p:=⟨b2,off2+k',none⟩) hbs2).trans x0
   have zd:=(Q.cell (p:=⟨b,off+k'*34,none⟩) hbs).trans hx
   have y0d:=(Q.cell (p:=⟨bl,k'*2,none⟩) hbl).trans y0
   have y1d:=(Q.cell (p:=⟨bl,k'*2+1,none⟩) hbl).trans y1
   have g4d:wr.drew.cell? ⟨g4,4,none⟩=some (.slice (some ⟨b,off,none⟩) m c):=Zag (W.at 0 rfl) 4
   have g3d:wr.drew.cell? ⟨g3,3,none⟩=some (.slice (some ⟨bl,0,none⟩) m lc):=Zag (W.at 1 rfl) 3
   have r1:=hri.below Q (Nat.le_refl _)
   have r2:=hrd.below Q (Nat.le_refl _)
   have hlt':(k':Int)<(m:Int):=by omega
   generalize (sgI l k').load=ld at*
   generalize R k'=p at*
   have HVd:Hid (Vars w wr.drew [⟨g4,25, #[.int .i64 v, .int .i64 s, .int .i64 k, .int .i64 e, .slice (some ⟨b,off,none⟩) m c]⟩,⟨g3,44, #[.int .i64 0, .int .i64 e, .int .i64 s, .slice (some ⟨bl,0,none⟩) m lc, .int .i64 0]⟩]):=W
   clear hcell hpe he x0 hri hzi y0 y1 hrd hx V HV W Q
   obtain ⟨wd,hwd⟩:∃wd,wd=wr.drew:=⟨_,rfl⟩
   go_upto_region 6 with fail
   refine Zar (fun w'=>Zao wr.drew w') (by kernel_rfl) ?_
   rw [←hwd] at xd zd y0d y1d g4d g3d r1 r2 HVd ⊢
   clear hwd
   replace r1:Row .u8 wd p.at_ p.len p.cap (nI p.num):=r1
   refine Zaz (rs:=[0,1,2,3,4,5,6,7,8,9,10,11,12,13,14,15,16,17,18,19,20,21,22,23,24,25,26,27]) (fuel:=0) (by kernel_rfl) (fun c d v a w h=>by cases d<;>exact h) (by kernel_rfl) (Zao.refl _) (fun K hK=> ?_)
   iterate 12 (first
    | (refine Zah _ rfl (by rfl) rfl ?_;go_simp)
    | (apply Zad _ rfl (by rfl) (fun w' hw'=>by (have x1:=(Below.cell hw' (p:=⟨b2,off2+k',none⟩) (Za0 xd)).trans xd);(have x2:=(Below.cell hw' (p:=⟨b,off+k'*34,none⟩) (Za0 zd)).trans zd);(have x3:=(Below.cell hw' (p:=⟨bl,k'*2,none⟩) (Za0 y0d)).trans y0d);(have x4:=(Below.cell hw' (p:=⟨bl,k'*2+1,none⟩) (Za0 y1d)).trans y1d);(have x5:=(Below.cell hw' (p:=⟨g4,4,none⟩) (Za0 g4d)).trans g4d);(have x6:=(Below.cell hw' (p:=⟨g3,3,none⟩) (Za0 g3d)).trans g3d);go_simp;rfl);go_simp))
   iterate 8 (first
    | (refine Zah _ rfl (by rfl) rfl ?_;go_simp)
    | (apply Zad _ rfl (by rfl) (fun w' hw'=>by (have x1:=(Below.cell hw' (p:=⟨b2,off2+k',none⟩) (Za0 xd)).trans xd);(have x2:=(Below.cell hw' (p:=⟨b,off+k'*34,none⟩) (Za0 zd)).trans zd);(have x3:=(Below.cell hw' (p:=⟨bl,k'*2,none⟩) (Za0 y0d)).trans y0d);(have x4:=(Below.cell hw' (p:=⟨bl,k'*2+1,none⟩) (Za0 y1d)).trans y1d);(have x5:=(Below.cell hw' (p:=⟨g4,4,none⟩) (Za0 g4d)).trans g4d);(have x6:=(Below.cell hw' (p:=⟨g3,3,none⟩) (Za0 g3d)).trans g3d);go_simp;rfl);go_simp))
   refine Zad (.string (strOfNums (nI p.num))) rfl (by rfl) (fun w' hw'=>by
    have kc1:=ZfS (P:=Tryz.prog) Tryz.underlying28 Tryz.underlying5 Tryz.underlying9 (r2.below hw' (Nat.le_refl _))
    go_simp) ?_
   go_simp
   iterate 4 (first
    | (refine Zah _ rfl (by rfl) rfl ?_;go_simp)
    | (apply Zad _ rfl (by rfl) (fun w' hw'=>by (have x1:=(Below.cell hw' (p:=⟨b2,off2+k',none⟩) (Za0 xd)).trans xd);(have x2:=(Below.cell hw' (p:=⟨b,off+k'*34,none⟩) (Za0 zd)).trans zd);(have x3:=(Below.cell hw' (p:=⟨bl,k'*2,none⟩) (Za0 y0d)).trans y0d);(have x4:=(Below.cell hw' (p:=⟨bl,k'*2+1,none⟩) (Za0 y1d)).trans y1d);(have x5:=(Below.cell hw' (p:=⟨g4,4,none⟩) (Za0 g4d)).trans g4d);(have x6:=(Below.cell hw' (p:=⟨g3,3,none⟩) (Za0 g3d)).trans g3d);go_simp;rfl);go_simp))
   refine Zad (.string (strOfNums (nI p.num))) rfl (by rfl) (fun w' hw'=>by
    have kc1:=ZfS (P:=Tryz.prog) Tryz.underlying28 Tryz.underlying5 Tryz.underlying9 (r1.below hw' (Nat.le_refl _))
    go_simp) ?_
   go_simp
   refine Zad (.bool false) rfl (by rfl) (fun w' hw'=>by go_simp;try simp) ?_
   go_simp
   refine Zad (.bool false) rfl (by rfl) (fun w' hw'=>by go_simp) ?_
   go_simp
   refine Zac (hK.out _ ?_)
   clear hK K xd zd y0d y1d g4d g3d r1 r2
   refine wpAnyH_done (by kernel_rfl) ?_ _
   go_wp2_with fail
   go_roundw
   case rel=>exact ⟨k'+1,by omega,by go_num,HVd⟩
   case measure=>simp [RowKit.intOf];omega
  ·obtain rfl:k'=m:=by omega
   have hk0:¬(k':Int)<(k':Int):=by omega
   go_wp2
   go_ret
   exact ⟨rfl,V.bel⟩
end Go.Proofs.YtcaloldcihpkfaaGreatDoor.N
