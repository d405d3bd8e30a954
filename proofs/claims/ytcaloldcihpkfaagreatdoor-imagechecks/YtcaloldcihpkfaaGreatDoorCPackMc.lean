/-
 The code of layer 20 (manifest), as it landed: the reader: manifest.
-/
import Derived.Test.YtcaloldcihpkfaaGreatDoorCPackMb
import Derived.Lib.Strings
import Derived.Great.BuildSlice
import Derived.Defers
import Derived.Recover
import Derived.Tactics2
namespace Go.Proofs.YtcaloldcihpkfaaGreatDoor.N
open Go.RowKit
set_option linter.unusedVariables false
set_option maxRecDepth 8192

theorem Zex {D:List Int} (h:D.length<24):isMf D=false:=by
 unfold isMf fits
 rw [decide_eq_false (show ¬24≤D.length by omega),Bool.false_and,Bool.false_and,Bool.and_false]
theorem Zqd {D:List Int} (h:decide (D.take 4=mani)=false):isMf D=false:=by
 unfold isMf
 rw [h,Bool.false_and]
theorem Zqe {D:List Int} (h:¬Zab D 20≤8):isMf D=false:=by
 unfold isMf fits
 rw [decide_eq_false h,Bool.false_and,Bool.and_false,Bool.false_and,Bool.and_false]
theorem Zqf {D:List Int} (h:¬D.length=24+40*cnt D):isMf D=false:=by
 unfold isMf fits
 rw [decide_eq_false h,Bool.and_false,Bool.and_false,Bool.false_and,Bool.and_false]
theorem Zqg {D:List Int} (h:mayM (dec D)=false):isMf D=false:=by
 unfold isMf
 rw [h,Bool.and_false,Bool.and_false]
theorem Zqh {D:List Int} (h0:decide (D.take 4=mani)=true) (h1:24≤D.length) (h2:Zab D 20≤8) (h3:D.length=24+40*cnt D) (h4:mayM (dec D)=true):isMf D=true:=by
 unfold isMf fits
 rw [h0,h4,decide_eq_true h1,decide_eq_true h2,decide_eq_true h3]
 rfl
theorem Zqi {x y:List Int} (hx:IsB x) (hy:IsB y):((strOfNums x).toList==(strOfNums y).toList)=decide (x=y):=by
 rw [Lib.toList_data,Lib.toList_data]
 by_cases e:x=y
 ·subst e;simp
 ·rw [decide_eq_false e,beq_eq_false_iff_ne]
  exact fun h=>e (Zns hx hy (WideShapes.bytes_inj h))
theorem Zqj {x:List Int} (hx:IsB x):((strOfNums x).toList== [109,97,110,105])=decide (x=mani):=by
 have h:=Zqi hx (y:=mani) (by unfold mani IsB;decide)
 have e:(strOfNums mani).toList=[109,97,110,105]:=by rw [Lib.toList_data];rfl
 rw [e] at h
 exact h
theorem Zqk (x y z u:Int):Tryz.prog.built 25 [(0, .int .i64 x),(1, .int .i64 y),(2, .int .i64 z),(3, .int .i64 u)]=some #[.int .i64 x, .int .i64 y, .int .i64 z, .int .i64 u, .slice none 0 0]:=by kernel_rfl
theorem Tryz.szMf:(Tryz.prog.info? 25).map (·.size)=some 5:=by kernel_rfl
theorem Zql (x y z u:Int):(#[.int .i64 x, .int .i64 y, .int .i64 z, .int .i64 u, .slice none 0 0]:Array Value).all (·.oneCell')=true:=
 all_oneCell_toArray (cs:=[.int .i64 x, .int .i64 y, .int .i64 z, .int .i64 u, .slice none 0 0]) (by
  intro v hv
  simp only [List.mem_cons,List.not_mem_nil,or_false] at hv
  rcases hv with rfl|rfl|rfl|rfl|rfl<;>rfl)
theorem Zce (x y z u:Int) (a:Option Addr) (n c:Nat):(#[.int .i64 x, .int .i64 y, .int .i64 z, .int .i64 u, .slice a n c]:Array Value).all (·.oneCell')=true:=
 all_oneCell_toArray (cs:=[.int .i64 x, .int .i64 y, .int .i64 z, .int .i64 u, .slice a n c]) (by
  intro v hv
  simp only [List.mem_cons,List.not_mem_nil,or_false] at hv
  rcases hv with rfl|rfl|rfl|rfl|rfl<;>rfl)
theorem Zqm (w:World):(zeroValue 25).run Tryz.prog w= .ok (.agg #[.int .i64 0, .int .i64 0, .int .i64 0, .int .i64 0, .slice none 0 0]) w:=by kernel_rfl
theorem Zgm:∃i,Tryz.prog.info? 66=some i∧i.zero=some (.agg (sA sg0))∧i.size=34∧i.bytes=48:=by
 have h:(Tryz.prog.info? 66).map (fun i=>(i.zero,i.size,i.bytes))=some (some (.agg (sA sg0)),34,48):=by kernel_rfl
 obtain ⟨i,hi,he⟩:=Option.map_eq_some_iff.1 h
 simp only [Prod.mk.injEq] at he
 exact ⟨i,hi,he.1,he.2.1,he.2.2⟩
theorem ZkO {s:Sg} (h:s.Ok) (w:World):(Instr.buildSlice 23 1 [(0, .agg (sA s))].toArray).run Tryz.prog w= .ok (.slice (some ⟨w.heap.size,0,none⟩) 1 1) (w.alloc (.cells (sA s) 66)):=by
 obtain ⟨i,hi,hz,hs,_⟩:=Zgm
 obtain ⟨r,hr,hsz,hk⟩:=Great.fill_dense (s:=34) (by decide) [.agg (sA s)] 0 ((Array.range (1*34)).map ((Value.agg (sA sg0)).cells[· %(Value.agg (sA sg0)).cells.size]!)) (by
  intro v hv
  rw [List.mem_singleton.1 hv]
  exact Zba h) (by simp)
 have e:r=sA s:=by
  apply Array.ext_getElem?
  intro k
  rw [hk k]
  have e34:(sA s).size=34:=Zba h
  by_cases hk34:k<34
  ·rw [if_pos (by simp;omega),show k/34 - 0=0 by omega,Nat.mod_eq_of_lt hk34]
   rfl
  ·rw [if_neg (by simp;omega),Array.getElem?_eq_none (by simp;omega),Array.getElem?_eq_none (by omega)]
 rw [e] at hr
 refine run_buildSlice w _ _ 1 _ (sA s) i (.agg (sA sg0)) Tryz.underlying23 hi hz (by rw [hs];decide) (by rw [hs];decide) ?_
 rw [hs]
 exact hr
theorem Zh3 {P:Program} {o:Oper} {a:Act} {w:World} {K:Act→World→Prop} {Q:Exit→Act→World→Prop} (d:Tmp) (t:TypeId) (n:Nat) (ps:List (Nat×Operand)) (hd:o.dst=some d) (ho:o.op= .buildSlice t n ps.toArray) (T:TypeId) (X:Array Value)
  (hb:∀w,(Instr.buildSlice t n (ps.map fun p=>(p.1,a.eval p.2)).toArray).run P w= .ok (.slice (some ⟨w.heap.size,0,none⟩) n n) (w.alloc (.cells X T)))
  (h:K (a.put (some d) (.slice (some ⟨w.heap.size,0,none⟩) n n)) (w.alloc (.cells X T))):o.wp P a w K Q:=by
 have hm:(ps.toArray.map fun (p:Nat×Operand)=>match p with|(i,x)=>(i,a.eval x))=(ps.map fun p=>(p.1,a.eval p.2)).toArray:=by
  rw [List.map_toArray]
 unfold Oper.wp execOp
 simp only [ho,hm,hb,Sem.run_bind,Sem.run_pure,Result.andThen_ok]
 rw [←hd] at h
 exact h
structure MI (w:World) (g:Nat) (D:List Int) (n:Nat) (x y z u:Int) (g2 g3:Nat) (i:Nat) (wr:World):Prop where
 gr:w.grownBy wr (some g)
 len:24+40*i≤n
 rd:∃a c,RAt wr g a (n - (24+40*i)) c (D.drop (24+40*i))
 b2:wr.heap[g2]? =some (.cells #[.int .i64 0, .int .i64 0, .int .i64 0, .int .i64 0, .slice none 0 0] 25 (0,0))
 b3:∃sv,wr.heap[g3]? =some (.cells #[.int .i64 x, .int .i64 y, .int .i64 z, .int .i64 u,sv] 25 (0,0))∧wr.ownsRow (g3+1) 66 34 sv i (sCs (ZaN D i))
structure MJ (w:World) (g:Nat) (D:List Int) (n:Nat) (x y z u:Int) (g2 g3:Nat) (i:Nat) (sv:Value) (gq:Nat) (wr:World):Prop where
 gr:w.grownBy wr (some g)
 rd:∃a c,RAt wr g a (n - (24+40*(i+1))) c (D.drop (24+40*(i+1)))
 b2:wr.heap[g2]? =some (.cells #[.int .i64 0, .int .i64 0, .int .i64 0, .int .i64 0, .slice none 0 0] 25 (0,0))
 b3:wr.heap[g3]? =some (.cells #[.int .i64 x, .int .i64 y, .int .i64 z, .int .i64 u,sv] 25 (0,0))
 own:wr.ownsRow (g3+1) 66 34 sv i (sCs (ZaN D i))
 nw:wr.heap[gq]? =some (.cells (sA (sgAt D (24+40*i))) 66 (0,0))
theorem ZkP (D:List Int) (i:Nat):sCs (ZaN D (i+1))=sCs (ZaN D i)++sC (sgAt D (24+40*i)):=by
 rw [Zox]
 simp [sCs]
theorem MJ.made {w wr w7:World} {g n g2 g3 i:Nat} {D:List Int} {x y z u:Int} {sv:Value} {a':Option Addr} {c':Nat} (hgr:w.grownBy wr (some g)) (hb2:wr.heap[g2]? =some (.cells #[.int .i64 0, .int .i64 0, .int .i64 0, .int .i64 0, .slice none 0 0] 25 (0,0)))
  (hb3:wr.heap[g3]? =some (.cells #[.int .i64 x, .int .i64 y, .int .i64 z, .int .i64 u,sv] 25 (0,0))) (own:wr.ownsRow (g3+1) 66 34 sv i (sCs (ZaN D i))) (h2:g2≠g) (h3:g<g3)
  (G:wr.grownBy w7 (some g)) (hr:RAt w7 g a' (n - (24+40*(i+1))) c' (D.drop (24+40*(i+1)))):
  MJ w g D n x y z u g2 g3 i sv w7.heap.size (w7.alloc (.cells (sA (sgAt D (24+40*i))) 66)):=by
 have q:=ZaS w7 (.cells (sA (sgAt D (24+40*i))) 66)
 have hb2':=Zcd G hb2 h2
 have hb3':=Zcd G hb3 (by omega)
 have own':=own.kept G (by
  rcases hv:sv.ownBlock with _|k
  ·exact .inl rfl
  ·right
   intro e
   have:=(own.lt k hv).1
   cases e
   omega)
 exact ⟨ZcG (ZbM hgr G) (q.mono (Nat.le_trans hgr.size G.size)),⟨a',c',hr.below q (Nat.le_refl _)⟩,by rw [q.block _ (Zat hb2')];exact hb2',by rw [q.block _ (Zat hb3')];exact hb3',own'.alloc _,heap_alloc_last w7 _⟩
theorem MJ.put {w w8 w9:World} {g n g2 g3 i gq:Nat} {D:List Int} {x y z u:Int} {sv sv':Value} (h:MJ w g D n x y z u g2 g3 i sv gq w8) (h2:g<g2) (h23:g2<g3) (h3:w.heap.size≤g3) (hl:24+40*(i+1)≤n)
  (own:w9.ownsRow (g3+1) 66 34 sv' (i+1) (sCs (ZaN D i)++sC (sgAt D (24+40*i)))) (G:w8.grownBy w9 sv.ownBlock):
  MI w g D n x y z u g2 g3 (i+1) (w9.setCell ⟨g3,4,none⟩ sv')∧w9.cell? ⟨g3,4,none⟩=some sv∧w9.frozen? ⟨g3,4,none⟩=false:=by
 have l3:=Zat h.b3
 have q:Below (g3+1) w8 w9:=(Below.refl _ _).grown G (by omega) (fun k hk=>(h.own.lt k hk).1)
 have hb3:w9.heap[g3]? =some (.cells #[.int .i64 x, .int .i64 y, .int .i64 z, .int .i64 u,sv] 25 (0,0)):=by rw [q.block g3 (by omega)];exact h.b3
 have q2:Below g3 w9 (w9.setCell ⟨g3,4,none⟩ sv'):=(Below.refl g3 w9).setCell (show g3≤(⟨g3,4,none⟩:Addr).block from Nat.le_refl _) sv'
 obtain ⟨a,c,rd⟩:=h.rd
 refine ⟨⟨?_,hl,⟨a,c,(rd.above q (by omega)).above q2 (by omega)⟩, ?_,sv', ?_, ?_⟩,Zag hb3 4,ZaJ hb3 4⟩
 ·exact ZcG (ZcG h.gr (q.mono (by omega))) (q2.mono h3)
 ·rw [q2.block g2 h23,q.block g2 (by omega)];exact h.b2
 ·rw [heap_setCell_same w9 g3 4 _ _ _ hb3];rfl
 ·rw [ZkP]
  refine own.kept (row:=some g3) ⟨rfl,rfl,rfl,by simp,fun k _ hk=>Below.heap_setCell w9 _ _ k (fun e=>hk (by rw [e]))⟩ ?_
  rcases hv:sv'.ownBlock with _|k
  ·exact .inl rfl
  ·right
   intro e
   have:=(own.lt k hv).1
   cases e
   omega
set_option maxHeartbeats 3200000 in
theorem Zqn {w:World} {g:Nat} {a:Option Addr} {n c:Nat} {D:List Int} (h:RAt w g a n c D) (hD:IsB D):
  Calls Tryz.prog 93 #[.pointer (some ⟨g,0,none⟩)] w fun e w'=>w.grownBy w' (some g)∧
   ((isMf D=true∧∃sa sc,e= .returned (.agg #[.int .i64 (Zab D 4), .int .i64 (Zab D 8), .int .i64 (Zab D 12), .int .i64 (Zab D 16), .slice sa ((cnt D)) sc])∧SegRow w' sa (cnt D) sc (ZaN D (cnt D))∧∀q,sa=some q→w.heap.size≤q.block)∨(isMf D=false∧e= .panicked ZdZ)):=by
 have hlt:=h.lt
 have HL:Hid (D.length=n):=h.row.hlen
 have V1:=(Vars.start w).new 25 #[.int .i64 0, .int .i64 0, .int .i64 0, .int .i64 0, .slice none 0 0]
 have h1:=h.below V1.bel (Nat.le_refl _)
 have G1:=Zew V1.bel (some g)
 have hg1:=V1.at 0 rfl
 go_enter Tryz.func93,Tryz.ntmps93
 go_wp2_with fail
 have hl1:(w.alloc (.cells #[.int .i64 0, .int .i64 0, .int .i64 0, .int .i64 0, .slice none 0 0] 25)).heap.size=w.heap.size+1:=by simp
 generalize w.alloc (.cells #[.int .i64 0, .int .i64 0, .int .i64 0, .int .i64 0, .slice none 0 0] 25)=w1 at*
 obtain ⟨g2,hg2⟩:∃g2,g2=w.heap.size:=⟨_,rfl⟩
 have HG2:Hid (g2=w.heap.size):=hg2
 clear V1 h
 by_cases hn4:n<4
 ·refine (Zh0 h1 4 hn4 (by decide)).mono ?_
  rintro e w2 ⟨rfl,rfl⟩
  go_wp2_with fail
  exact ⟨rfl,G1, .inr ⟨Zex (by rw [HL.out];omega),rfl⟩⟩
 have hr1:=Zdr h1.row 4 (by omega)
 refine (Zh1 h1 4 (by decide) (by omega)).mono ?_
 rintro e w2 ⟨a2,rfl,hw2,h2⟩
 have G2:w.grownBy w2 (some g):=by rw [hw2];exact ZbM G1 (Zbr _ _ _ _)
 replace hg1:w2.heap[w.heap.size]? =some (.cells #[.int .i64 0, .int .i64 0, .int .i64 0, .int .i64 0, .slice none 0 0] 25 (0,0)):=by rw [hw2];exact Zcd (Zbr _ _ _ _) hg1 (by omega)
 have hr2:=ZcF (j:=0) hr1 (fun q hq=>Nat.ne_of_lt (h1.apart (by omega) q hq)) (.slice a2 (n - 4) (c - 4))
 rw [←hw2] at hr2
 have kc:=ZfS (P:=Tryz.prog) Tryz.underlying28 Tryz.underlying5 Tryz.underlying9 hr2
 clear hw2 hr1 h1 G1 hr2
 go_wp2_with fail
 have hbq:=Zqj (Zcr hD 4)
 cases hq:decide (D.take 4=mani)
 ·rw [hq] at hbq
  rw [hbq]
  have HF:Hid (isMf D=false):=Zqd hq
  clear hq hbq kc
  refine (Zfm g w2).mono ?_
  rintro e w' ⟨rfl,rfl⟩
  go_wp2_with fail
  exact ⟨rfl,G2, .inr ⟨HF.out,rfl⟩⟩
 rw [hq] at hbq
 rw [hbq]
 have HQ:Hid (decide (D.take 4=mani)=true):=hq
 clear hq hbq kc
 refine (Zfl g w2).mono ?_
 rintro e w' ⟨rfl,rfl⟩
 go_wp2_with fail
 by_cases hn8:n<8
 ·refine (Zd0 h2 (by omega)).mono ?_
  rintro e w' ⟨rfl,rfl⟩
  go_wp2_with fail
  exact ⟨rfl,G2, .inr ⟨Zex (by rw [HL.out];omega),rfl⟩⟩
 refine (Zc9 h2 (Zck hD _) (by omega)).mono ?_
 rintro e w3 ⟨a3,rfl,hw,h3⟩
 rw [Zdp,Nat.add_zero]
 rw [List.drop_drop,Nat.sub_sub,Nat.sub_sub] at h3
 have G3:w.grownBy w3 (some g):=by rw [hw];exact ZbM G2 (Zbr _ _ _ _)
 replace hg1:w3.heap[w.heap.size]? =some (.cells #[.int .i64 0, .int .i64 0, .int .i64 0, .int .i64 0, .slice none 0 0] 25 (0,0)):=by rw [hw];exact Zcd (Zbr _ _ _ _) hg1 (by omega)
 clear hw h2 G2 hn4
 go_wp2_with fail
 by_cases hn12:n<12
 ·refine (Zd0 h3 (by omega)).mono ?_
  rintro e w' ⟨rfl,rfl⟩
  go_wp2_with fail
  exact ⟨rfl,G3, .inr ⟨Zex (by rw [HL.out];omega),rfl⟩⟩
 refine (Zc9 h3 (Zck hD _) (by omega)).mono ?_
 rintro e w4 ⟨a4,rfl,hw,h4⟩
 rw [Zdp,Nat.add_zero]
 rw [List.drop_drop,Nat.sub_sub,Nat.sub_sub] at h4
 have G4:w.grownBy w4 (some g):=by rw [hw];exact ZbM G3 (Zbr _ _ _ _)
 replace hg1:w4.heap[w.heap.size]? =some (.cells #[.int .i64 0, .int .i64 0, .int .i64 0, .int .i64 0, .slice none 0 0] 25 (0,0)):=by rw [hw];exact Zcd (Zbr _ _ _ _) hg1 (by omega)
 clear hw h3 G3 hn8
 go_wp2_with fail
 by_cases hn16:n<16
 ·refine (Zd0 h4 (by omega)).mono ?_
  rintro e w' ⟨rfl,rfl⟩
  go_wp2_with fail
  exact ⟨rfl,G4, .inr ⟨Zex (by rw [HL.out];omega),rfl⟩⟩
 refine (Zc9 h4 (Zck hD _) (by omega)).mono ?_
 rintro e w5 ⟨a5,rfl,hw,h5⟩
 rw [Zdp,Nat.add_zero]
 rw [List.drop_drop,Nat.sub_sub,Nat.sub_sub] at h5
 have G5:w.grownBy w5 (some g):=by rw [hw];exact ZbM G4 (Zbr _ _ _ _)
 replace hg1:w5.heap[w.heap.size]? =some (.cells #[.int .i64 0, .int .i64 0, .int .i64 0, .int .i64 0, .slice none 0 0] 25 (0,0)):=by rw [hw];exact Zcd (Zbr _ _ _ _) hg1 (by omega)
 clear hw h4 G4 hn12
 go_wp2_with fail
 by_cases hn20:n<20
 ·refine (Zd0 h5 (by omega)).mono ?_
  rintro e w' ⟨rfl,rfl⟩
  go_wp2_with fail
  exact ⟨rfl,G5, .inr ⟨Zex (by rw [HL.out];omega),rfl⟩⟩
 refine (Zc9 h5 (Zck hD _) (by omega)).mono ?_
 rintro e w6 ⟨a6,rfl,hw,h6⟩
 rw [Zdp,Nat.add_zero]
 rw [List.drop_drop,Nat.sub_sub,Nat.sub_sub] at h6
 have G6:w.grownBy w6 (some g):=by rw [hw];exact ZbM G5 (Zbr _ _ _ _)
 replace hg1:w6.heap[w.heap.size]? =some (.cells #[.int .i64 0, .int .i64 0, .int .i64 0, .int .i64 0, .slice none 0 0] 25 (0,0)):=by rw [hw];exact Zcd (Zbr _ _ _ _) hg1 (by omega)
 clear hw h5 G5 hn16
 have HDC:Hid (dec D=⟨Zab D 4,Zab D 8,Zab D 12,Zab D 16,ZaN D (cnt D)⟩):=rfl
 generalize hex:Zab D 4=x at*
 have HEx:Hid (Zab D 4=x):=hex
 clear hex
 generalize hey:Zab D 8=y at*
 have HEy:Hid (Zab D 8=y):=hey
 clear hey
 generalize hez:Zab D 12=z at*
 have HEz:Hid (Zab D 12=z):=hez
 clear hez
 generalize heu:Zab D 16=u at*
 have HEu:Hid (Zab D 16=u):=heu
 clear heu
 have V6:=Vars.start w6
 go_wp2_with (first
  | (refine ZaR 19 25 _ rfl rfl rfl #[.int .i64 x, .int .i64 y, .int .i64 z, .int .i64 u, .slice none 0 0] (Zqk x y z u) ?_)
  | (refine Zai V6 3 25 rfl rfl rfl #[.int .i64 0, .int .i64 0, .int .i64 0, .int .i64 0, .slice none 0 0] Zqm ?_;intro wa g3 V7)
  | (refine Zal V7 0 rfl _ (.tmp 19) rfl rfl rfl #[.int .i64 x, .int .i64 y, .int .i64 z, .int .i64 u, .slice none 0 0] rfl rfl Tryz.szMf rfl rfl (Zql x y z u) ?_;intro wb V8))
 have h8:=h6.below V8.bel (Nat.le_refl _)
 have G8:=ZbM G6 (Zew V8.bel (some g))
 have hb3:=V8.at 0 rfl
 have hlo3:w6.heap.size≤g3:=V8.low _ (List.mem_cons_self ..)
 have l16:=Zat hg1
 replace hg1:wb.heap[w.heap.size]? =some (.cells #[.int .i64 0, .int .i64 0, .int .i64 0, .int .i64 0, .slice none 0 0] 25 (0,0)):=by rw [V8.bel.block _ l16];exact hg1
 clear V6 V7 V8 h6 G6
 by_cases hn24:n<24
 ·refine (Zd0 h8 (by omega)).mono ?_
  rintro e w' ⟨rfl,rfl⟩
  go_wp2_with fail
  exact ⟨rfl,G8, .inr ⟨Zex (by rw [HL.out];omega),rfl⟩⟩
 refine (Zc9 h8 (Zck hD _) (by omega)).mono ?_
 rintro e w7 ⟨a7,rfl,hw,h7⟩
 rw [Zdp,Nat.add_zero]
 rw [List.drop_drop,Nat.sub_sub,Nat.sub_sub] at h7
 have G7:w.grownBy w7 (some g):=by rw [hw];exact ZbM G8 (Zbr _ _ _ _)
 replace hg1:w7.heap[w.heap.size]? =some (.cells #[.int .i64 0, .int .i64 0, .int .i64 0, .int .i64 0, .slice none 0 0] 25 (0,0)):=by rw [hw];exact Zcd (Zbr _ _ _ _) hg1 (by omega)
 replace hb3:w7.heap[g3]? =some (.cells #[.int .i64 x, .int .i64 y, .int .i64 z, .int .i64 u, .slice none 0 0] 25 (0,0)):=by rw [hw];exact Zcd (Zbr _ _ _ _) hb3 (by omega)
 clear hw h8 G8 hn20
 have hcn:Zab D (4+4+4+4+4)=((cnt D:Nat):Int):=(Zj0 hD).symm
 have hfit:¬D.length=24+40*cnt D→isMf D=false:=Zqf
 have hsok:=fun k=>Zel hD (k:=k)
 have hcnt:¬((cnt D:Nat):Int)≤8→isMf D=false:=fun h=>Zqe (by rw [show Zab D 20=((cnt D:Nat):Int) from hcn];exact h)
 have hyes:((cnt D:Nat):Int)≤8→D.length=24+40*cnt D→mayM (dec D)=true→isMf D=true:=fun h1 h2 h3=>Zqh HQ.out (by rw [HL.out];omega) (by rw [show Zab D 20=((cnt D:Nat):Int) from hcn];exact h1) h2 h3
 have hmay:mayM (dec D)=false→isMf D=false:=Zqg
 rw [hcn]
 clear hcn
 rw [HL.out] at hfit hyes
 rw [HDC.out] at hyes hmay
 have HFIT:Hid _:=hfit
 have HCNT:Hid _:=hcnt
 have HYES:Hid _:=hyes
 have HMAY:Hid _:=hmay
 have HSOK:Hid _:=hsok
 have HII:Hid (MI w g D n x y z u w.heap.size g3 0 w7):=⟨G7,by omega,⟨a7,_,h7⟩,hg1,_,hb3,World.ownsRow_nil _ _ _ _⟩
 clear hfit hcnt hyes hmay hsok h7 hb3 hg1 HDC
 generalize hek:cnt D=k at*
 have HEK:Hid (cnt D=k):=hek
 clear hek
 go_wp2_with fail
 have hwi:=Zgo (k:Int) 0 8 w7
 cases h8:Zbf (k:Int) 0 8
 ·rw [h8] at hwi
  have hF:isMf D=false:=HCNT.out (by have:=ZjS h8;omega)
  have HF:Hid (isMf D=false):=hF
  clear hF h8 HCNT HFIT HYES HMAY
  refine hwi.mono ?_
  rintro e w' ⟨rfl,rfl⟩
  clear hwi
  go_wp2_with fail
  refine (Zfm g _).mono ?_
  rintro e w' ⟨rfl,rfl⟩
  go_wp2_with fail
  exact ⟨rfl,G7, .inr ⟨HF.out,rfl⟩⟩
 rw [h8] at hwi
 have hk8:=(Zcq h8).2
 clear h8 HCNT
 refine hwi.mono ?_
 rintro e w' ⟨rfl,rfl⟩
 clear hwi G7
 go_wp2_with fail
 refine (Zfl g _).mono ?_
 rintro e w' ⟨rfl,rfl⟩
 go_wp2_with fail
 clear hn24
 have HSZ:Hid (w.heap.size<w6.heap.size):=l16
 go_loopw [27] (fun y' wr=>∃i:Nat,i≤k∧y'= .int .i64 (i:Int)∧Hid (MI w g D n x y z u w.heap.size g3 i wr)) (fun y' _=>k - (RowKit.intOf y').toNat)
 case atStart=>exact ⟨0,Nat.zero_le _,rfl,HII⟩
 case round=>
  clear HII
  obtain ⟨i,hi,rfl,HI⟩:=hrel
  obtain ⟨gr,len,⟨a',c',rd⟩,b2,sv,b3,own⟩:=HI.out
  clear HI
  by_cases hlti:i<k
  ·have hlti':(i:Int)<(k:Int):=by omega
   have hF:n<24+40*(i+1)→isMf D=false:=fun h=>HFIT.out (by omega)
   have HF:Hid _:=hF
   clear hF
   have c4:wr.drew.cell? ⟨g3,4,none⟩=some sv:=Zag b3 4
   have rdd:=rd.below ((Below.refl _ _).drew) (Nat.le_refl _)
   have grd:=ZcG gr ((Below.refl _ _).drew)
   have b2d:wr.drew.heap[w.heap.size]? =_:=b2
   have b3d:wr.drew.heap[g3]? =_:=b3
   have ownd:=own.drew
   clear rd gr b2 b3 own
   go_wp2_with fail
   refine Zar (fun _=>True) (by kernel_rfl) ?_
   refine Zaz (rs:=[0,2]) (fuel:=6) (by kernel_rfl) (fun c d v a w h=>by cases d<;>exact h) (by kernel_rfl) trivial (fun K hK=> ?_)
   refine Zad (.pointer (some ⟨g3,4,none⟩)) rfl (by rfl) (fun w' hw'=> ?_) ?_
   ·go_simp
   go_simp
   refine Zah _ rfl (by rfl) rfl ?_
   go_simp
   refine Zac (hK.out _ ?_)
   clear hK K
   generalize wr.drew=wd at*
   by_cases hseg:n<24+40*(i+1)
   ·refine Zeq (i:=1) (j:=3) (fuel:=5) (by kernel_rfl) rfl (by rfl) rfl (by rfl) (fun K hK=> ?_) (fun K hK=> ?_)
    ·go_simp
     refine hK _ _ trivial ?_
     clear hK K
     refine Za3 (i:=3) (fuel:=4) (by kernel_rfl) rfl (by rfl) (fun K hK=> ?_)
     go_simp
     refine (ZkN rdd (Zck hD _) (by omega)).mono ?_
     rintro e w' ⟨rfl,G⟩
     have HG:Hid (w.grownBy w' (some g)):=ZbM grd G
     clear G
     go_wp2_with fail
     exact ⟨rfl,HG.out, .inr ⟨HF.out hseg,rfl⟩⟩
    ·go_simp
     refine (ZkN rdd (Zck hD _) (by omega)).mono ?_
     rintro e w' ⟨rfl,G⟩
     have HG:Hid (w.grownBy w' (some g)):=ZbM grd G
     clear G
     go_wp2_with fail
     exact ⟨rfl,HG.out, .inr ⟨HF.out hseg,rfl⟩⟩
   have hsok:=ZjZ hD (o:=24+40*i) (by rw [HL.out];omega)
   have hsg:=Zqc rdd (Zck hD _) (by omega)
   rw [ZjY,Nat.add_zero,List.drop_drop,show 24+40*i+40=24+40*(i+1) by omega,Nat.sub_sub,show 24+40*i+40=24+40*(i+1) by omega] at hsg
   have hmk:∀w7 a' c',wd.grownBy w7 (some g)→RAt w7 g a' (n - (24+40*(i+1))) c' (D.drop (24+40*(i+1)))→MJ w g D n x y z u w.heap.size g3 i sv w7.heap.size (w7.alloc (.cells (sA (sgAt D (24+40*i))) 66))∧w7.cell? ⟨g3,4,none⟩=some sv∧(w7.alloc (.cells (sA (sgAt D (24+40*i))) 66)).cell? ⟨g3,4,none⟩=some sv:=fun w7 a' c' hg hr=>by
    have hj:=MJ.made grd b2d b3d ownd (by have:=HSZ.out;omega) (by have:=HSZ.out;omega) hg hr
    exact ⟨hj,Zag (Zcd hg b3d (by omega)) 4,Zag hj.b3 4⟩
   have HMK:Hid _:=hmk
   have hms:=fun w=>ZkO hsok w
   have HPUT:Hid (∀gq w8 w9 sv',MJ w g D n x y z u w.heap.size g3 i sv gq w8→w9.ownsRow (g3+1) 66 34 sv' (i+1) (sCs (ZaN D i)++sC (sgAt D (24+40*i)))→w8.grownBy w9 sv.ownBlock→
    MI w g D n x y z u w.heap.size g3 (i+1) (w9.setCell ⟨g3,4,none⟩ sv')∧w9.cell? ⟨g3,4,none⟩=some sv∧w9.frozen? ⟨g3,4,none⟩=false):=
    fun gq w8 w9 sv' hj ho hg=>MJ.put hj (by omega) (by have:=HSZ.out;omega) (by have:=HSZ.out;omega) (by omega) ho hg
   clear hmk grd b2d b3d ownd rdd
   generalize hse:sgAt D (24+40*i)=s at*
   have HSE:Hid (sgAt D (24+40*i)=s):=hse
   clear hse
   apply Zkj (Vg:=fun gq w8=>MJ w g D n x y z u w.heap.size g3 i sv gq w8)
   ·intro HC
    refine Zeq (i:=1) (j:=3) (fuel:=5) (by kernel_rfl) rfl (by rfl) rfl (by rfl) (fun K hK=> ?_) (fun K hK=> ?_)
    ·go_simp
     refine hK _ _ trivial ?_
     clear hK K
     refine Za3 (i:=3) (fuel:=4) (by kernel_rfl) rfl (by rfl) (fun K hK=> ?_)
     go_simp
     refine hsg.mono ?_
     rintro e w7 ⟨a7',rfl,G7,r7⟩
     refine hK _ _ trivial ?_
     clear hK K
     have hj:=HMK.out w7 _ _ G7 r7
     refine Za3 (i:=4) (fuel:=3) (by kernel_rfl) rfl (by rfl) (fun K hK=> ?_)
     refine Zh3 33 23 1 _ rfl rfl 66 (sA s) hms ?_
     refine hK _ _ trivial ?_
     clear hK K
     have hj1:=hj.1
     clear hj G7 r7
     generalize w7.alloc (.cells (sA s) 66)=w8 at*
     generalize w7.heap.size=gq at*
     try go_simp
     exact HC gq w8 hj1
    ·go_simp
     refine hsg.mono ?_
     rintro e w7 ⟨a7',rfl,G7,r7⟩
     refine hK _ _ trivial ?_
     clear hK K
     have hj:=HMK.out w7 _ _ G7 r7
     have c7:=hj.2.1
     have c8:=hj.2.2
     refine Zeq (i:=1) (j:=4) (fuel:=4) (by kernel_rfl) rfl (by rfl) rfl (by rfl) (fun K hK=> ?_) (fun K hK=> ?_)
     ·clear c8
      go_simp
      refine hK _ _ trivial ?_
      clear hK K c7
      refine Za3 (i:=4) (fuel:=3) (by kernel_rfl) rfl (by rfl) (fun K hK=> ?_)
      refine Zh3 33 23 1 _ rfl rfl 66 (sA s) hms ?_
      refine hK _ _ trivial ?_
      clear hK K
      have hj1:=hj.1
      clear hj G7 r7
      generalize w7.alloc (.cells (sA s) 66)=w8 at*
      generalize w7.heap.size=gq at*
      try go_simp
      exact HC gq w8 hj1
     ·clear c7
      refine Zh3 33 23 1 _ rfl rfl 66 (sA s) hms ?_
      refine hK _ _ trivial ?_
      clear hK K
      refine Za3 (i:=1) (fuel:=3) (by kernel_rfl) rfl (by rfl) (fun K hK=> ?_)
      go_simp
      refine hK _ _ trivial ?_
      clear hK K c8
      have hj1:=hj.1
      clear hj G7 r7
      generalize w7.alloc (.cells (sA s) 66)=w8 at*
      generalize w7.heap.size=gq at*
      try go_simp
      exact HC gq w8 hj1
   intro gq w8 hj
   clear hsg HMK hms
   obtain ⟨i1,hi1,hz1,hs1,hb1⟩:=Zgm
   refine Za3 (i:=5) (fuel:=2) (by kernel_rfl) rfl (by rfl) (fun K hK=> ?_)
   refine wp_append_own _ _ _ 23 rfl (g3+1) 66 i1 (.agg (sA sg0)) 34 48 Tryz.underlying23 hi1 hz1 hs1 hb1 (Zba Zb7) (by decide) sv i (sCs (ZaN D i)) rfl hj.own ⟨gq,0,none⟩ 1 1 (sC s) rfl (by rw [ZbK hsok]) (fun j u hu=>by have h9:=hj.nw;rw [HSE.out] at h9;rw [Zbc];exact Zh2 h9 j u hu) (Zf7 s) (by unfold maxLen;omega) (by omega) (by have:=Zat hj.b3;omega) ?_
   intro sv' w9 own9 g9 _
   have hp:=HPUT.out gq w8 w9 sv' hj own9 g9
   refine hK _ _ trivial ?_
   clear hK K hi1 hz1 hs1 hb1
   obtain ⟨sa',sc',rfl⟩:∃sa sc,sv'= .slice sa (i+1) sc:=by
    rcases own9.2 with ⟨_,h0⟩|⟨g',cap',cur',rfl,_⟩
    ·omega
    ·exact ⟨_,_,rfl⟩
   have cp:=hp.2.1
   have fp:=hp.2.2
   have HP:Hid _:=hp.1
   clear hp own9 g9 hj HPUT
   refine Zaz (rs:=[6]) (fuel:=1) (by kernel_rfl) (fun c d v a w h=>by cases d<;>exact h) (by kernel_rfl) trivial (fun K hK=> ?_)
   go_simp
   refine Zad (.pointer (some ⟨g3,4,none⟩)) rfl (by rfl) (fun w' hw'=> ?_) ?_
   ·go_simp
   go_simp
   refine Zac (hK.out _ ?_)
   clear hK K
   refine Za3 (i:=7) (fuel:=0) (by kernel_rfl) rfl (by rfl) (fun K hK=> ?_)
   go_simp
   refine hK _ _ trivial ?_
   clear hK K
   refine wpAnyH_done (by kernel_rfl) ?_ _
   go_wp2_with fail
   go_roundw
   case rel=>exact ⟨i+1,by omega,by go_num,HP⟩
   case measure=>simp [RowKit.intOf];omega
  ·obtain rfl:i=k:=by omega
   clear hi
   have hso:=HSOK.out i (by rw [HL.out];exact len)
   obtain ⟨sa,sc,rfl,hrow⟩:=ZhC (Zf4 D i) hso own
   have d0:wr.cell? ⟨g3,0,none⟩=some (.int .i64 x):=Zag b3 0
   have d1:wr.cell? ⟨g3,1,none⟩=some (.int .i64 y):=Zag b3 1
   have d2:wr.cell? ⟨g3,2,none⟩=some (.int .i64 z):=Zag b3 2
   have d3:wr.cell? ⟨g3,3,none⟩=some (.int .i64 u):=Zag b3 3
   have d4:wr.cell? ⟨g3,4,none⟩=some (.slice sa i sc):=Zag b3 4
   have c0:wr.cell? ⟨g,0,none⟩=some (.slice a' (n - (24+40*i)) c'):=Zag rd.box 0
   have hmb:=ZhZ (v:=x) (s:=y) (k:=z) (e:=u) hrow hso
   clear rd hso HSOK hrow
   by_cases hr0:n=24+40*i
   ·rw [show n - (24+40*i)=0 by omega] at c0
    have HR0:Hid (n=24+40*i):=hr0
    clear hr0
    cases hm:mayM ⟨x,y,z,u,ZaN D i⟩
    ·rw [hm] at hmb
     have HF:Hid (isMf D=false):=HMAY.out hm
     clear hm HYES HMAY HFIT
     go_wp2_with fail
     refine hmb.mono ?_
     rintro e w' ⟨rfl,q⟩
     have HG:Hid (w.grownBy w' (some g)):=ZcG gr (q.mono gr.size)
     clear q gr hmb d0 d1 d2 d3 d4 c0 b2 b3 own
     go_wp2_with fail
     refine (Zfm g _).mono ?_
     rintro e w'' ⟨rfl,rfl⟩
     go_wp2_with fail
     exact ⟨rfl,HG.out, .inr ⟨HF.out,rfl⟩⟩
    ·rw [hm] at hmb
     have HT:Hid (isMf D=true):=HYES.out hk8 HR0.out hm
     clear hm HYES HMAY HFIT
     go_wp2_with fail
     refine hmb.mono ?_
     rintro e w' ⟨rfl,q⟩
     have HG:Hid (w.grownBy w' (some g)):=ZcG gr (q.mono gr.size)
     have b2':w'.heap[w.heap.size]? =some (.cells #[.int .i64 0, .int .i64 0, .int .i64 0, .int .i64 0, .slice none 0 0] 25 (0,0)):=by rw [q.block _ (Zat b2)];exact b2
     have b3':w'.heap[g3]? =some (.cells #[.int .i64 x, .int .i64 y, .int .i64 z, .int .i64 u, .slice sa i sc] 25 (0,0)):=by rw [q.block _ (Zat b3)];exact b3
     have own':w'.ownsRow (g3+1) 66 34 (.slice sa i sc) i (sCs (ZaN D i)):=Zcs own q
     clear q gr hmb d0 d1 d2 d3 d4 c0 b2 b3 own
     go_wp2_with fail
     refine (Zfl g _).mono ?_
     rintro e w'' ⟨rfl,rfl⟩
     have d0:w'.cell? ⟨g3,0,none⟩=some (.int .i64 x):=Zag b3' 0
     have d1:w'.cell? ⟨g3,1,none⟩=some (.int .i64 y):=Zag b3' 1
     have d2:w'.cell? ⟨g3,2,none⟩=some (.int .i64 z):=Zag b3' 2
     have d3:w'.cell? ⟨g3,3,none⟩=some (.int .i64 u):=Zag b3' 3
     have d4:w'.cell? ⟨g3,4,none⟩=some (.slice sa i sc):=Zag b3' 4
     go_wp2_with (refine ZcH b2' _ (.tmp 49) rfl rfl rfl #[.int .i64 x, .int .i64 y, .int .i64 z, .int .i64 u, .slice sa i sc] rfl rfl Tryz.szMf rfl rfl (Zce x y z u sa i sc) ?_)
     have q8:Below w.heap.size w' (w'.setRow w.heap.size #[.int .i64 x, .int .i64 y, .int .i64 z, .int .i64 u, .slice sa i sc]):=below_setRow (Below.refl _ _) (Nat.le_refl _) _
     have hg8:=setRow_heap w' w.heap.size _ #[.int .i64 x, .int .i64 y, .int .i64 z, .int .i64 u, .slice sa i sc] _ _ b2'
     have own8:(w'.setRow w.heap.size #[.int .i64 x, .int .i64 y, .int .i64 z, .int .i64 u, .slice sa i sc]).ownsRow (g3+1) 66 34 (.slice sa i sc) i (sCs (ZaN D i)):=by
      refine own'.kept (row:=some w.heap.size) ⟨q8.os,q8.tape,q8.output,q8.size,fun k _ hk=>setRow_other w' w.heap.size k _ (fun e=>hk (by rw [e]))⟩ ?_
      rcases hv:(Value.slice sa i sc).ownBlock with _|k
      ·exact .inl rfl
      ·right
       intro e
       have h1:=(own'.lt k hv).1
       have h2:=HSZ.out
       cases e
       omega
     obtain ⟨sa8,sc8,e8,row8⟩:=ZhC (Zf4 D i) (Zel hD (by rw [HL.out];exact len)) own8
     cases e8
     refine bodyPost_ret (results_cell_row rfl _ _ w.heap.size _ #[.int .i64 x, .int .i64 y, .int .i64 z, .int .i64 u, .slice sa i sc] (0,0) _ rfl hg8 Tryz.underlying25 rfl Tryz.szMf) rfl ?_
     refine ⟨ZcG HG.out q8, .inl ⟨HT.out,sa,sc, ?_, ?_,fun q hq=> ?_⟩⟩
     ·rw [HEx.out,HEy.out,HEz.out,HEu.out,HEK.out]
     ·rw [HEK.out]
      exact row8
     ·have h1:=(own'.lt q.block (by rw [hq];rfl)).1
      have h2:=HSZ.out
      omega
   ·have hr1:¬((n - (24+40*i):Nat):Int)=0:=by omega
    have HF:Hid (isMf D=false):=HFIT.out hr0
    clear hmb HYES HMAY HFIT hr0
    generalize n - (24+40*i)=r at*
    go_wp2_with fail
    refine (Zfm g _).mono ?_
    rintro e w'' ⟨rfl,rfl⟩
    go_wp2_with fail
    exact ⟨rfl,gr, .inr ⟨HF.out,rfl⟩⟩
end Go.Proofs.YtcaloldcihpkfaaGreatDoor.N

/-
 The code of layer 20 (manifest), as it landed: Parse.
-/
namespace Go.Proofs.YtcaloldcihpkfaaGreatDoor.N
open Go.RowKit
set_option linter.unusedVariables false
set_option maxRecDepth 8192

theorem Zqo (w:World):Sem.run Tryz.prog (Instr.typeAssert (.iface 29 (.int .i64 4)) 20 29 true) w= .ok (.tuple #[.int .i64 4, .bool true]) w:=by kernel_rfl
theorem Zqp (w:World):Sem.run Tryz.prog (Instr.typeAssert .nilIface 20 29 true) w= .ok (.tuple #[.int .i64 0, .bool false]) w:=by kernel_rfl
theorem Zqq (g:Nat) (v:Value) (w:World) (hc:w.cell? ⟨g,0,none⟩=some v) (hz:w.frozen? ⟨g,0,none⟩=false):
  CallsD Tryz.prog 92 #[.pointer (some ⟨g,0,none⟩)] (.panicking ZdZ) w fun e u' w'=>
   e= .returned (.tuple #[])∧u'= .panicking [{ v:= .iface 29 (.int .i64 4),recovered:=true }]∧w'=w.setCell ⟨g,0,none⟩ (.int .i64 4):=by
 refine callsD_of_wpS Tryz.func92 rfl fun c₀ cs hu=> ?_
 unfold ZdZ at hu
 apply wpS_seq
 apply wpS_region
 simp [wpOpsS,go_sem,recoverD,hu,Tryz.ntmps92,Exit.thenS,Zqo]
 apply wpS_seq
 apply wpS_region
 simp [wpOpsS,go_sem,Exit.thenS]
 refine wpS_cond (t:=true) (by simp [Act.eval,Array.replicate]) ?_
 simp only [if_true]
 apply wpS_region
 simp [wpOpsS,go_sem,hc,hz,bodyPostS,results,Tryz.results92,Array.replicate]
theorem Zqr (g:Nat) (w:World):
  CallsD Tryz.prog 92 #[.pointer (some ⟨g,0,none⟩)] .returning w fun e u' w'=>e= .returned (.tuple #[])∧u'= .returning∧w'=w:=by
 refine callsD_of_wpS Tryz.func92 rfl fun c₀ cs hu=> ?_
 apply wpS_seq
 apply wpS_region
 simp [wpOpsS,go_sem,recoverD,hu,Tryz.ntmps92,Exit.thenS,Zqp]
 apply wpS_seq
 apply wpS_region
 simp [wpOpsS,go_sem,Exit.thenS]
 refine wpS_cond (t:=false) (by simp [Act.eval,Array.replicate]) ?_
 simp only [Bool.false_eq_true,if_false]
 refine wpS_of_wp (wp_skip ?_)
 cases c₀
 simp_all [bodyPostS,results,Tryz.results92]
set_option maxHeartbeats 1600000 in
theorem Zqs {w:World} {a:Option Addr} {n c:Nat} {D:List Int} (hr:Row .u8 w a n c D) (hD:IsB D):
  Calls Tryz.prog 46 #[.slice a n c] w fun e w'=>Below w.heap.size w w'∧
   ((isMf D=true∧∃sa sc,e= .returned (.tuple #[.agg #[.int .i64 (Zab D 4), .int .i64 (Zab D 8), .int .i64 (Zab D 12), .int .i64 (Zab D 16), .slice sa ((cnt D)) sc], .int .i64 0])∧SegRow w' sa (cnt D) sc (ZaN D (cnt D)))∨
    (isMf D=false∧e= .returned (.tuple #[.agg #[.int .i64 0, .int .i64 0, .int .i64 0, .int .i64 0, .slice none 0 0], .int .i64 4]))):=by
 have hmf:∀(fn:Fn) (first cap:Array Value) (w:World),(Instr.makeFunc fn first cap).run Tryz.prog w= .ok (.func fn first cap) w:=fun _ _ _ _=>rfl
 go_enter_defers Tryz.func46,Tryz.ntmps46
 go_wp2_with fail
 have V3:=(((Vars.start w).new 25 #[.int .i64 0, .int .i64 0, .int .i64 0, .int .i64 0, .slice none 0 0]).new 29 #[.int .i64 0]).new 128 #[.slice a n c]
 simp only [World.size_alloc] at V3
 generalize ((w.alloc (.cells #[.int .i64 0, .int .i64 0, .int .i64 0, .int .i64 0, .slice none 0 0] 25)).alloc (.cells #[.int .i64 0] 29)).alloc (.cells #[.slice a n c] 128)=w3 at*
 have hs3:=Zat (V3.at 0 rfl)
 have hR:RAt w3 (w.heap.size+1+1) a n c D:=⟨V3.at 0 rfl,hr.below V3.bel (Nat.le_refl _),fun h0 q hq=>by
  obtain ⟨b,off,he,hb,_⟩:=hr.hcell h0
  rw [he] at hq
  cases hq
  show b<_
  omega⟩
 refine (Zqn hR hD).mono ?_
 rintro e w4 ⟨G,hcase⟩
 have Q:Below (w.heap.size+1+1) w3 w4:=Zqa G (by omega) (Nat.le_refl _)
 have hm4:w4.heap[w.heap.size]? =some (.cells #[.int .i64 0, .int .i64 0, .int .i64 0, .int .i64 0, .slice none 0 0] 25 (0,0)):=by rw [Q.block _ (by omega)];exact V3.at 2 rfl
 have he4:w4.heap[w.heap.size+1]? =some (.cells #[.int .i64 0] 29 (0,0)):=by rw [Q.block _ (by omega)];exact V3.at 1 rfl
 have Q4:Below w.heap.size w w4:=V3.bel.trans (Q.mono (by omega))
 clear V3 hR Q G
 rcases hcase with ⟨ht,sa,sc,rfl,row,hnw⟩|⟨hf,rfl⟩
 ·have q5:Below w.heap.size w4 (w4.setRow w.heap.size #[.int .i64 (Zab D 4), .int .i64 (Zab D 8), .int .i64 (Zab D 12), .int .i64 (Zab D 16), .slice sa ((cnt D)) sc]):=below_setRow (Below.refl _ _) (Nat.le_refl _) _
  have hm5:=setRow_heap w4 w.heap.size _ #[.int .i64 (Zab D 4), .int .i64 (Zab D 8), .int .i64 (Zab D 12), .int .i64 (Zab D 16), .slice sa ((cnt D)) sc] _ _ hm4
  have ho5:∀k,k≠w.heap.size→(w4.setRow w.heap.size #[.int .i64 (Zab D 4), .int .i64 (Zab D 8), .int .i64 (Zab D 12), .int .i64 (Zab D 16), .slice sa ((cnt D)) sc]).heap[k]? =w4.heap[k]? :=fun k hk=>setRow_other w4 w.heap.size k _ hk
  have hz5:(w4.setRow w.heap.size #[.int .i64 (Zab D 4), .int .i64 (Zab D 8), .int .i64 (Zab D 12), .int .i64 (Zab D 16), .slice sa ((cnt D)) sc]).heap.size=w4.heap.size:=by simp [World.setRow]
  have he5:(w4.setRow w.heap.size #[.int .i64 (Zab D 4), .int .i64 (Zab D 8), .int .i64 (Zab D 12), .int .i64 (Zab D 16), .slice sa ((cnt D)) sc]).heap[w.heap.size+1]? =some (.cells #[.int .i64 0] 29 (0,0)):=by rw [ho5 _ (by omega)];exact he4
  have c5:=Zag he5 0
  have f5:=ZaJ he5 0
  go_wp2_with (refine ZcH hm4 _ (.tmp 8) rfl rfl rfl #[.int .i64 (Zab D 4), .int .i64 (Zab D 8), .int .i64 (Zab D 12), .int .i64 (Zab D 16), .slice sa ((cnt D)) sc] rfl rfl Tryz.szMf rfl rfl (Zce _ _ _ _ _ _ _) ?_)
  clear c5 f5 hm4 he4
  have Q5:=Q4.trans q5
  clear q5
  generalize w4.setRow w.heap.size #[.int .i64 (Zab D 4), .int .i64 (Zab D 8), .int .i64 (Zab D 12), .int .i64 (Zab D 16), .slice sa ((cnt D)) sc]=w5 at*
  have q6:Below w.heap.size w5 (w5.setCell ⟨w.heap.size+1,0,none⟩ (.int .i64 0)):=(Below.refl w.heap.size w5).setCell (show w.heap.size≤(⟨w.heap.size+1,0,none⟩:Addr).block from Nat.le_succ _) _
  have he6:(w5.setCell ⟨w.heap.size+1,0,none⟩ (.int .i64 0)).heap[w.heap.size+1]? =some (.cells #[.int .i64 0] 29 (0,0)):=heap_setCell_same w5 (w.heap.size+1) 0 #[.int .i64 0] _ (.int .i64 0) he5
  have ho6:∀k,k≠w.heap.size+1→(w5.setCell ⟨w.heap.size+1,0,none⟩ (.int .i64 0)).heap[k]? =w5.heap[k]? :=fun k hk=>Below.heap_setCell w5 _ _ k hk
  have hz6:(w5.setCell ⟨w.heap.size+1,0,none⟩ (.int .i64 0)).heap.size=w5.heap.size:=by simp
  generalize w5.setCell ⟨w.heap.size+1,0,none⟩ (.int .i64 0)=w6 at*
  have hm6:=(ho6 w.heap.size (by omega)).trans hm5
  have row6:SegRow w6 sa (cnt D) sc (ZaN D (cnt D)):=row.same (by rw [hz6,hz5];exact Nat.le_refl _) (fun q hq=>by
   have:=hnw q hq
   rw [ho6 _ (by omega),ho5 _ (by omega)])
  have k0:w6.cell? ⟨w.heap.size,0,none⟩=some (.int .i64 (Zab D 4)):=Zag hm6 0
  have k1:w6.cell? ⟨w.heap.size,1,none⟩=some (.int .i64 (Zab D 8)):=Zag hm6 1
  have k2:w6.cell? ⟨w.heap.size,2,none⟩=some (.int .i64 (Zab D 12)):=Zag hm6 2
  have k3:w6.cell? ⟨w.heap.size,3,none⟩=some (.int .i64 (Zab D 16)):=Zag hm6 3
  have k4:w6.cell? ⟨w.heap.size,4,none⟩=some (.slice sa (cnt D) sc):=Zag hm6 4
  have ke:w6.cell? ⟨w.heap.size+1,0,none⟩=some (.int .i64 0):=Zag he6 0
  refine leaves_cons (f:=92) (args:= #[.pointer (some ⟨w.heap.size+1,0,none⟩)]) (by simp) (by simp [go_sem]) ?_
  refine (Zqr (w.heap.size+1) _).mono ?_
  rintro e u' w'' ⟨rfl,rfl,rfl⟩
  refine ⟨.tuple #[.agg #[.int .i64 (Zab D 4), .int .i64 (Zab D 8), .int .i64 (Zab D 12), .int .i64 (Zab D 16), .slice sa ((cnt D)) sc], .int .i64 0], ?_,Q5.trans q6, .inl ⟨ht,sa,sc,rfl,row6⟩⟩
  simp [results,Tryz.results46,go_sem,k0,k1,k2,k3,k4,ke]
 ·go_wp2_with fail
  have q6:Below w.heap.size w4 (w4.setCell ⟨w.heap.size+1,0,none⟩ (.int .i64 4)):=(Below.refl w.heap.size w4).setCell (show w.heap.size≤(⟨w.heap.size+1,0,none⟩:Addr).block from Nat.le_succ _) _
  have he6:(w4.setCell ⟨w.heap.size+1,0,none⟩ (.int .i64 4)).heap[w.heap.size+1]? =some (.cells #[.int .i64 4] 29 (0,0)):=heap_setCell_same w4 (w.heap.size+1) 0 #[.int .i64 0] _ (.int .i64 4) he4
  have hm6:(w4.setCell ⟨w.heap.size+1,0,none⟩ (.int .i64 4)).heap[w.heap.size]? =some (.cells #[.int .i64 0, .int .i64 0, .int .i64 0, .int .i64 0, .slice none 0 0] 25 (0,0)):=by
   rw [Below.heap_setCell w4 _ _ w.heap.size (by show w.heap.size≠w.heap.size+1;omega)]
   exact hm4
  refine leaves_cons (f:=92) (args:= #[.pointer (some ⟨w.heap.size+1,0,none⟩)]) (by simp) (by simp [go_sem]) ?_
  refine (Zqq (w.heap.size+1) _ _ (Zag he4 0) (ZaJ he4 0)).mono ?_
  rintro e u' w'' ⟨rfl,rfl,rfl⟩
  generalize w4.setCell ⟨w.heap.size+1,0,none⟩ (.int .i64 4)=w6 at*
  have k0:w6.cell? ⟨w.heap.size,0,none⟩=some (.int .i64 0):=Zag hm6 0
  have k1:w6.cell? ⟨w.heap.size,1,none⟩=some (.int .i64 0):=Zag hm6 1
  have k2:w6.cell? ⟨w.heap.size,2,none⟩=some (.int .i64 0):=Zag hm6 2
  have k3:w6.cell? ⟨w.heap.size,3,none⟩=some (.int .i64 0):=Zag hm6 3
  have k4:w6.cell? ⟨w.heap.size,4,none⟩=some (.slice none 0 0):=Zag hm6 4
  have ke:w6.cell? ⟨w.heap.size+1,0,none⟩=some (.int .i64 4):=Zag he6 0
  refine ⟨.tuple #[.agg #[.int .i64 0, .int .i64 0, .int .i64 0, .int .i64 0, .slice none 0 0], .int .i64 4], ?_,Q4.trans q6, .inr ⟨hf,rfl⟩⟩
  simp [results,Tryz.results46,go_sem,k0,k1,k2,k3,k4,ke]
end Go.Proofs.YtcaloldcihpkfaaGreatDoor.N

/-
 The code of layer 20 (manifest), as it landed: bytes.Clone, Split.
-/
namespace Go.Proofs.YtcaloldcihpkfaaGreatDoor.N
open Go.RowKit
set_option linter.unusedVariables false
set_option maxRecDepth 8192

theorem Zqt (w:World):(w.alloc (.cells #[] 5)).ownsRow w.heap.size 5 1 (.slice (some ⟨w.heap.size,0,none⟩) 0 0) 0 []:=
 World.ownsRow_lit (base:=w.heap.size) (e:=5) (size:=1) w #[] 0 (Nat.le_refl _) (Nat.zero_le _) rfl
theorem Zqu (w:World):Sem.run Tryz.prog (binOp BinOp.eql 28 (.slice none 0 0) (.slice none 0 0)) w= .ok (.bool true) w:=by kernel_rfl
theorem Zqv (a:Addr) (l c:Nat) (w:World):Sem.run Tryz.prog (binOp BinOp.eql 28 (.slice (some a) l c) (.slice none 0 0)) w= .ok (.bool false) w:=by kernel_rfl
theorem Zh4 {w:World} {a:Option Addr} {n c:Nat} {D:List Int} (hr:Row .u8 w a n c D) (hn:n≤100000):
  Calls Tryz.prog 91 #[.slice a n c] w fun e w'=>∃v,e= .returned v∧w'.ownsRow w.heap.size 5 1 v n (D.map (Value.int .u8))∧Below w.heap.size w w':=by
 obtain ⟨i0,hi0,hz0,hz1,hz2⟩:=info_parts Tryz.info5
 cases a with
 | none=>
  obtain rfl:c=0:=hr.hnil rfl
  obtain rfl:n=0:=by have:=hr.hcap;omega
  have hD:D=[]:=List.eq_nil_of_length_eq_zero hr.hlen
  have hq:=Zqu w
  subst hD
  go_enter Tryz.func91,Tryz.ntmps91
  go_wp2
  go_ret
  exact ⟨_,rfl,World.ownsRow_nil _ _ _ _,Below.refl _ _⟩
 | some ad=>
  have hq:=Zqv ad n c w
  have q1:=ZaS w (.cells #[] 5)
  have hown0:=Zqt w
  have rd:=hr.below q1 (Nat.le_refl _)
  go_enter Tryz.func91,Tryz.ntmps91
  go_wp2_with (at_builtin;refine Zdn _ rfl _ _ 28 rfl w.heap.size 5 i0 (.int .u8 0) 1 Tryz.underlying28 hi0 hz0 hz1 hz2 rfl _ 0 [] rfl hown0 .u8 (some ad) n c _ rfl rd (by unfold maxLen;omega) (by omega) (by simp) ?_;intro v1 wo own1 hg1)
  have q2:Below w.heap.size w wo:=q1.grown hg1 (by simp) (fun k hk=>(hown0.lt k hk).1)
  rw [List.nil_append,Nat.zero_add] at own1
  go_ret
  exact ⟨_,rfl,own1,q2⟩
theorem Zqw {w:World} {a:Option Addr} {n c:Nat} (hn:n<64):
  Calls Tryz.prog 44 #[.slice a n c] w fun e w'=>e= .returned (.tuple #[.slice none 0 0, .slice none 0 0, .int .i64 4])∧w=w':=by
 have hn':(n:Int)<64:=by omega
 go_enter Tryz.func44,Tryz.ntmps44
 go_wp2
 go_ret3
 exact ⟨rfl,rfl⟩
set_option maxHeartbeats 800000 in
theorem Zqx {w:World} {a:Option Addr} {m c:Nat} {D:List Int} (hr:Row .u8 w a (m+64) c D) (hm:m≤10000):
  Calls Tryz.prog 44 #[.slice a (m+64) c] w fun e w'=>∃v1 v2,e= .returned (.tuple #[v1,v2, .int .i64 0])∧w'.ownsRow w.heap.size 5 1 v1 m ((D.take m).map (Value.int .u8))∧w'.ownsRow w.heap.size 5 1 v2 64 ((D.drop m).map (Value.int .u8))∧Below w.heap.size w w':=by
 have hcap:=hr.hcap
 have hmax:=hr.hmax
 unfold maxLen at hmax
 obtain ⟨b,off,rfl,hbs,hcell⟩:=hr.hcell (by omega)
 clear hcell
 have r1:=Zdr hr m (by omega)
 have r2:=Zep hr m (by omega)
 rw [show m+64 - m=64 by omega] at r2
 have hmc:¬c=m:=by omega
 go_enter Tryz.func44,Tryz.ntmps44
 go_wp2_with fail
 refine Zar (fun _=>True) (by kernel_rfl) ?_
 refine Zaz (rs:=[0,1,2,4,5,6]) (fuel:=5) (by kernel_rfl) (fun c d v a w h=>by cases d<;>exact h) (by kernel_rfl) trivial (fun K hK=> ?_)
 refine Zah _ rfl (by rfl) rfl ?_
 go_simp
 refine Zah _ rfl (by rfl) rfl ?_
 go_simp
 refine Zad (.slice (some ⟨b,off,none⟩) m c) rfl (by rfl) (fun w' hw'=> ?_) ?_
 ·go_simp
  intro h
  omega
 go_simp
 refine Zah _ rfl (by rfl) rfl ?_
 go_simp
 refine Zah _ rfl (by rfl) rfl ?_
 go_simp
 refine Zad (.slice (some ⟨b,off+m,none⟩) 64 (c - m)) rfl (by rfl) (fun w' hw'=> ?_) ?_
 ·go_simp
  intro h
  omega
 go_simp
 refine Zac (hK.out _ ?_)
 clear hK K
 replace r1:=r1.below ((Below.refl _ _).drew) (Nat.le_refl _)
 replace r2:=r2.below ((Below.refl _ _).drew) (Nat.le_refl _)
 have q0:Below w.heap.size w w.drew:=(Below.refl _ _).drew
 have hwz:w.drew.heap.size=w.heap.size:=rfl
 generalize w.drew=wd at*
 refine Za3 (i:=3) (fuel:=4) (by kernel_rfl) rfl (by rfl) (fun K hK=> ?_)
 go_simp
 refine (Zh4 r1 (by omega)).mono ?_
 rintro e w1 ⟨v1,rfl,o1,q1⟩
 refine hK _ _ trivial ?_
 clear hK K
 replace r2:=r2.below q1 (Nat.le_refl _)
 refine Za3 (i:=7) (fuel:=3) (by kernel_rfl) rfl (by rfl) (fun K hK=> ?_)
 go_simp
 refine (Zh4 r2 (by omega)).mono ?_
 rintro e w2 ⟨v2,rfl,o2,q2⟩
 refine hK _ _ trivial ?_
 clear hK K
 have o1':=ZdN (Zcs o1 q2) (show w.heap.size≤wd.heap.size by omega)
 have o2':=ZdN o2 (show w.heap.size≤w1.heap.size by have:=q1.size;omega)
 have qq:Below w.heap.size w w2:=Zbp (q0.trans (q1.mono (by omega))) (q2.mono (Nat.le_refl _))
 clear o1 o2 q0 q1 q2 r1 r2 hwz
 refine Zaz (rs:=[8,9,10]) (fuel:=0) (by kernel_rfl) (fun c d v a w h=>by cases d<;>exact h) (by kernel_rfl) trivial (fun K hK=> ?_)
 go_simp
 refine ZaB _ rfl (by rfl) rfl ?_
 go_simp
 refine ZaB _ rfl (by rfl) rfl ?_
 go_simp
 refine ZaB _ rfl (by rfl) rfl ?_
 go_simp
 refine Zac (hK.out _ ?_)
 clear hK K
 refine wpAnyH_done (by kernel_rfl) ?_ _
 go_wp2
 go_ret3
 exact ⟨v1,v2,rfl,o1',o2',qq⟩
end Go.Proofs.YtcaloldcihpkfaaGreatDoor.N
