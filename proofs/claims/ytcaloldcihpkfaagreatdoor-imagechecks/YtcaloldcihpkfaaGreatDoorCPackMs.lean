/-
 The document's answer of layer 20 (casemateref20): Parse.
-/
import Derived.Test.YtcaloldcihpkfaaGreatDoorCPackMc
import Derived.Test.YtcaloldcihpkfaaGreatDoorCPackMr
namespace Go.Proofs.YtcaloldcihpkfaaGreatDoor.N
open Go.RowKit
set_option linter.unusedVariables false
set_option maxRecDepth 8192

theorem ZvW (z:List Int):Zab (z.take 4) 0=Zab z 0:=by simp [Zab]
theorem ZvU:Tryz.prog.built 25 []=some #[.int .i64 0, .int .i64 0, .int .i64 0, .int .i64 0, .slice none 0 0]:=by kernel_rfl
theorem Zwb {fn:Func} {w:World} {p u:Tmp} (h:fn.results= #[.cell p 25, .tmp u]) (tmps:Array Value) {g:Nat} {X:Array Value} (hg:w.heap[g]? =some (.cells X 25 (0,0))) (hp:tmps.getD p undef= .pointer (some ⟨g,0,none⟩)) (hX:X.size=5):
  (results fn tmps).run Tryz.prog w= .ok (.tuple #[.agg X,tmps.getD u undef]) w:=by
 have hl':=run_loadVar_row (P:=Tryz.prog) w g 25 25 X (0,0) _ hg Tryz.underlying25 rfl (by rw [Tryz.szMf,hX])
 rw [results_cell_tmp h,hp]
 simp [asAddr,Result.andThen,hl']
theorem pret {fn:Func} {a:Act} {w':World} {R:Ending→World→Prop} {X:Array Value} {b:Bool} (h:fn.results= #[.cell 2 25, .tmp 3]) {g:Nat} (hg:w'.heap[g]? =some (.cells X 25 (0,0))) (hp:a.tmps.getD 2 undef= .pointer (some ⟨g,0,none⟩)) (hb:a.tmps.getD 3 undef= .bool b) (hX:X.size=5) (hd:a.defers=[])
  (hR:R (.returned (.tuple #[.agg X, .bool b])) w'):bodyPost Tryz.prog fn R .ret a w':=by
 refine bodyPost_ret (Zwb h _ hg hp hX) hd ?_
 rw [hb]
 exact hR
structure PI (w:World) (D:List Int) (x y z u:Int) (i:Nat) (wr:World):Prop where
 bel:Below w.heap.size w wr
 b2:wr.heap[w.heap.size]? =some (.cells #[.int .i64 0, .int .i64 0, .int .i64 0, .int .i64 0, .slice none 0 0] 25 (0,0))
 b4:∃sv,wr.heap[w.heap.size+1]? =some (.cells #[.int .i64 x, .int .i64 y, .int .i64 z, .int .i64 u,sv] 25 (0,0))∧wr.ownsRow (w.heap.size+2) 66 34 sv i (sCs (ZaN D i))
theorem PI.put {w w8 w9:World} {D:List Int} {x y z u:Int} {i:Nat} {sv sv':Value} (bel:Below w.heap.size w w8) (b2:w8.heap[w.heap.size]? =some (.cells #[.int .i64 0, .int .i64 0, .int .i64 0, .int .i64 0, .slice none 0 0] 25 (0,0)))
  (b4:w8.heap[w.heap.size+1]? =some (.cells #[.int .i64 x, .int .i64 y, .int .i64 z, .int .i64 u,sv] 25 (0,0))) (own0:w8.ownsRow (w.heap.size+2) 66 34 sv i (sCs (ZaN D i)))
  (own:w9.ownsRow (w.heap.size+2) 66 34 sv' (i+1) (sCs (ZaN D i)++sC (sgAt D (24+40*i)))) (G:w8.grownBy w9 sv.ownBlock):
  PI w D x y z u (i+1) (w9.setCell ⟨w.heap.size+1,4,none⟩ sv')∧w9.cell? ⟨w.heap.size+1,4,none⟩=some sv∧w9.frozen? ⟨w.heap.size+1,4,none⟩=false:=by
 have l4:=Zat b4
 have q:Below (w.heap.size+2) w8 w9:=(Below.refl _ _).grown G (by omega) (fun k hk=>(own0.lt k hk).1)
 have hb4:w9.heap[w.heap.size+1]? =some (.cells #[.int .i64 x, .int .i64 y, .int .i64 z, .int .i64 u,sv] 25 (0,0)):=by rw [q.block _ (by omega)];exact b4
 have hb2:w9.heap[w.heap.size]? =some (.cells #[.int .i64 0, .int .i64 0, .int .i64 0, .int .i64 0, .slice none 0 0] 25 (0,0)):=by rw [q.block _ (by omega)];exact b2
 have q2:Below w.heap.size w9 (w9.setCell ⟨w.heap.size+1,4,none⟩ sv'):=(Below.refl w.heap.size w9).setCell (show w.heap.size≤(⟨w.heap.size+1,4,none⟩:Addr).block from Nat.le_succ _) sv'
 refine ⟨⟨(bel.trans (q.mono (by omega))).trans q2, ?_,sv', ?_, ?_⟩,Zag hb4 4,ZaJ hb4 4⟩
 ·rw [Below.heap_setCell w9 _ _ w.heap.size (by show w.heap.size≠w.heap.size+1;omega)]
  exact hb2
 ·rw [heap_setCell_same w9 _ 4 _ _ _ hb4]
  rfl
 ·rw [ZkP]
  refine own.kept (row:=some (w.heap.size+1)) ⟨rfl,rfl,rfl,by simp,fun k _ hk=>Below.heap_setCell w9 _ _ k (fun e=>hk (by rw [e]))⟩ ?_
  rcases hv:sv'.ownBlock with _|k
  ·exact .inl rfl
  ·right
   intro e
   have:=(own.lt k hv).1
   cases e
   omega
def mixD (d:List Int) (j:Nat):List Int:=d.take j++List.replicate (32 - j) 0
theorem Zwc {d:List Int} (h:d.length=32):mixD d 32=d:=by unfold mixD;rw [List.take_of_length_le (by omega)];simp
theorem Zwd {d:List Int} (h:d.length=32) (j:Nat) (hj:j<32):(mixD d j).set j (d[j]?.getD 0)=mixD d (j+1):=by
 unfold mixD
 have hl:(d.take j).length=j:=by rw [List.length_take];omega
 rw [List.set_append_right _ _ (by omega),hl,Nat.sub_self,show 32 - j=(32 - (j+1))+1 by omega,List.replicate_succ,List.set_cons_zero,List.take_succ_eq_append_getElem (by omega),List.getElem?_eq_getElem (by omega),List.append_assoc]
 rfl
theorem Zvj (x y:Int) (d:List Int) (j:Nat) (v:Int):(sA ⟨x,y,d⟩).setIfInBounds (2+j) (.int .u8 v)=sA ⟨x,y,d.set j v⟩:=by
 unfold sA sC
 rw [List.setIfInBounds_toArray,show 2+j=j+1+1 by omega,List.set_cons_succ,List.set_cons_succ,List.map_set]
theorem Zwe {P:Program} {ops:Array Oper} {rest:List Oper} {o:Oper} {a:Act} {w:World} {Q:Exit→Act→World→Prop} (d:Tmp) (t:TypeId) (n:Nat) (ps:List (Nat×Operand)) (hgd:o.guard=none) (hd:o.dst=some d) (ho:o.op= .buildSlice t n ps.toArray) (T:TypeId) (X:Array Value)
  (hb:∀w,(Instr.buildSlice t n (ps.map fun p=>(p.1,a.eval p.2)).toArray).run P w= .ok (.slice (some ⟨w.heap.size,0,none⟩) n n) (w.alloc (.cells X T)))
  (h:wpList P ops Q rest (a.put (some d) (.slice (some ⟨w.heap.size,0,none⟩) n n)) (w.alloc (.cells X T))):wpList P ops Q (o::rest) a w:=
 wpList_plain hgd fun K hK=>Zh3 d t n ps hd ho T X hb (hK _ _ h)
set_option maxHeartbeats 3200000 in
theorem Zwf {w:World} {a:Option Addr} {n c:Nat} {D:List Int} (hr:Row .u8 w a n c D) (hD:IsB D) (hn:n≤100000):
  Calls Tryz.prog 23 #[.slice a n c] w fun e w'=>Below w.heap.size w w'∧
   ((isMf D=true∧∃sa sc,e= .returned (.tuple #[.agg #[.int .i64 (Zab D 4), .int .i64 (Zab D 8), .int .i64 (Zab D 12), .int .i64 (Zab D 16), .slice sa ((cnt D)) sc], .bool true])∧SegRow w' sa (cnt D) sc (ZaN D (cnt D)))∨
    (isMf D=false∧e= .returned (.tuple #[.agg #[.int .i64 0, .int .i64 0, .int .i64 0, .int .i64 0, .slice none 0 0], .bool false]))):=by
 have HL:Hid (D.length=n):=hr.hlen
 have mc:=hr.hcap
 have mm:=hr.hmax
 unfold maxLen at mm
 have V2:=((Vars.start w).new 25 #[.int .i64 0, .int .i64 0, .int .i64 0, .int .i64 0, .slice none 0 0]).new 25 #[.int .i64 0, .int .i64 0, .int .i64 0, .int .i64 0, .slice none 0 0]
 simp only [World.size_alloc] at V2
 have c0:=Zag (V2.at 0 rfl) 0
 have c1:=Zag (V2.at 0 rfl) 1
 have c2:=Zag (V2.at 0 rfl) 2
 have c3:=Zag (V2.at 0 rfl) 3
 have c4:=Zag (V2.at 0 rfl) 4
 have hm:=V2.at 1 rfl
 by_cases h24:n<24
 ·have HF:Hid (isMf D=false):=Zex (by rw [HL.out];exact h24)
  have hl:(n:Int)<24:=by omega
  go_enter Tryz.func23,Tryz.ntmps23
  go_wp2_with (refine ZcH hm _ (.tmp 13) rfl rfl rfl #[.int .i64 0, .int .i64 0, .int .i64 0, .int .i64 0, .slice none 0 0] rfl rfl Tryz.szMf rfl rfl (Zql 0 0 0 0) ?_)
  have q2:=V2.bel.trans (below_setRow (Below.refl w.heap.size ((w.alloc (.cells #[.int .i64 0, .int .i64 0, .int .i64 0, .int .i64 0, .slice none 0 0] 25)).alloc (.cells #[.int .i64 0, .int .i64 0, .int .i64 0, .int .i64 0, .slice none 0 0] 25))) (Nat.le_refl _) #[.int .i64 0, .int .i64 0, .int .i64 0, .int .i64 0, .slice none 0 0])
  exact pret rfl (setRow_heap _ w.heap.size _ #[.int .i64 0, .int .i64 0, .int .i64 0, .int .i64 0, .slice none 0 0] _ _ hm) rfl rfl rfl rfl ⟨q2, .inr ⟨HF.out,rfl⟩⟩
 have hl:¬(n:Int)<24:=by omega
 obtain ⟨b,off,rfl,hbs,hcell⟩:=hr.hcell (by omega)
 clear hcell
 have f0:=ZaJ (V2.at 0 rfl) 0
 go_enter Tryz.func23,Tryz.ntmps23
 go_wp2_with fail
 generalize (w.alloc (.cells #[.int .i64 0, .int .i64 0, .int .i64 0, .int .i64 0, .slice none 0 0] 25)).alloc (.cells #[.int .i64 0, .int .i64 0, .int .i64 0, .int .i64 0, .slice none 0 0] 25)=w2 at*
 clear c0 c1 c2 c3 c4 f0
 refine (ZvR (some ⟨b,off+4,none⟩) 4 (c - 4) ((D.drop 4).take 4) w2 (Zdr (Zep (hr.below V2.bel (Nat.le_refl _)) 4 (by omega)) 4 (by omega)) (Zcr (Zck hD _) _) (by decide)).mono ?_
 rintro e w' ⟨rfl,rfl⟩
 rw [ZvT D 4 4 (by decide)]
 have V3:=V2.put 0 rfl 0 (.int .i64 (Zab D 4))
 have ck:=Zag (V2.at 0 rfl) 0
 have fk:=ZaJ (V2.at 0 rfl) 0
 go_wp2_with fail
 generalize w2.setCell ⟨w.heap.size+1,0,none⟩ (.int .i64 (Zab D 4))=w3 at*
 clear ck fk V2
 refine (ZvR (some ⟨b,off+8,none⟩) 4 (c - 8) ((D.drop 8).take 4) w3 (Zdr (Zep (hr.below V3.bel (Nat.le_refl _)) 8 (by omega)) 4 (by omega)) (Zcr (Zck hD _) _) (by decide)).mono ?_
 rintro e w' ⟨rfl,rfl⟩
 rw [ZvT D 8 4 (by decide)]
 have V4:=V3.put 0 rfl 1 (.int .i64 (Zab D 8))
 have ck:=Zag (V3.at 0 rfl) 1
 have fk:=ZaJ (V3.at 0 rfl) 1
 go_wp2_with fail
 generalize w3.setCell ⟨w.heap.size+1,1,none⟩ (.int .i64 (Zab D 8))=w4 at*
 clear ck fk V3
 refine (ZvR (some ⟨b,off+12,none⟩) 4 (c - 12) ((D.drop 12).take 4) w4 (Zdr (Zep (hr.below V4.bel (Nat.le_refl _)) 12 (by omega)) 4 (by omega)) (Zcr (Zck hD _) _) (by decide)).mono ?_
 rintro e w' ⟨rfl,rfl⟩
 rw [ZvT D 12 4 (by decide)]
 have V5:=V4.put 0 rfl 2 (.int .i64 (Zab D 12))
 have ck:=Zag (V4.at 0 rfl) 2
 have fk:=ZaJ (V4.at 0 rfl) 2
 go_wp2_with fail
 generalize w4.setCell ⟨w.heap.size+1,2,none⟩ (.int .i64 (Zab D 12))=w5 at*
 clear ck fk V4
 refine (ZvR (some ⟨b,off+16,none⟩) 4 (c - 16) ((D.drop 16).take 4) w5 (Zdr (Zep (hr.below V5.bel (Nat.le_refl _)) 16 (by omega)) 4 (by omega)) (Zcr (Zck hD _) _) (by decide)).mono ?_
 rintro e w' ⟨rfl,rfl⟩
 rw [ZvT D 16 4 (by decide)]
 have V6:=V5.put 0 rfl 3 (.int .i64 (Zab D 16))
 have ck:=Zag (V5.at 0 rfl) 3
 have fk:=ZaJ (V5.at 0 rfl) 3
 go_wp2_with fail
 generalize w5.setCell ⟨w.heap.size+1,3,none⟩ (.int .i64 (Zab D 16))=w6 at*
 clear ck fk V5
 refine (ZvR (some ⟨b,off+20,none⟩) 4 (c - 20) ((D.drop 20).take 4) w6 (Zdr (Zep (hr.below V6.bel (Nat.le_refl _)) 20 (by omega)) 4 (by omega)) (Zcr (Zck hD _) _) (by decide)).mono ?_
 rintro e w' ⟨rfl,rfl⟩
 rw [ZvT D 20 4 (by decide)]
 have hcn:Zab D 20=((cnt D:Nat):Int):=(Zj0 hD).symm
 have hfit:¬D.length=24+40*cnt D→isMf D=false:=Zqf
 have hcnt:¬((cnt D:Nat):Int)≤8→isMf D=false:=fun h=>Zqe (by rw [hcn];exact h)
 have hhead:((cnt D:Nat):Int)≤8→D.length=24+40*cnt D→mayM (dec D)=true→(Zay (dec D)=D↔isMf D=true):=fun h1 h2 h3=>by
  have hf:fits D=true:=by
   unfold fits
   rw [decide_eq_true (show 24≤D.length by omega),decide_eq_true (show Zab D 20≤8 by omega),decide_eq_true h2]
   rfl
  rw [Zv1 hD hf]
  constructor
  ·intro h4
   unfold isMf
   rw [decide_eq_true h4,hf,h3]
   rfl
  ·exact fun h4=>(Zf6 h4).1
 have hmay:mayM (dec D)=false→isMf D=false:=Zqg
 rw [hcn]
 clear hcn
 rw [HL.out] at hfit hhead
 have hDC:dec D=⟨Zab D 4,Zab D 8,Zab D 12,Zab D 16,ZaN D (cnt D)⟩:=rfl
 rw [hDC] at hhead hmay
 clear hDC
 have HFIT:Hid _:=hfit
 have HCNT:Hid _:=hcnt
 have HHEAD:Hid _:=hhead
 have HMAY:Hid _:=hmay
 clear hfit hcnt hhead hmay
 generalize hex:Zab D 4=x at*
 have HEx:Hid (Zab D 4=x):=hex
 generalize hey:Zab D 8=y at*
 have HEy:Hid (Zab D 8=y):=hey
 generalize hez:Zab D 12=z at*
 have HEz:Hid (Zab D 12=z):=hez
 generalize heu:Zab D 16=u at*
 have HEu:Hid (Zab D 16=u):=heu
 generalize hek:cnt D=k at*
 have HEK:Hid (cnt D=k):=hek
 clear hex hey hez heu hek
 have hm6:=V6.at 1 rfl
 have q7:=V6.bel.trans (below_setRow (Below.refl w.heap.size w6) (Nat.le_refl _) #[.int .i64 0, .int .i64 0, .int .i64 0, .int .i64 0, .slice none 0 0])
 have hm7:=setRow_heap w6 w.heap.size _ #[.int .i64 0, .int .i64 0, .int .i64 0, .int .i64 0, .slice none 0 0] _ _ hm6
 by_cases hk8:(k:Int)≤8
 case neg=>
  have HF:Hid (isMf D=false):=HCNT.out hk8
  have hk9:(8:Int)<(k:Int):=by omega
  clear HCNT HFIT HHEAD HMAY
  go_wp2_with (first
   | (refine ZaR 43 25 _ rfl rfl rfl #[.int .i64 0, .int .i64 0, .int .i64 0, .int .i64 0, .slice none 0 0] ZvU ?_)
   | (refine ZcH hm6 _ (.tmp 43) rfl rfl rfl #[.int .i64 0, .int .i64 0, .int .i64 0, .int .i64 0, .slice none 0 0] rfl rfl Tryz.szMf rfl rfl (Zql 0 0 0 0) ?_))
  exact pret rfl hm7 rfl rfl rfl rfl ⟨q7, .inr ⟨HF.out,rfl⟩⟩
 have hk9:¬(8:Int)<(k:Int):=by omega
 by_cases hfit:n=24+40*k
 case neg=>
  have HF:Hid (isMf D=false):=HFIT.out hfit
  have hne:¬(n:Int)=24+40*(k:Int):=by omega
  clear HCNT HFIT HHEAD HMAY
  go_wp2_with (first
   | (refine ZaR 43 25 _ rfl rfl rfl #[.int .i64 0, .int .i64 0, .int .i64 0, .int .i64 0, .slice none 0 0] ZvU ?_)
   | (refine ZcH hm6 _ (.tmp 43) rfl rfl rfl #[.int .i64 0, .int .i64 0, .int .i64 0, .int .i64 0, .slice none 0 0] rfl rfl Tryz.szMf rfl rfl (Zql 0 0 0 0) ?_))
  all_goals first
   | exact pret rfl hm7 rfl rfl rfl rfl ⟨q7, .inr ⟨HF.out,rfl⟩⟩
   | (have hx:((k:Int)≤8∧((n:Int) != 24+40*(k:Int))=false):=(by assumption);exact absurd (by simpa using hx.2) hne)
 have heq:(n:Int)=24+40*(k:Int):=by omega
 have HFI:Hid (n=24+40*k):=hfit
 have HPI:Hid (PI w D x y z u 0 w6):=⟨V6.bel,hm6,_,V6.at 0 rfl,World.ownsRow_nil _ _ _ _⟩
 clear hm6 hm7 q7 HCNT HFIT V6 hfit
 go_wp2_with fail
 clear heq
 go_loopw [6] (fun y' wr=>∃i:Nat,i≤k∧y'= .int .i64 (i:Int)∧Hid (PI w D x y z u i wr)) (fun y' _=>k - (RowKit.intOf y').toNat)
 case atStart=>exact ⟨0,Nat.zero_le _,rfl,HPI⟩
 case round=>
  clear HPI
  obtain ⟨i,hi,rfl,HI⟩:=hrel
  obtain ⟨bel,b2,sv,b4,own⟩:=HI.out
  clear HI
  by_cases hlti:i<k
  ·have hlti':(i:Int)<(k:Int):=by omega
   have hni:24+40*i+40≤n:=by have:=HFI.out;omega
   go_wp2_with fail
   rw [show 64+40*i - (24+40*i)=40 by omega]
   have hrw:=hr.below bel (Nat.le_refl _)
   have r0:=Zep hrw (24+40*i) (by omega)
   have hcc:40≤c - (24+40*i):=by omega
   have HSG:Hid (sgAt D (24+40*i)=⟨Zab D (24+40*i),Zab D (24+40*i+4),(D.drop (24+40*i+8)).take 32⟩):=rfl
   have HOK:=ZjZ hD (o:=24+40*i) (by rw [HL.out];omega)
   rw [HSG.out] at HOK
   have H1:Hid (∀W,Below wr.heap.size wr W→Calls Tryz.prog 60 #[.slice (some ⟨b,off+(24+40*i),none⟩) 4 (c - (24+40*i))] W fun e w'=>e= .returned (.int .i64 (Zab D (24+40*i)))∧W=w'):=fun W q=>by
    have h:=ZvR _ 4 _ _ W (Zdr (r0.below q (Nat.le_refl _)) 4 (by omega)) (Zcr (Zck hD _) _) (by decide)
    rw [ZvW,Zdp,Nat.add_zero] at h
    exact h
   have H2:Hid (∀W,Below wr.heap.size wr W→Calls Tryz.prog 60 #[.slice (some ⟨b,off+(24+40*i)+4,none⟩) 4 (c - (24+40*i) - 4)] W fun e w'=>e= .returned (.int .i64 (Zab D (24+40*i+4)))∧W=w'):=fun W q=>by
    have h:=ZvR _ 4 _ _ W (Zdr (Zep (r0.below q (Nat.le_refl _)) 4 (by omega)) 4 (by omega)) (Zcr (Zck (Zck hD _) _) _) (by decide)
    rw [ZvW,Zdp,Zdp,Nat.add_zero] at h
    exact h
   generalize Zab D (24+40*i)=X1 at*
   generalize Zab D (24+40*i+4)=X2 at*
   have r8:=Zep r0 8 (by omega)
   rw [List.drop_drop] at r8
   have HR8:Hid (Row .u8 wr (some ⟨b,off+(24+40*i)+8,none⟩) (n - (24+40*i) - 8) (c - (24+40*i) - 8) (D.drop (24+40*i+8))):=r8
   have hlen8:32≤n - (24+40*i) - 8:=by omega
   clear hrw r0 r8
   generalize hX:(D.drop (24+40*i+8))=X at*
   clear hX
   generalize off+(24+40*i)=o2 at*
   generalize hc2:c - (24+40*i)=c2 at*
   have hc2m:c2≤2^63 - 1:=by omega
   have V0:=(Vars.start wr).drew
   refine Zar (fun _=>True) (by kernel_rfl) ?_
   refine Zaz (rs:=[0,1,3,4]) (fuel:=5) (by kernel_rfl) (fun c d v a w h=>by cases d<;>exact h) (by kernel_rfl) trivial (fun K hK=> ?_)
   refine Zah _ rfl (by rfl) rfl ?_
   go_simp
   refine Zad (.slice (some ⟨b,o2,none⟩) 4 c2) rfl (by rfl) (fun w' hw'=> ?_) ?_
   ·go_simp
    try (intro h;omega)
   go_simp
   refine Zah _ rfl (by rfl) rfl ?_
   go_simp
   refine Zad (.slice (some ⟨b,o2+4,none⟩) 4 (c2 - 4)) rfl (by rfl) (fun w' hw'=> ?_) ?_
   ·go_simp
    rw [if_pos (by omega),if_neg (by omega)]
   go_simp
   refine Zac (hK.out _ ?_)
   clear hK K
   generalize wr.drew=wd at*
   apply Zkj (Vg:=fun g8 w'=>Vars wr w' [⟨g8,66,sA sg0⟩])
   ·intro HC
    refine Zeq (i:=2) (j:=7) (fuel:=4) (by kernel_rfl) rfl (by rfl) rfl (by rfl) (fun K hK=> ?_) (fun K hK=> ?_)
    ·go_simp
     refine (H1.out _ V0.bel).mono ?_
     rintro e w' ⟨rfl,rfl⟩
     refine hK _ _ trivial ?_
     clear hK K
     refine Zeq (i:=5) (j:=7) (fuel:=3) (by kernel_rfl) rfl (by rfl) rfl (by rfl) (fun K hK=> ?_) (fun K hK=> ?_)
     ·go_simp
      refine (H2.out _ V0.bel).mono ?_
      rintro e w' ⟨rfl,rfl⟩
      refine hK _ _ trivial ?_
      clear hK K
      refine Zaz (rs:=[6]) (fuel:=2) (by kernel_rfl) (fun c d v a w h=>by cases d<;>exact h) (by kernel_rfl) trivial (fun K hK=> ?_)
      go_simp
      refine Zad (.agg (sA ⟨X1,X2,List.replicate 32 0⟩)) rfl (by rfl) (fun w' hw'=> ?_) ?_
      ·refine ZcT 66 _ rfl (sA ⟨X1,X2,List.replicate 32 0⟩) ?_
       exact ZkM X1 X2
      go_simp
      refine Zac (hK.out _ ?_)
      clear hK K
      refine Za3 (i:=7) (fuel:=1) (by kernel_rfl) rfl (by rfl) (fun K hK=> ?_)
      refine Zke V0 8 66 rfl rfl (sA sg0) ZcD (fun w8 g8 V8=> ?_)
      refine hK _ _ trivial ?_
      clear hK K
      exact HC g8 w8 V8
     ·refine Zke V0 8 66 rfl rfl (sA sg0) ZcD (fun w8 g8 V8=> ?_)
      refine hK _ _ trivial ?_
      clear hK K
      refine Za3 (i:=5) (fuel:=2) (by kernel_rfl) rfl (by rfl) (fun K hK=> ?_)
      go_simp
      refine (H2.out _ V8.bel).mono ?_
      rintro e w' ⟨rfl,rfl⟩
      refine hK _ _ trivial ?_
      clear hK K
      refine Zaz (rs:=[6]) (fuel:=1) (by kernel_rfl) (fun c d v a w h=>by cases d<;>exact h) (by kernel_rfl) trivial (fun K hK=> ?_)
      go_simp
      refine Zad (.agg (sA ⟨X1,X2,List.replicate 32 0⟩)) rfl (by rfl) (fun w' hw'=> ?_) ?_
      ·refine ZcT 66 _ rfl (sA ⟨X1,X2,List.replicate 32 0⟩) ?_
       exact ZkM X1 X2
      go_simp
      refine Zac (hK.out _ ?_)
      clear hK K
      exact HC g8 _ V8
    ·refine Zke V0 8 66 rfl rfl (sA sg0) ZcD (fun w8 g8 V8=> ?_)
     refine hK _ _ trivial ?_
     clear hK K
     refine Za3 (i:=2) (fuel:=3) (by kernel_rfl) rfl (by rfl) (fun K hK=> ?_)
     go_simp
     refine (H1.out _ V8.bel).mono ?_
     rintro e w' ⟨rfl,rfl⟩
     refine hK _ _ trivial ?_
     clear hK K
     refine Za3 (i:=5) (fuel:=2) (by kernel_rfl) rfl (by rfl) (fun K hK=> ?_)
     go_simp
     refine (H2.out _ V8.bel).mono ?_
     rintro e w' ⟨rfl,rfl⟩
     refine hK _ _ trivial ?_
     clear hK K
     refine Zaz (rs:=[6]) (fuel:=1) (by kernel_rfl) (fun c d v a w h=>by cases d<;>exact h) (by kernel_rfl) trivial (fun K hK=> ?_)
     go_simp
     refine Zad (.agg (sA ⟨X1,X2,List.replicate 32 0⟩)) rfl (by rfl) (fun w' hw'=> ?_) ?_
     ·refine ZcT 66 _ rfl (sA ⟨X1,X2,List.replicate 32 0⟩) ?_
      exact ZkM X1 X2
     go_simp
     refine Zac (hK.out _ ?_)
     clear hK K
     exact HC g8 _ V8
   intro g8 w8 V8
   refine Za3 (i:=8) (fuel:=0) (by kernel_rfl) rfl (by rfl) (fun K hK=> ?_)
   refine ZbD V8 0 rfl _ _ rfl rfl (sA ⟨X1,X2,List.replicate 32 0⟩) rfl rfl Tryz.szSg (Zba Zb7) (by rfl) (ZcQ _) (fun w9 V9=> ?_)
   refine hK _ _ trivial ?_
   clear hK K V8 V0 H1 H2
   refine wpAnyH_done (by kernel_rfl) ?_ _
   go_wp2_with fail
   have hd32:(X.take 32).length=32:=by rw [List.length_take,HR8.out.hlen];omega
   have HR9:Hid (Row .u8 wr (some ⟨b,o2+8,none⟩) 32 (c2 - 8) (X.take 32)):=Zdr HR8.out 32 hlen8
   have HV9:Hid (Vars wr w9 [⟨g8,66,sA ⟨X1,X2,mixD (X.take 32) 0⟩⟩]):=V9
   have HDL:Hid ((X.take 32).length=32):=hd32
   clear V9 HR8 hlen8 hd32
   generalize X.take 32=d at*
   obtain ⟨wo,hwo⟩:∃q,q=wr:=⟨_,rfl⟩
   subst hwo
   go_loopw [9] (fun y' ws=>∃j:Nat,j≤32∧y'= .int .i64 (j:Int)∧Hid (Vars wo ws [⟨g8,66,sA ⟨X1,X2,mixD d j⟩⟩])) (fun y' _=>32 - (RowKit.intOf y').toNat)
   case atStart=>exact ⟨0,Nat.zero_le _,rfl,HV9⟩
   case round=>
    clear HV9
    obtain ⟨j,hj,rfl,HV⟩:=hrel
    by_cases hj32:j<32
    ·have hjI:(j:Int)<32:=by omega
     obtain ⟨b',off',he',_,hcx⟩:=(HR9.out.below HV.out.bel (Nat.le_refl _)).hcell (by decide)
     cases he'
     have cx:wr.cell? ⟨b,o2+(8+j),none⟩=some (.int .u8 (d[j]?.getD 0)):=by rw [←Nat.add_assoc];exact hcx j hj32
     have hsz34:(mixD d j).length=32:=by unfold mixD;rw [List.length_append,List.length_take,List.length_replicate,HDL.out];omega
     have cs:(wr.cell? ⟨g8,2+j,none⟩).isSome=true:=by
      rw [Zag (HV.out.at 0 rfl) (2+j)]
      simp [sA,sC,hsz34]
      omega
     obtain ⟨vc,hvc⟩:=Option.isSome_iff_exists.1 cs
     have fs:=ZaJ (HV.out.at 0 rfl) (2+j)
     have HV2:=HV.out.put 0 rfl (2+j) (.int .u8 (d[j]?.getD 0))
     rw [Zvj,Zwd HDL.out j hj32] at HV2
     have HV3:Hid (Vars wo (wr.setCell ⟨g8,2+j,none⟩ (.int .u8 (d[j]?.getD 0))) [⟨g8,66,sA ⟨X1,X2,mixD d (j+1)⟩⟩]):=HV2
     clear hcx cs HV2 HV
     generalize d[j]?.getD 0=xb at*
     go_wp2_with fail
     go_roundw
     case rel=>exact ⟨j+1,by omega,by go_num,HV3⟩
     case measure=>simp [RowKit.intOf];omega
    ·have e32:j=32:=by omega
     have HV4:=HV.out
     rw [e32,Zwc HDL.out] at HV4
     have hj33:¬(j:Int)<32:=by omega
     clear hj hj32 e32 HV
     have hg8:=HV4.at 0 rfl
     have b4':wr.heap[w.heap.size+1]? =some (.cells #[.int .i64 x, .int .i64 y, .int .i64 z, .int .i64 u,sv] 25 (0,0)):=by rw [HV4.bel.block _ (Zat b4)];exact b4
     have b2':wr.heap[w.heap.size]? =some (.cells #[.int .i64 0, .int .i64 0, .int .i64 0, .int .i64 0, .slice none 0 0] 25 (0,0)):=by rw [HV4.bel.block _ (Zat b2)];exact b2
     have own':=Zcs own HV4.bel
     have bel':=Zbp bel HV4.bel
     have d4:wr.cell? ⟨w.heap.size+1,4,none⟩=some sv:=Zag b4' 4
     have HSG2:=HSG.out
     clear HV4 b4 b2 own bel HSG
     generalize hsv:(⟨X1,X2,d⟩:Sg)=s at*
     have hms:=fun w=>ZkO HOK w
     obtain ⟨i1,hi1,hz1,hs1,hb1⟩:=Zgm
     have V10:=ZaS wr (.cells (sA s) 66)
     have nw:=heap_alloc_last wr (.cells (sA s) 66)
     have b4'':(wr.alloc (.cells (sA s) 66)).heap[w.heap.size+1]? =some (.cells #[.int .i64 x, .int .i64 y, .int .i64 z, .int .i64 u,sv] 25 (0,0)):=by rw [V10.block _ (Zat b4')];exact b4'
     have b2'':(wr.alloc (.cells (sA s) 66)).heap[w.heap.size]? =some (.cells #[.int .i64 0, .int .i64 0, .int .i64 0, .int .i64 0, .slice none 0 0] 25 (0,0)):=by rw [V10.block _ (Zat b2')];exact b2'
     have own'':=own'.alloc (.cells (sA s) 66)
     go_wp2_with (first
      | (refine wpList_load_mid rfl 66 _ rfl g8 0 rfl (sC s) _ (Zh2 hg8) Tryz.underlying66 rfl (by rw [ZbK HOK];exact Tryz.szSg) ?_;simp [Act.put])
      | (refine Zwe 79 23 1 _ rfl rfl rfl 66 (sA s) hms ?_;simp [Act.put])
      | (at_builtin;refine wpList_append_own _ rfl _ _ 23 rfl (w.heap.size+2) 66 i1 (.agg (sA sg0)) 34 48 Tryz.underlying23 hi1 hz1 hs1 hb1 (Zba Zb7) (by decide) sv i (sCs (ZaN D i)) rfl own'' ⟨wr.heap.size,0,none⟩ 1 1 (sC s) rfl (by rw [ZbK HOK]) (fun j u hu=>by rw [Zbc];exact Zh2 nw j u hu) (Zf7 s) (by unfold maxLen;omega) (by omega) (by have:=Zat b4'';omega) ?_))
     intro sv' w11 own11 g11 _
     obtain ⟨sa',sc',rfl⟩:∃sa sc,sv'= .slice sa (i+1) sc:=by
      rcases own11.2 with ⟨_,h0⟩|⟨g',cap',cur',rfl,_⟩
      ·omega
      ·exact ⟨_,_,rfl⟩
     have hp:=PI.put (Zbp bel' V10) b2'' b4'' own'' (by rw [HSG2];exact own11) g11
     have cp:=hp.2.1
     have fp:=hp.2.2
     have HP:Hid _:=hp.1
     clear hp own11 g11 own'' b2'' b4'' nw V10 bel' own' b2' b4' hms hi1 hz1 hs1 hb1 d4 hg8
     go_wp2_with fail
     go_roundw
     case rel=>exact ⟨i+1,by omega,by go_num,HP⟩
     case measure=>simp [RowKit.intOf];omega
  ·obtain rfl:i=k:=by omega
   have hso:=Zel hD (k:=i) (by rw [HL.out,HFI.out];omega)
   obtain ⟨sa,sc,rfl,hrow⟩:=ZhC (Zf4 D i) hso own
   have hmay:=Zvh (v:=x) (s:=y) (k:=z) (e:=u) (hrow.below ((Below.refl _ _).drew) (Nat.le_refl _)) hso
   have HR:Hid (Row .u8 wr (some ⟨b,off,none⟩) n c D):=hr.below bel (Nat.le_refl _)
   have HS:Hid (SegRow wr sa i sc (ZaN D i)):=hrow
   have hcells:∀w',Zao wr w'→w'.heap[w.heap.size+1]? =some (.cells #[.int .i64 x, .int .i64 y, .int .i64 z, .int .i64 u, .slice sa i sc] 25 (0,0)):=fun w' hw=>by rw [hw.block _ (Zat b4)];exact b4
   have HC:Hid _:=hcells
   clear hcells hi hrow
   go_wp2_with fail
   refine Zju (by kernel_rfl) ?_
   refine Zaz (rs:=[0]) (fuel:=10) (by kernel_rfl) (fun c d v a w h=>by cases d<;>exact h) (by kernel_rfl) (Zao.drew _) (fun K hK=> ?_)
   refine Zad (.agg #[.int .i64 x, .int .i64 y, .int .i64 z, .int .i64 u, .slice sa i sc]) rfl (by rfl) (fun w' hw'=> ?_) ?_
   ·have d0:w'.cell? ⟨w.heap.size+1,0,none⟩=some (.int .i64 x):=Zag (HC.out w' hw') 0
    have d1:w'.cell? ⟨w.heap.size+1,1,none⟩=some (.int .i64 y):=Zag (HC.out w' hw') 1
    have d2:w'.cell? ⟨w.heap.size+1,2,none⟩=some (.int .i64 z):=Zag (HC.out w' hw') 2
    have d3:w'.cell? ⟨w.heap.size+1,3,none⟩=some (.int .i64 u):=Zag (HC.out w' hw') 3
    have d4:w'.cell? ⟨w.heap.size+1,4,none⟩=some (.slice sa i sc):=Zag (HC.out w' hw') 4
    go_simp
   go_simp
   refine Zac (hK.out _ ?_)
   clear hK K
   refine Zc1 (i:=1) (fuel:=9) (by kernel_rfl) rfl (by rfl) (fun K hK=> ?_)
   go_simp
   refine hmay.mono ?_
   rintro e w8 ⟨rfl,q8⟩
   refine hK _ _ (Zao.trans (Zao.drew _) q8) ?_
   have Q8:Zao wr w8:=Zao.trans (Zao.drew _) q8
   clear hK K hmay q8
   have b2':w8.heap[w.heap.size]? =some (.cells #[.int .i64 0, .int .i64 0, .int .i64 0, .int .i64 0, .slice none 0 0] 25 (0,0)):=by rw [Q8.block _ (Zat b2)];exact b2
   have own8:=Zcs own Q8
   have bel8:=Zbp bel Q8
   clear b2 own bel b4
   cases hm:mayM ⟨x,y,z,u,ZaN D i⟩
   ·have HF:Hid (isMf D=false):=HMAY.out hm
    clear hm HMAY HHEAD
    refine Zaz (rs:=[2,3,4,5,6,7,8,9,10]) (fuel:=0) (by kernel_rfl) (fun c d v a w h=>by cases d<;>exact h) (by kernel_rfl) (Zao.refl _) (fun K hK=> ?_)
    go_simp
    refine Zad (.bool true) rfl (by rfl) (fun w' hw'=> ?_) ?_
    ·go_simp
    go_simp
    refine Zah _ rfl (by rfl) rfl ?_
    go_simp
    refine Zjs rfl (by rfl) ?_
    go_simp
    refine Zjs rfl (by rfl) ?_
    go_simp
    refine Zjs rfl (by rfl) ?_
    go_simp
    refine Zjs rfl (by rfl) ?_
    go_simp
    refine Zjs rfl (by rfl) ?_
    go_simp
    refine Zjs rfl (by rfl) ?_
    go_simp
    refine Zad (.bool true) rfl (by rfl) (fun w' hw'=> ?_) ?_
    ·go_simp
    go_simp
    refine Zac (hK.out _ ?_)
    clear hK K
    refine wpAnyH_done (by kernel_rfl) ?_ _
    have q9:=bel8.trans (below_setRow (Below.refl w.heap.size w8) (Nat.le_refl _) #[.int .i64 0, .int .i64 0, .int .i64 0, .int .i64 0, .slice none 0 0])
    have hm9:=setRow_heap w8 w.heap.size _ #[.int .i64 0, .int .i64 0, .int .i64 0, .int .i64 0, .slice none 0 0] _ _ b2'
    go_wp2_with (first
     | (refine ZaR 93 25 _ rfl rfl rfl #[.int .i64 0, .int .i64 0, .int .i64 0, .int .i64 0, .slice none 0 0] ZvU ?_;simp [Act.put])
     | (refine ZcH b2' _ (.tmp 93) rfl rfl rfl #[.int .i64 0, .int .i64 0, .int .i64 0, .int .i64 0, .slice none 0 0] rfl rfl Tryz.szMf rfl rfl (Zql 0 0 0 0) ?_))
    exact pret rfl hm9 rfl rfl rfl rfl ⟨q9, .inr ⟨HF.out,rfl⟩⟩
   ·have HT:Hid (Zay ⟨x,y,z,u,ZaN D i⟩=D↔isMf D=true):=HHEAD.out hk8 HFI.out hm
    have HBY:Hid (IsB (Zay ⟨x,y,z,u,ZaN D i⟩)):=ZhA hso
    have hby:=fun w9 (q:Zao w8 w9)=>Zvi (v:=x) (s:=y) (k:=z) (e:=u) ((HS.out.below Q8 (Nat.le_refl _)).below q (Nat.le_refl _)) hso hm
    clear hm HMAY HHEAD
    generalize Zay ⟨x,y,z,u,ZaN D i⟩=E at*
    refine Zaz (rs:=[2,3,4,7,8]) (fuel:=4) (by kernel_rfl) (fun c d v a w h=>by cases d<;>exact h) (by kernel_rfl) (Zao.refl _) (fun K hK=> ?_)
    go_simp
    refine Zad (.bool false) rfl (by rfl) (fun w' hw'=> ?_) ?_
    ·go_simp
    go_simp
    refine Zah _ rfl (by rfl) rfl ?_
    go_simp
    refine Zad (.agg #[.int .i64 x, .int .i64 y, .int .i64 z, .int .i64 u, .slice sa i sc]) rfl (by rfl) (fun w' hw'=> ?_) ?_
    ·have hw2:=Zao.trans Q8 hw'
     have d0:w'.cell? ⟨w.heap.size+1,0,none⟩=some (.int .i64 x):=Zag (HC.out w' hw2) 0
     have d1:w'.cell? ⟨w.heap.size+1,1,none⟩=some (.int .i64 y):=Zag (HC.out w' hw2) 1
     have d2:w'.cell? ⟨w.heap.size+1,2,none⟩=some (.int .i64 z):=Zag (HC.out w' hw2) 2
     have d3:w'.cell? ⟨w.heap.size+1,3,none⟩=some (.int .i64 u):=Zag (HC.out w' hw2) 3
     have d4:w'.cell? ⟨w.heap.size+1,4,none⟩=some (.slice sa i sc):=Zag (HC.out w' hw2) 4
     go_simp
    go_simp
    refine Zah _ rfl (by rfl) rfl ?_
    go_simp
    refine Zad (.string (strOfNums D)) rfl (by rfl) (fun w' hw'=> ?_) ?_
    ·have kc:=ZfS (P:=Tryz.prog) Tryz.underlying28 Tryz.underlying5 Tryz.underlying9 (HR.out.below (Zao.trans Q8 hw') (Nat.le_refl _))
     go_simp
    go_simp
    refine Zac (hK.out _ ?_)
    clear hK K
    refine Zc1 (i:=5) (fuel:=3) (by kernel_rfl) rfl (by rfl) (fun K hK=> ?_)
    go_simp
    refine (hby w8 (Zao.refl _)).mono ?_
    rintro e w9 ⟨v9,rfl,own9,q9⟩
    obtain ⟨a9,c9,rfl,r9⟩:=ZaF own9
    refine hK _ _ q9 ?_
    clear hK K hby own9
    have b2'':w9.heap[w.heap.size]? =some (.cells #[.int .i64 0, .int .i64 0, .int .i64 0, .int .i64 0, .slice none 0 0] 25 (0,0)):=by rw [q9.block _ (Zat b2')];exact b2'
    have own9:=Zcs own8 q9
    have bel9:=Zbp bel8 q9
    have Q9:=Zao.trans Q8 q9
    clear b2' own8 bel8 q9
    have hbq:=Zqi HBY.out hD
    cases hE:decide (E=D)
    ·rw [hE] at hbq
     have HF:Hid (isMf D=false):=by
      cases h9:isMf D
      ·rfl
      ·rw [decide_eq_true (HT.out.2 h9)] at hE;cases hE
     clear hE HT
     refine Zaz (rs:=[6,9,10]) (fuel:=0) (by kernel_rfl) (fun c d v a w h=>by cases d<;>exact h) (by kernel_rfl) (Zao.refl _) (fun K hK=> ?_)
     go_simp
     refine Zad (.string (strOfNums E)) rfl (by rfl) (fun w' hw'=> ?_) ?_
     ·have kc:=ZfS (P:=Tryz.prog) Tryz.underlying28 Tryz.underlying5 Tryz.underlying9 (r9.below hw' (Nat.le_refl _))
      go_simp
     go_simp
     refine Zad (.bool true) rfl (by rfl) (fun w' hw'=> ?_) ?_
     ·go_simp
      try simp [hbq]
     go_simp
     refine Zad (.bool true) rfl (by rfl) (fun w' hw'=> ?_) ?_
     ·go_simp
     go_simp
     refine Zac (hK.out _ ?_)
     clear hK K hbq
     refine wpAnyH_done (by kernel_rfl) ?_ _
     have q9:=bel9.trans (below_setRow (Below.refl w.heap.size w9) (Nat.le_refl _) #[.int .i64 0, .int .i64 0, .int .i64 0, .int .i64 0, .slice none 0 0])
     have hm9:=setRow_heap w9 w.heap.size _ #[.int .i64 0, .int .i64 0, .int .i64 0, .int .i64 0, .slice none 0 0] _ _ b2''
     go_wp2_with (first
      | (refine ZaR 93 25 _ rfl rfl rfl #[.int .i64 0, .int .i64 0, .int .i64 0, .int .i64 0, .slice none 0 0] ZvU ?_;simp [Act.put])
      | (refine ZcH b2'' _ (.tmp 93) rfl rfl rfl #[.int .i64 0, .int .i64 0, .int .i64 0, .int .i64 0, .slice none 0 0] rfl rfl Tryz.szMf rfl rfl (Zql 0 0 0 0) ?_))
     exact pret rfl hm9 rfl rfl rfl rfl ⟨q9, .inr ⟨HF.out,rfl⟩⟩
    ·rw [hE] at hbq
     have HF:Hid (isMf D=true):=HT.out.1 (of_decide_eq_true hE)
     clear hE HT
     refine Zaz (rs:=[6,9,10]) (fuel:=0) (by kernel_rfl) (fun c d v a w h=>by cases d<;>exact h) (by kernel_rfl) (Zao.refl _) (fun K hK=> ?_)
     go_simp
     refine Zad (.string (strOfNums E)) rfl (by rfl) (fun w' hw'=> ?_) ?_
     ·have kc:=ZfS (P:=Tryz.prog) Tryz.underlying28 Tryz.underlying5 Tryz.underlying9 (r9.below hw' (Nat.le_refl _))
      go_simp
     go_simp
     refine Zad (.bool false) rfl (by rfl) (fun w' hw'=> ?_) ?_
     ·go_simp
      try simp [hbq]
     go_simp
     refine Zad (.bool false) rfl (by rfl) (fun w' hw'=> ?_) ?_
     ·go_simp
     go_simp
     refine Zac (hK.out _ ?_)
     clear hK K hbq
     refine wpAnyH_done (by kernel_rfl) ?_ _
     have q9:=bel9.trans (below_setRow (Below.refl w.heap.size w9) (Nat.le_refl _) #[.int .i64 x, .int .i64 y, .int .i64 z, .int .i64 u, .slice sa i sc])
     have hm9:=setRow_heap w9 w.heap.size _ #[.int .i64 x, .int .i64 y, .int .i64 z, .int .i64 u, .slice sa i sc] _ _ b2''
     have d0:w9.cell? ⟨w.heap.size+1,0,none⟩=some (.int .i64 x):=Zag (HC.out w9 Q9) 0
     have d1:w9.cell? ⟨w.heap.size+1,1,none⟩=some (.int .i64 y):=Zag (HC.out w9 Q9) 1
     have d2:w9.cell? ⟨w.heap.size+1,2,none⟩=some (.int .i64 z):=Zag (HC.out w9 Q9) 2
     have d3:w9.cell? ⟨w.heap.size+1,3,none⟩=some (.int .i64 u):=Zag (HC.out w9 Q9) 3
     have d4:w9.cell? ⟨w.heap.size+1,4,none⟩=some (.slice sa i sc):=Zag (HC.out w9 Q9) 4
     have own10:(w9.setRow w.heap.size #[.int .i64 x, .int .i64 y, .int .i64 z, .int .i64 u, .slice sa i sc]).ownsRow (w.heap.size+2) 66 34 (.slice sa i sc) i (sCs (ZaN D i)):=by
      have q10:=below_setRow (Below.refl w.heap.size w9) (Nat.le_refl _) #[.int .i64 x, .int .i64 y, .int .i64 z, .int .i64 u, .slice sa i sc]
      refine own9.kept (row:=some w.heap.size) ⟨q10.os,q10.tape,q10.output,q10.size,fun k _ hk=>setRow_other w9 w.heap.size k _ (fun e=>hk (by rw [e]))⟩ ?_
      rcases hv:(Value.slice sa i sc).ownBlock with _|k
      ·exact .inl rfl
      ·right
       intro e
       have h1:=(own9.lt k hv).1
       cases e
       omega
     obtain ⟨sa8,sc8,e8,row8⟩:=ZhC (Zf4 D i) hso own10
     cases e8
     go_wp2_with (refine ZcH b2'' _ (.tmp 94) rfl rfl rfl #[.int .i64 x, .int .i64 y, .int .i64 z, .int .i64 u, .slice sa i sc] rfl rfl Tryz.szMf rfl rfl (Zce x y z u sa i sc) ?_)
     refine pret rfl hm9 rfl rfl rfl rfl ⟨q9, .inl ⟨HF.out,sa,sc, ?_, ?_⟩⟩
     ·rw [HEx.out,HEy.out,HEz.out,HEu.out,HEK.out]
     ·rw [HEK.out]
      exact row8
end Go.Proofs.YtcaloldcihpkfaaGreatDoor.N

