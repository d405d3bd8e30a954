/-
 Layer 19 (ed): 64 bytes as a value; two arrays handed back; a copy of as many bytes as there is room for; bytes put one behind the other.
-/
import Derived.Test.YtcaloldcihpkfaaGreatDoorMEdPlain
import Derived.Test.YtcaloldcihpkfaaGreatDoorMPackSs
import Derived.Test.YtcaloldcihpkfaaGreatDoorMPackCb
import Derived.Test.YtcaloldcihpkfaaGreatDoorMShbAwake
namespace Go.Proofs.YtcaloldcihpkfaaGreatDoor.N
open Go.RowKit
set_option linter.unusedVariables false
set_option maxRecDepth 8192

def hA (a:Nat):Array Value:=arr .u8 (digL a 64)
theorem ZfB (a:Nat):hA a=arr .u8 (digL a 64):=rfl
theorem ZcW (a:Nat):(hA a).size=64:=by rw [ZfB,Zfh,Zap]
theorem ZgD (a:Nat):(hA a).all (·.oneCell')=true:=ZhM _ _
theorem Zl5:hA 0=arr .u8 (List.replicate 64 0):=by rw [ZfB,Zfd]
theorem Ztu (a i:Nat) (hi:i<64):(hA a)[i]? =some (.int .u8 ((a/256^i%256:Nat):Int)):=by
 rw [ZfB,ZdU _ _ i (by rw [Zap];exact hi)]
 have:=Zbk (x:=a) (n:=64) hi
 unfold dg at this
 rw [this]
theorem Ztv (a:Nat):digL a 64=digL (vL (digL a 64)) 64:=by
 have h:=Zca (ZaD a 64)
 rwa [Zap] at h
theorem vH {a:Nat} (h:a<2^256*2^256):vL (digL a 64)=a:=Zbg (by rw [show 64=32+32 from rfl,Nat.pow_add,p256];exact h)
theorem ZiS {w:World} {g:Nat} {T:TypeId} {a:Nat} (h:w.heap[g]? =some (.cells (hA a) T (0,0))):Row .u8 w (some ⟨g,0,none⟩) 64 64 (nI (digL a 64)):=by
 refine ⟨by rw [Zaa,Zap],Nat.le_refl _,by unfold maxLen;omega,by simp,fun _=>⟨g,0,rfl,Zat h,fun i hi=> ?_⟩⟩
 rw [cell_of_row w g _ _ _ _ h,Nat.zero_add,Ztu a i hi,ZbB,Zbk hi]
attribute [irreducible] hA
section
variable {P:Program} {fn:Func} {w w0:World} {l:List AV}
theorem Zl6 {p q:Tmp} {T:TypeId} (h:fn.results= #[.cell p T, .cell q T]) (tmps:Array Value) (V:Vars w0 w l) (i j:Nat) {g g':Nat} {X Y:Array Value} (hi:l[i]? =some ⟨g,T,X⟩) (hj:l[j]? =some ⟨g',T,Y⟩) (hp:tmps.getD p undef= .pointer (some ⟨g,0,none⟩)) (hq:tmps.getD q undef= .pointer (some ⟨g',0,none⟩))
  {m:Nat} {e:TypeId} (hu:P.underlying T=some (.array m e)) {n:Nat} (hn:(P.info? T).map (·.size)=some n) (hX:X.size=n) (hY:Y.size=n):(results fn tmps).run P w= .ok (.tuple #[.agg X, .agg Y]) w:=by
 have hl:=run_loadVar_row (P:=P) w g T T X (0,0) _ (V.at i hi) hu rfl (by rw [hn,hX])
 have hl':=run_loadVar_row (P:=P) w g' T T Y (0,0) _ (V.at j hj) hu rfl (by rw [hn,hY])
 simp only [results,h]
 simp only [Array.getD_eq_getD_getElem?] at hp hq ⊢
 simp [hp,hq,asAddr,Result.andThen,hl,hl']
end
theorem Zl7 {P:Program} {w:World} {g n len cap:Nat} {dT elem ty T:TypeId} {a:Option Addr} {z:List Nat} {X:Array Value} (hu:P.underlying dT=some (.slice elem)) (hsz:(P.info? elem).map (·.size)=some 1)
  (hg:w.heap[g]? =some (.cells X T (0,0))) (hX:X.size=n) (h0:0<n) (hle:n≤len) (hr:Row .u8 w a len cap (nI z)):
  ∃w2,Sem.run P (Builtin.copy_ #[dT,dT] ty #[.slice (some ⟨g,0,none⟩) n n, .slice a len cap]) w= .ok (.int .i64 n) w2∧w2.heap[g]? =some (.cells (arr .u8 (z.take n)) T (0,0))∧(∀k,k≠g→w2.heap[k]? =w.heap[k]?)∧Below g w w2:=by
 have hl:=hr.hlen
 rw [Zaa] at hl
 have rt:=Zdr hr n hle
 rw [ZcC] at rt
 obtain ⟨b,off,rfl,hbs,hcell⟩:=rt.hcell h0
 have hlt:(z.take n).length=n:=by rw [List.length_take];omega
 have hrun:=run_copy_row (P:=P) w dT dT ty elem g 0 n n ⟨b,off,none⟩ len cap X T ((nI (z.take n)).map (Value.int .u8)) hu hsz hg (by rw [List.length_map,Zaa,hlt];exact (Nat.min_eq_right hle).symm) (Zc0 (by rw [Zaa,hlt]) hcell) (by rw [List.length_map,Zaa,hlt];omega) (ints_oneCell _ _)
 have e1:(X.toList.take 0++(nI (z.take n)).map (Value.int .u8)++X.toList.drop (0+((nI (z.take n)).map (Value.int .u8)).length))=(nI (z.take n)).map (Value.int .u8):=by
  rw [List.length_map,Zaa,hlt,List.drop_eq_nil_of_le (by simp [hX])]
  simp
 rw [e1] at hrun
 refine ⟨_, ?_,setRow_heap w g _ _ T _ hg,fun k hk=>setRow_other w g k _ hk,below_setRow (Below.refl _ _) (Nat.le_refl _) _⟩
 rw [hrun]
 simp only [List.length_map,Zaa,hlt,goInt]
 rfl
theorem Ztw {w:World} {b off len cap n:Nat} {zs:List Int} (h:Row .u8 w (some ⟨b,off,none⟩) len cap zs) (hn:n≤len) {ad:Option Addr} (had:(if cap=n then some (⟨b,off,none⟩:Addr) else some ⟨b,off+n,none⟩)=ad):Row .u8 w ad (len - n) (cap - n) (zs.drop n):=by
 have hd:=Zep h n hn
 by_cases hc:cap=n
 ·rw [if_pos hc] at had
  subst had
  have hl:len - n=0:=by have:=h.hcap;omega
  exact ⟨hd.hlen,hd.hcap,hd.hmax,by simp,fun h0=>by omega⟩
 ·rw [if_neg hc] at had
  subst had
  exact hd
theorem Ztx (l:List Nat):Go.Proofs.YtcaloldcihpkfaaGreatDoor.nI l=nI l:=rfl
theorem ZdF {w:World} {g:Nat} {T:TypeId} {X:Array Value} (hg:w.heap[g]? =some (.cells X T (0,0))) (i:Nat) {a:Option Addr} {len cap:Nat} {z:List Nat} (hX:X[i]? =some (.slice a len cap)) (hr:Row .u8 w a len cap (nI z)) (dz:Dig z) (hl:z.length≤100000):B.PartIn w g i a len cap z:=
 ⟨by rw [cell_of_row w g _ _ _ _ hg];exact hX,hr,dz,hl⟩
theorem Tryz.szH:(Tryz.prog.info? 63).map (·.size)=some 64:=by kernel_rfl
theorem ZfC (w:World):(zeroValue 63).run Tryz.prog w= .ok (.agg (hA 0)) w:=by rw [Zl5];kernel_rfl
theorem Ze7 {a:Act} {o:Oper} {w w0:World} {l:List AV} (V:Vars w0 w l) (i:Nat) {g:Nat} {X:Array Value} (hi:l[i]? =some ⟨g,63,X⟩) (x:Operand) (ho:o.op= .slice 63 x none none none) (hx:a.eval x= .pointer (some ⟨g,0,none⟩)):
  (execOp a.eval o).run Tryz.prog w= .ok (.value (.slice (some ⟨g,0,none⟩) 64 64)) w:=by
 unfold execOp
 simp only [ho,hx,Option.map_none,Zgj 63 5 64 Tryz.underlying63 Tryz.sz8 g 0 (by decide) w,Sem.run_bind,Sem.run_pure,Result.andThen_ok]
theorem Zty {a:Act} {o:Oper} {w:World} (g:Nat) (x:Operand) (ho:o.op= .slice 63 x none none none) (hx:a.eval x= .pointer (some ⟨g,0,none⟩)):
  (execOp a.eval o).run Tryz.prog w= .ok (.value (.slice (some ⟨g,0,none⟩) 64 64)) w:=by
 unfold execOp
 simp only [ho,hx,Option.map_none,Zgj 63 5 64 Tryz.underlying63 Tryz.sz8 g 0 (by decide) w,Sem.run_bind,Sem.run_pure,Result.andThen_ok]
theorem Ztz (a:Option Addr) (l c:Nat) (w:World):(Instr.buildSlice 26 1 [(0, .slice a l c)].toArray).run Tryz.prog w= .ok (.slice (some ⟨w.heap.size,0,none⟩) 1 1) (w.alloc (.cells #[.slice a l c] 28)):=by kernel_rfl
theorem Zl8 (a a':Option Addr) (l c l' c':Nat) (w:World):(Instr.buildSlice 26 2 [(0, .slice a l c),(1, .slice a' l' c')].toArray).run Tryz.prog w= .ok (.slice (some ⟨w.heap.size,0,none⟩) 2 2) (w.alloc (.cells #[.slice a l c, .slice a' l' c'] 28)):=by kernel_rfl
theorem ZiT (a a' a'':Option Addr) (l c l' c' l'' c'':Nat) (w:World):(Instr.buildSlice 26 3 [(0, .slice a l c),(1, .slice a' l' c'),(2, .slice a'' l'' c'')].toArray).run Tryz.prog w= .ok (.slice (some ⟨w.heap.size,0,none⟩) 3 3) (w.alloc (.cells #[.slice a l c, .slice a' l' c', .slice a'' l'' c''] 28)):=by kernel_rfl
theorem Zl9 {z:List Nat} (dz:Dig z) (hl:z.length≤100000) {g:Nat} {a:Option Addr} {len cap:Nat} {T:TypeId} {w:World} (hg:w.heap[g]? =some (.cells #[.slice a len cap] T (0,0))) (hr:Row .u8 w a len cap (nI z)):
  Calls Tryz.prog 78 #[.slice (some ⟨g,0,none⟩) 1 1] w fun e w'=>e= .returned (.agg (hA (hN z)))∧Below w.heap.size w w':=by
 have h:=B.Ztt w g a len cap z (Zat hg) (ZdF hg 0 rfl hr dz hl)
 rw [Zs1] at h
 rw [ZfB]
 exact h
set_option maxHeartbeats 1600000 in
theorem Zma (R:Nat→B.PartV) (w:World) (a:Option Addr) (len cap:Nat) (hP:B.PartsAt w a len cap R) (hb:(B.Zav R len).length≤100000):
  Calls Tryz.prog 66 #[.slice a len cap] w (ZbS w (B.Zav R len)):=by
 obtain ⟨i0,hi0,hz0,hz1,hz2⟩:=info_parts Tryz.info5
 have HB0:Hid (∀i,i≤len→(B.Zav R i).length≤100000):=fun i hi=>Nat.le_trans (B.ZjP R hi) hb
 have hlm:len≤maxLen:=Nat.le_trans hP.hlen hP.hmax
 unfold maxLen at hlm
 have hlc:=hP.hlen
 have HP:Hid (B.PartsAt w a len cap R):=hP
 clear hb hP
 go_enter Tryz.func66,Tryz.ntmps66
 go_wp2_with fail
 go_loopw [3,5,8] (fun v p y wr=>∃k n:Nat,k≤len∧y= .int .i64 (k:Int)∧Hid ((B.Zav R k).length=n)∧Hid (wr.ownsRow w.heap.size 5 1 v n ((nI (B.Zav R k)).map (Value.int .u8)))∧Hid (Below w.heap.size w wr)) (fun v p y _=>len - (intOf y).toNat)
 case atStart=>exact ⟨0,0,by omega,rfl,rfl,World.ownsRow_nil _ _ _ _,Below.refl _ _⟩
 case round=>
  obtain ⟨k,n,hk,rfl,HN,HO,HB⟩:=hrel
  have sB:=HB.out.size
  have hn1:=HB0.out k hk
  rw [HN.out] at hn1
  by_cases hlt:k<len
  ·obtain ⟨b,off,rfl,hb,hpe⟩:=HP.out.each (by omega)
   obtain ⟨x0,hri,hzi⟩:=hpe k hlt
   have HC:Hid (B.Zav R (k+1)=B.Zav R k++(R k).num):=rfl
   have hn2:=HB0.out (k+1) (by omega)
   rw [HC.out,List.length_append,HN.out] at hn2
   generalize hRi:R k=r at x0 hri hzi HC hn2
   clear hRi hpe hzi
   obtain ⟨ar,l,cr,zr⟩:=r
   simp only at x0 hri HC hn2
   rw [Ztx] at hri
   have HLZ:Hid (zr.length=l):=by have:=hri.hlen;rw [Zaa] at this;exact this
   rw [HLZ.out] at hn2
   have x1:wr.cell? ⟨b,off+k,none⟩=some (.slice ar l cr):=by rw [HB.out.cell hb];exact x0
   have hrr:=hri.below HB.out (Nat.le_refl _)
   have hown:=HO.out
   have HL2:Hid ((B.Zav R (k+1)).length=n+l):=by show _=_;rw [HC.out,List.length_append,HN.out,HLZ.out]
   have hii:(k:Int)<(len:Int):=by omega
   clear x0 hri
   go_wp2_with (at_builtin;refine Zdn _ rfl _ _ 28 rfl w.heap.size 5 i0 (.int .u8 0) 1 Tryz.underlying28 hi0 hz0 hz1 hz2 rfl _ n _ rfl hown .u8 ar l cr _ rfl hrr (by unfold maxLen;omega) (by omega) sB ?_)
   intro v1 w1 own1 g1
   have q1:Below w.heap.size w w1:=HB.out.grown g1 sB (fun j hj=>(hown.lt j hj).1)
   rw [←List.map_append, ←ZbY, ←HC.out] at own1
   have HO1:Hid (w1.ownsRow w.heap.size 5 1 v1 (n+l) ((nI (B.Zav R (k+1))).map (Value.int .u8))):=own1
   have HQ1:Hid (Below w.heap.size w w1):=q1
   clear own1 q1 g1 hown hrr x1 HO HB HC
   go_wp2
   go_roundw
   case rel=>exact ⟨k+1,n+l,by omega,by go_num,HL2,HO1,HQ1⟩
   case measure=>simp [intOf];omega
  ·obtain rfl:k=len:=by omega
   obtain ⟨a1,c1,rfl,r1⟩:=ZaF HO.out
   have HR1:Hid (Row .u8 wr a1 n c1 (nI (B.Zav R k))):=r1
   clear r1 HO
   go_wp2_with fail
   go_ret
   exact ⟨a1,c1,by rw [HN.out];rfl,by rw [HN.out];exact HR1.out,HB.out⟩
theorem ZtA {z z':List Nat} (dz:Dig z) (dz':Dig z') (hl:z.length+z'.length≤100000) {g:Nat} {T:TypeId} {a a':Option Addr} {len cap len' cap':Nat} {w:World} (hg:w.heap[g]? =some (.cells #[.slice a len cap, .slice a' len' cap'] T (0,0))) (hr:Row .u8 w a len cap (nI z)) (hr':Row .u8 w a' len' cap' (nI z')):
  Calls Tryz.prog 66 #[.slice (some ⟨g,0,none⟩) 2 2] w (ZbS w (z++z')):=by
 have h:=Zma _ w _ 2 2 (B.Zl3 (Zat hg) (ZdF hg 0 rfl hr dz (by omega)) (ZdF hg 1 rfl hr' dz' (by omega))) (by rw [B.ZfA];simp only [List.length_append];omega)
 rw [B.ZfA] at h
 exact h
end Go.Proofs.YtcaloldcihpkfaaGreatDoor.N
