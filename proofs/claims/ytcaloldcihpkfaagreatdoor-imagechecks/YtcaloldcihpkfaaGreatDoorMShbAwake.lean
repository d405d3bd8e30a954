/-
 Layer 14: awake: the chapter's examples.
-/
import Derived.Test.YtcaloldcihpkfaaGreatDoorMPackSf
import Derived.Lib.SlBytesConst
import Derived.Deep.CutRange
namespace Go.Proofs.YtcaloldcihpkfaaGreatDoor.B
open Go.RowKit
set_option linter.unusedVariables false
set_option maxRecDepth 8192

def two (p q:PartV):Nat→PartV:=fun i=>if i=0 then p else q
def ZeX (p q r:PartV):Nat→PartV:=fun i=>if i=0 then p else if i=1 then q else r
structure PartIn (w:World) (c i:Nat) (a:Option Addr) (len cap:Nat) (z:List Nat):Prop where
 cell:w.cell? ⟨c,i,none⟩=some (.slice a len cap)
 row:Row .u8 w a len cap (nI z)
 lt:∀x∈z,x<256
 few:z.length≤100000
theorem Zl2 {w:World} {c:Nat} {a:Option Addr} {len cap:Nat} {z:List Nat} (hc:c<w.heap.size) (h:PartIn w c 0 a len cap z):PartsAt w (some ⟨c,0,none⟩) 1 1 (fun _=>⟨a,len,cap,z⟩):=by
 refine ⟨Nat.le_refl _,by decide,fun _=>⟨c,0,rfl,hc,fun i hi=> ?_⟩⟩
 obtain rfl:i=0:=by omega
 exact ⟨h.cell,h.row,h.lt⟩
theorem Zl3 {w:World} {c:Nat} {a a':Option Addr} {len cap len' cap':Nat} {z z':List Nat} (hc:c<w.heap.size) (h:PartIn w c 0 a len cap z) (h':PartIn w c 1 a' len' cap' z'):PartsAt w (some ⟨c,0,none⟩) 2 2 (two ⟨a,len,cap,z⟩ ⟨a',len',cap',z'⟩):=by
 refine ⟨Nat.le_refl _,by decide,fun _=>⟨c,0,rfl,hc,fun i hi=> ?_⟩⟩
 rcases (show i=0∨i=1 by omega) with rfl|rfl
 ·exact ⟨h.cell,h.row,h.lt⟩
 ·exact ⟨h'.cell,h'.row,h'.lt⟩
theorem Zts {w:World} {c:Nat} {a a' a'':Option Addr} {len cap len' cap' len'' cap'':Nat} {z z' z'':List Nat} (hc:c<w.heap.size) (h:PartIn w c 0 a len cap z) (h':PartIn w c 1 a' len' cap' z') (h'':PartIn w c 2 a'' len'' cap'' z''):PartsAt w (some ⟨c,0,none⟩) 3 3 (ZeX ⟨a,len,cap,z⟩ ⟨a',len',cap',z'⟩ ⟨a'',len'',cap'',z''⟩):=by
 refine ⟨Nat.le_refl _,by decide,fun _=>⟨c,0,rfl,hc,fun i hi=> ?_⟩⟩
 rcases (show i=0∨i=1∨i=2 by omega) with rfl|rfl|rfl
 ·exact ⟨h.cell,h.row,h.lt⟩
 ·exact ⟨h'.cell,h'.row,h'.lt⟩
 ·exact ⟨h''.cell,h''.row,h''.lt⟩
theorem Zl4 (p:PartV):Zav (fun _=>p) 1=p.num:=rfl
theorem ZfA (p q:PartV):Zav (two p q) 2=p.num++q.num:=rfl
theorem ZiR (p q r:PartV):Zav (ZeX p q r) 3=p.num++q.num++r.num:=rfl
theorem Ztt (w:World) (c:Nat) (a:Option Addr) (len cap:Nat) (z:List Nat) (hc:c<w.heap.size) (h:PartIn w c 0 a len cap z):
  Calls Tryz.prog 78 #[.slice (some ⟨c,0,none⟩) 1 1] w fun e w'=>e= .returned (.agg ((nI (sumL KL S0 z)).map (Value.int .u8)).toArray)∧Below w.heap.size w w':=by
 have hs:=Zoo _ w _ 1 1 (Zl2 hc h) (by rw [Zl4];have:=h.few;simp only;omega)
 rw [Zl4] at hs
 exact hs
end Go.Proofs.YtcaloldcihpkfaaGreatDoor.B
