/-
 Layer 23's laws: Launches.
-/
import Derived.Test.YtcaloldcihpkfaaGreatDoorCPackIc
import Derived.Test.YtcaloldcihpkfaaGreatDoorCPackKb
namespace Go.Proofs.YtcaloldcihpkfaaGreatDoor.N
open Go.RowKit
set_option linter.unusedVariables false
set_option maxRecDepth 8192

theorem Zv5 {w:World} {ra:Option Addr} {rn rc:Nat} {fuse:Int} {a pa:Option Addr} {m c n pc:Nat} {l:List Ky} {D:List Int} {R:Nat→B.PartV} (hr:KRow w ra rn rc l) (ok:∀s∈l,s.Ok) (hs:Row .u8 w a m c D) (hD:IsB D) (hm:m≤10064) (ho:OAt w) (hd:DAt w) (hp:B.PartsAt w pa n pc R) (hb:∀i,i<n→(R i).len≤100000) {r:Int} (hc:ZbN l fuse D n R=r):
  Calls Tryz.prog 16 #[.slice ra rn rc, .int .i64 fuse, .slice a m c, .slice pa n pc] w fun e w'=>Below w.heap.size w w'∧∃X:Array Value,e= .returned (.tuple #[.agg X, .int .i64 r])∧X.size=5∧X.all (·.oneCell')=true∧(r≠0→X=ld00)∧
   (r=0→isMf (ovI D)=true∧n=cnt (ovI D)∧∃la lc,X= #[.int .i64 0, .int .i64 (Zab (ovI D) 16), .int .i64 (Zab (ovI D) 8), .slice la n lc, .int .i64 0]∧∃Z,w.heap.size≤Z∧LdI 70 w' Z (sgsI D) R n (.slice la n lc)):=by
 refine (ZmA (fuse:=fuse) hr ok hs hD hm ho hd hp hb).mono ?_
 rw [hc]
 rintro e w' ⟨q,⟨h0,h1,h2,la,lc,he,h3⟩|⟨h0,he⟩⟩
 ·exact ⟨q,_,by rw [he,h0],rfl,ZeN _ _ _ _ _ _ _,fun h=>absurd h0 h,fun _=>⟨h1,h2,la,lc,rfl,h3⟩⟩
 ·exact ⟨q,_,he,rfl,ZeN 0 0 0 0 none 0 0,fun _=>rfl,fun h=>absurd h h0⟩
end Go.Proofs.YtcaloldcihpkfaaGreatDoor.N
