/-
 The code of layer 19 (ed), as it landed: number; Public.
-/
import Derived.Test.YtcaloldcihpkfaaGreatDoorDPackFb
import Derived.Test.YtcaloldcihpkfaaGreatDoorDEdCode
import Derived.Test.YtcaloldcihpkfaaGreatDoorDEdTimes
namespace Go.Proofs.YtcaloldcihpkfaaGreatDoor.N
open Go.RowKit
set_option linter.unusedVariables false
set_option maxRecDepth 8192

set_option maxHeartbeats 1600000 in
theorem Ztw (z:List Nat) (h r:Nat) (w:World) (ho:OAt w) (a:Option Addr) (len cap:Nat)
  (HJ:Hid (∀w',Below w.heap.size w w'→Calls Tryz.prog 66 #[.slice a len cap] w' (ZbH w' z)))
  (HS:Hid (∀(w':World) (g:Nat) (a':Option Addr) (c':Nat),w'.heap[g]? =some (.cells #[.slice a' z.length c'] 28 (0,0))→Row .u8 w' a' z.length c' (nI z)→Rt Tryz.prog 78 #[.slice (some ⟨g,0,none⟩) 1 1] (.agg (hA h)) w'))
  (HR:Hid (∀(w':World) (g:Nat),OAt w'→w'.heap[g]? =some (.cells (hA h) 63 (0,0))→Rt Tryz.prog 79 #[.slice (some ⟨g,0,none⟩) 64 64] (.agg (bA r)) w')):
  Calls Tryz.prog 34 #[.slice a len cap] w fun e w'=>e= .returned (.agg (bA r))∧Below w.heap.size w w':=by
 have V0:=Vars.start w
 go_enter Tryz.func34,Tryz.ntmps34
 go_wp2_with (refine zA V0 2 rfl rfl rfl ?_;intro w1 g2 V3)
 refine (HJ.out w1 V3.bel).mono ?_
 rintro e wj ⟨aj,cj,rfl,rj,qj⟩
 have VJ:=V3.call qj
 clear qj V3 HJ
 have U0:=Vars.start wj
 generalize z.length=lz at*
 go_wp2_with fail
 have U1:=U0.new 28 #[.slice aj lz cj]
 generalize wj.alloc (.cells #[.slice aj lz cj] 28)=wk at*
 generalize wj.heap.size=gk at*
 have rk:=rj.below U1.bel (Nat.le_refl _)
 have VK:=VJ.call U1.bel
 refine (HS.out wk gk aj cj (U1.at 0 rfl) rk).mono ?_
 rintro e wl ⟨rfl,ql⟩
 have VL:=VK.call ql
 clear ql VJ VK U0 U1 rj rk HS
 go_wp2_with (first
  | (refine Zag VL 3 63 rfl rfl rfl (hA 0) Ze8 ?_;intro w4 g5 V6)
  | (refine Zak V6 0 rfl _ (.tmp 7) rfl rfl rfl (hA h) rfl rfl Tryz.szH (ZcJ _) (ZcJ _) (Zga _) ?_;intro w7 V8)
  | (refine Zaw rfl (ZeI V8 0 rfl _ rfl rfl) ?_))
 refine (HR.out w7 g5 (ho.of V8) (V8.at 0 rfl)).mono ?_
 rintro e w9 ⟨rfl,q11⟩
 have V10:=V8.call q11
 clear q11 V8
 go_wp2_with (refine zL V10 1 rfl _ (.tmp 9) rfl rfl rfl r rfl rfl ?_;intro w12 V13)
 exact bodyPost_ret (ZaP rfl _ V13 1 rfl rfl Tryz.underlying22 Tryz.szB (Zae _)) rfl ⟨rfl,V13.bel⟩
theorem ZiG {z z':List Nat} (h:Dig z) (h':Dig z'):Dig (z++z'):=fun x hx=>(List.mem_append.1 hx).elim (h x) (h' x)
theorem ZlR (R:Nat→B.PartV) (w:World) (ho:OAt w) (a:Option Addr) (len cap:Nat) (hP:B.PartsAt w a len cap R) (dz:Dig (B.Zar R len)) (hb:(B.Zar R len).length≤100000):
  Calls Tryz.prog 34 #[.slice a len cap] w fun e w'=>e= .returned (.agg (bA (numN (B.Zar R len))))∧Below w.heap.size w w':=by
 refine Ztw (B.Zar R len) (hN (B.Zar R len)) _ w ho a len cap (fun w' q=>ZlI R w' a len cap (hP.below q (Nat.le_refl _)) hb) (fun w' g a' c' hg hr=>ZlH dz hb hg hr) (fun w' g ho hg=> ?_)
 have h:=ZsR (digL (hN (B.Zar R len)) 64) (Zay _ _) (some ⟨g,0,none⟩) 64 64 w' ho (ZiB hg) (by decide)
 rw [vH (Zlp _), ←Zsw] at h
 exact h
theorem Ztx {z z':List Nat} (dz:Dig z) (dz':Dig z') (hl:z.length+z'.length≤100000) {g:Nat} {T:TypeId} {a a':Option Addr} {len cap len' cap':Nat} {w:World} (ho:OAt w) (hg:w.heap[g]? =some (.cells #[.slice a len cap, .slice a' len' cap'] T (0,0))) (hr:Row .u8 w a len cap (nI z)) (hr':Row .u8 w a' len' cap' (nI z')):
  Calls Tryz.prog 34 #[.slice (some ⟨g,0,none⟩) 2 2] w fun e w'=>e= .returned (.agg (bA (numN (z++z'))))∧Below w.heap.size w w':=by
 have h:=ZlR _ w ho _ 2 2 (B.ZlB (Zau hg) (Zdr hg 0 rfl hr dz (by omega)) (Zdr hg 1 rfl hr' dz' (by omega))) (by rw [B.Ze6];exact ZiG dz dz') (by rw [B.Ze6];simp only [List.length_append];omega)
 rw [B.Ze6] at h
 exact h
theorem ZlS {z z' z'':List Nat} (dz:Dig z) (dz':Dig z') (dz'':Dig z'') (hl:z.length+z'.length+z''.length≤100000) {g:Nat} {T:TypeId} {a a' a'':Option Addr} {len cap len' cap' len'' cap'':Nat} {w:World} (ho:OAt w) (hg:w.heap[g]? =some (.cells #[.slice a len cap, .slice a' len' cap', .slice a'' len'' cap''] T (0,0))) (hr:Row .u8 w a len cap (nI z)) (hr':Row .u8 w a' len' cap' (nI z')) (hr'':Row .u8 w a'' len'' cap'' (nI z'')):
  Calls Tryz.prog 34 #[.slice (some ⟨g,0,none⟩) 3 3] w fun e w'=>e= .returned (.agg (bA (numN (z++z'++z''))))∧Below w.heap.size w w':=by
 have h:=ZlR _ w ho _ 3 3 (B.ZsV (Zau hg) (Zdr hg 0 rfl hr dz (by omega)) (Zdr hg 1 rfl hr' dz' (by omega)) (Zdr hg 2 rfl hr'' dz'' (by omega))) (by rw [B.ZiA];exact ZiG (ZiG dz dz') dz'') (by rw [B.ZiA];simp only [List.length_append];omega)
 rw [B.ZiA] at h
 exact h
theorem Zty (sd:Nat) (hs:sd<2^256) (w:World) (hd:DAt w):Calls Tryz.prog 14 #[.agg (bA sd)] w fun e w'=>e= .returned (.agg (bA (pubN sd)))∧Below w.heap.size w w':=by
 have HS:Hid (∀w,Rt Tryz.prog 38 #[.agg (bA sd)] (.tuple #[.agg (bA (secA sd)), .agg (bA (secB sd))]) w):=fun w=>ZlK sd hs w
 have HP:Hid (∀w,DAt w→Rt Tryz.prog 39 #[.agg (bA (secA sd))] (.agg (bA (pubN sd))) w):=fun w hd=>ZiF _ (Ziw sd) w hd
 generalize pubN sd=r at*
 generalize secA sd=sa at*
 generalize secB sd=sb at*
 clear hs
 have V0:=Vars.start w
 go_enter Tryz.func14,Tryz.ntmps14
 go_wp2_with (first
  | (refine Zaf V0 1 22 _ rfl rfl rfl (bA sd) rfl ?_;intro w1 g2 V3)
  | (refine zA V3 2 rfl rfl rfl ?_;intro w4 g5 V6)
  | (refine zD V6 1 rfl 6 _ rfl rfl rfl rfl ?_))
 refine (HS.out w4).mono ?_
 rintro e w7 ⟨rfl,q9⟩
 have V8:=V6.call q9
 clear q9 V6
 go_wp2_with (first
  | (refine zA V8 3 rfl rfl rfl ?_;intro w10 g11 V12)
  | (refine zA V12 4 rfl rfl rfl ?_;intro w13 g14 V15)
  | (refine zL V15 1 rfl _ (.tmp 8) rfl rfl rfl sa rfl rfl ?_;intro w16 V17)
  | (refine zL V17 0 rfl _ (.tmp 9) rfl rfl rfl sb rfl rfl ?_;intro w18 V19)
  | (refine zD V19 1 rfl 10 _ rfl rfl rfl rfl ?_))
 refine (HP.out w18 (hd.of V19)).mono ?_
 rintro e w20 ⟨rfl,q22⟩
 have V21:=V19.call q22
 clear q22 V19
 go_wp2_with (refine zL V21 2 rfl _ (.tmp 11) rfl rfl rfl r rfl rfl ?_;intro w23 V24)
 exact bodyPost_ret (ZaP rfl _ V24 2 rfl rfl Tryz.underlying22 Tryz.szB (Zae _)) rfl ⟨rfl,V24.bel⟩
end Go.Proofs.YtcaloldcihpkfaaGreatDoor.N
