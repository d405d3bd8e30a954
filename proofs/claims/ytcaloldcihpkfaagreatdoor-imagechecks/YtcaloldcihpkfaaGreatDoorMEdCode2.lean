/-
 The code of layer 19 (ed), as it landed: number; Public.
-/
import Derived.Test.YtcaloldcihpkfaaGreatDoorMPackFb
import Derived.Test.YtcaloldcihpkfaaGreatDoorMEdCode
import Derived.Test.YtcaloldcihpkfaaGreatDoorMEdTimes
namespace Go.Proofs.YtcaloldcihpkfaaGreatDoor.N
open Go.RowKit
set_option linter.unusedVariables false
set_option maxRecDepth 8192

set_option maxHeartbeats 1600000 in
theorem Zt3 (z:List Nat) (h r:Nat) (w:World) (ho:OAt w) (a:Option Addr) (len cap:Nat)
  (HJ:Hid (∀w',Below w.heap.size w w'→Calls Tryz.prog 66 #[.slice a len cap] w' (ZbS w' z)))
  (HS:Hid (∀(w':World) (g:Nat) (a':Option Addr) (c':Nat),w'.heap[g]? =some (.cells #[.slice a' z.length c'] 28 (0,0))→Row .u8 w' a' z.length c' (nI z)→Rt Tryz.prog 78 #[.slice (some ⟨g,0,none⟩) 1 1] (.agg (hA h)) w'))
  (HR:Hid (∀(w':World) (g:Nat),OAt w'→w'.heap[g]? =some (.cells (hA h) 63 (0,0))→Rt Tryz.prog 79 #[.slice (some ⟨g,0,none⟩) 64 64] (.agg (bA r)) w')):
  Calls Tryz.prog 34 #[.slice a len cap] w fun e w'=>e= .returned (.agg (bA r))∧Below w.heap.size w w':=by
 have V0:=Vars.start w
 go_enter Tryz.func34,Tryz.ntmps34
 go_wp2_with (refine zA V0 2 rfl rfl rfl ?_;intro w1 g2 V3)
 refine (HJ.out w1 V3.bel).mono ?_
 rintro e wj ⟨aj,cj,rfl,rj,qj⟩
 have VJ:=V3.call qj
 clear qj V3 HJ
 have U0:=Vars.start wj
 generalize z.length=lz at*
 go_wp2_with fail
 have U1:=U0.new 28 #[.slice aj lz cj]
 generalize wj.alloc (.cells #[.slice aj lz cj] 28)=wk at*
 generalize wj.heap.size=gk at*
 have rk:=rj.below U1.bel (Nat.le_refl _)
 have VK:=VJ.call U1.bel
 refine (HS.out wk gk aj cj (U1.at 0 rfl) rk).mono ?_
 rintro e wl ⟨rfl,ql⟩
 have VL:=VK.call ql
 clear ql VJ VK U0 U1 rj rk HS
 go_wp2_with (first
  | (refine Zai VL 3 63 rfl rfl rfl (hA 0) ZfC ?_;intro w4 g5 V6)
  | (refine Zal V6 0 rfl _ (.tmp 7) rfl rfl rfl (hA h) rfl rfl Tryz.szH (ZcW _) (ZcW _) (ZgD _) ?_;intro w7 V8)
  | (refine Zax rfl (Ze7 V8 0 rfl _ rfl rfl) ?_))
 refine (HR.out w7 g5 (ho.of V8) (V8.at 0 rfl)).mono ?_
 rintro e w9 ⟨rfl,q11⟩
 have V10:=V8.call q11
 clear q11 V8
 go_wp2_with (refine zL V10 1 rfl _ (.tmp 9) rfl rfl rfl r rfl rfl ?_;intro w12 V13)
 exact bodyPost_ret (ZaW rfl _ V13 1 rfl rfl Tryz.underlying22 Tryz.szB (Zaf _)) rfl ⟨rfl,V13.bel⟩
theorem ZiX {z z':List Nat} (h:Dig z) (h':Dig z'):Dig (z++z'):=fun x hx=>(List.mem_append.1 hx).elim (h x) (h' x)
theorem Zmj (R:Nat→B.PartV) (w:World) (ho:OAt w) (a:Option Addr) (len cap:Nat) (hP:B.PartsAt w a len cap R) (dz:Dig (B.Zav R len)) (hb:(B.Zav R len).length≤100000):
  Calls Tryz.prog 34 #[.slice a len cap] w fun e w'=>e= .returned (.agg (bA (numN (B.Zav R len))))∧Below w.heap.size w w':=by
 refine Zt3 (B.Zav R len) (hN (B.Zav R len)) _ w ho a len cap (fun w' q=>Zma R w' a len cap (hP.below q (Nat.le_refl _)) hb) (fun w' g a' c' hg hr=>Zl9 dz hb hg hr) (fun w' g ho hg=> ?_)
 have h:=Zto (digL (hN (B.Zav R len)) 64) (ZaD _ _) (some ⟨g,0,none⟩) 64 64 w' ho (ZiS hg) (by decide)
 rw [vH (ZlR _), ←Zs3] at h
 exact h
theorem Zt4 {z z':List Nat} (dz:Dig z) (dz':Dig z') (hl:z.length+z'.length≤100000) {g:Nat} {T:TypeId} {a a':Option Addr} {len cap len' cap':Nat} {w:World} (ho:OAt w) (hg:w.heap[g]? =some (.cells #[.slice a len cap, .slice a' len' cap'] T (0,0))) (hr:Row .u8 w a len cap (nI z)) (hr':Row .u8 w a' len' cap' (nI z')):
  Calls Tryz.prog 34 #[.slice (some ⟨g,0,none⟩) 2 2] w fun e w'=>e= .returned (.agg (bA (numN (z++z'))))∧Below w.heap.size w w':=by
 have h:=Zmj _ w ho _ 2 2 (B.Zl3 (Zat hg) (ZdF hg 0 rfl hr dz (by omega)) (ZdF hg 1 rfl hr' dz' (by omega))) (by rw [B.ZfA];exact ZiX dz dz') (by rw [B.ZfA];simp only [List.length_append];omega)
 rw [B.ZfA] at h
 exact h
theorem Zmk {z z' z'':List Nat} (dz:Dig z) (dz':Dig z') (dz'':Dig z'') (hl:z.length+z'.length+z''.length≤100000) {g:Nat} {T:TypeId} {a a' a'':Option Addr} {len cap len' cap' len'' cap'':Nat} {w:World} (ho:OAt w) (hg:w.heap[g]? =some (.cells #[.slice a len cap, .slice a' len' cap', .slice a'' len'' cap''] T (0,0))) (hr:Row .u8 w a len cap (nI z)) (hr':Row .u8 w a' len' cap' (nI z')) (hr'':Row .u8 w a'' len'' cap'' (nI z'')):
  Calls Tryz.prog 34 #[.slice (some ⟨g,0,none⟩) 3 3] w fun e w'=>e= .returned (.agg (bA (numN (z++z'++z''))))∧Below w.heap.size w w':=by
 have h:=Zmj _ w ho _ 3 3 (B.Zts (Zat hg) (ZdF hg 0 rfl hr dz (by omega)) (ZdF hg 1 rfl hr' dz' (by omega)) (ZdF hg 2 rfl hr'' dz'' (by omega))) (by rw [B.ZiR];exact ZiX (ZiX dz dz') dz'') (by rw [B.ZiR];simp only [List.length_append];omega)
 rw [B.ZiR] at h
 exact h
theorem Zt5 (sd:Nat) (hs:sd<2^256) (w:World) (hd:DAt w):Calls Tryz.prog 14 #[.agg (bA sd)] w fun e w'=>e= .returned (.agg (bA (pubN sd)))∧Below w.heap.size w w':=by
 have HS:Hid (∀w,Rt Tryz.prog 38 #[.agg (bA sd)] (.tuple #[.agg (bA (secA sd)), .agg (bA (secB sd))]) w):=fun w=>Zmc sd hs w
 have HP:Hid (∀w,DAt w→Rt Tryz.prog 39 #[.agg (bA (secA sd))] (.agg (bA (pubN sd))) w):=fun w hd=>ZiW _ (ZiN sd) w hd
 generalize pubN sd=r at*
 generalize secA sd=sa at*
 generalize secB sd=sb at*
 clear hs
 have V0:=Vars.start w
 go_enter Tryz.func14,Tryz.ntmps14
 go_wp2_with (first
  | (refine Zaj V0 1 22 _ rfl rfl rfl (bA sd) rfl ?_;intro w1 g2 V3)
  | (refine zA V3 2 rfl rfl rfl ?_;intro w4 g5 V6)
  | (refine zD V6 1 rfl 6 _ rfl rfl rfl rfl ?_))
 refine (HS.out w4).mono ?_
 rintro e w7 ⟨rfl,q9⟩
 have V8:=V6.call q9
 clear q9 V6
 go_wp2_with (first
  | (refine zA V8 3 rfl rfl rfl ?_;intro w10 g11 V12)
  | (refine zA V12 4 rfl rfl rfl ?_;intro w13 g14 V15)
  | (refine zL V15 1 rfl _ (.tmp 8) rfl rfl rfl sa rfl rfl ?_;intro w16 V17)
  | (refine zL V17 0 rfl _ (.tmp 9) rfl rfl rfl sb rfl rfl ?_;intro w18 V19)
  | (refine zD V19 1 rfl 10 _ rfl rfl rfl rfl ?_))
 refine (HP.out w18 (hd.of V19)).mono ?_
 rintro e w20 ⟨rfl,q22⟩
 have V21:=V19.call q22
 clear q22 V19
 go_wp2_with (refine zL V21 2 rfl _ (.tmp 11) rfl rfl rfl r rfl rfl ?_;intro w23 V24)
 exact bodyPost_ret (ZaW rfl _ V24 2 rfl rfl Tryz.underlying22 Tryz.szB (Zaf _)) rfl ⟨rfl,V24.bel⟩
end Go.Proofs.YtcaloldcihpkfaaGreatDoor.N
