/-
  The walk of the law 'Unseen'.
-/
import Derived.Test.YtcedebpoihcbdaaGreatDoorUA
import Derived.Deep.RegionHeld3
set_option linter.unusedVariables false
set_option maxHeartbeats 8000000
set_option maxRecDepth 100000
namespace Go.Proofs.YtcedebpoihcbdaaGreatDoor
open Go.RowKit Go.Shelf Gv
theorem tdiv4_bounds {c:Int} (h1:-9223372036854775808≤c) (h2:c≤9223372036854775807):-9223372036854775808≤c.tdiv 4∧c.tdiv 4≤9223372036854775807:=by
 by_cases h0:0≤c
 ·rw [Int.tdiv_eq_ediv_of_nonneg h0];omega
 ·have e:c.tdiv 4=-((-c) / 4):=by
   have:=Int.neg_tdiv (-c) 4
   rw [Int.neg_neg] at this
   rw [this,Int.tdiv_eq_ediv_of_nonneg (by omega)]
  rw [e];omega
theorem below_drews {D:Nat} {a b:World} (h:Below D a b) (n:Nat):Below D a (b.drewN n):=⟨h.os,h.tape,h.output,h.size,h.block⟩
theorem unseenWalk (a0:Int) (a1:Option Addr) (len1 cap1:Nat) (z1:List Int) (a2:Option Addr) (len2 cap2:Nat) (z2:List Int) (w:World)
  (hlo:-9223372036854775808≤a0) (hhi:a0≤9223372036854775807) (hl1:len1≤maxLen) (hr1:RawIs w a1 len1 z1) (hr2:RawIs w a2 len2 z2) :
  Calls Tryz.prog 7 #[.int .i64 a0,.slice a1 len1 cap1,.slice a2 len2 cap2] w fun e w'=>e=.returned (.bool true)∧Below w.heap.size w w':=by
 have HL1:Hid (len1≤maxLen):=hl1
 have HR1:Hid (RawIs w a1 len1 z1):=hr1
 have HR2:Hid (RawIs w a2 len2 z2):=hr2
 clear hl1 hr1 hr2
 go_enter Tryz.func7, Tryz.ntmps7
 go_wp2_with fail
 refine (pickL a0 12 w (by omega) (by omega) hlo hhi).mono ?_
 rintro e w ⟨r,hr,rfl,rfl⟩
 clear hlo hhi
 go_wp2_with fail
 have hN:(2+(r:Int))=((2+r:Nat):Int):=by omega
 rw [hN]
 clear hN
 have hN1:2≤2+r:=by omega
 have hN2:2+r≤13:=by omega
 clear hr
 generalize 2+r=N at *
 refine (madeL w N a1 len1 cap1 z1 (by omega) HL1.out HR1.out).mono ?_
 rintro e w1 ⟨gb,nb,c,kd,mp,rfl,hM1,hB1⟩
 have HM1:Hid _:=hM1
 have HB1:Hid (Below w.heap.size w w1):=hB1
 clear hM1 hB1
 go_wp2_with fail
 refine (madeL w1 N a1 len1 cap1 z1 (by omega) HL1.out (HR1.out.below HB1.out)).mono ?_
 rintro e w2 ⟨hb,nb',c',kd',mp',rfl,hM2,hB2⟩
 have HD0:Hid (Duo w w2 gb hb N (kkR len1 z1) (tgR len1 z1) t0 t0 (fun _ _=>False) 2):=two_made HM1.out HB1.out hM2 hB2
 clear hM2 hB2 HM1 HB1
 go_wp2_with fail
 refine (firstD HD0.out (by omega) (kkR_ne len1 z1) (kkR_one len1 z1) hN1).mono ?_
 rintro e w3 ⟨rfl,hD⟩
 have HD1:Hid (Duo w w3 gb hb N (kkR len1 z1) (tgR len1 z1) t1 t0 (fun _ _=>False) 4):=hD
 clear hD HD0
 go_wp2_with fail
 refine (firstD HD1.out.symm (by omega) (kkR_ne len1 z1) (kkR_one len1 z1) hN1).mono ?_
 rintro e w4 ⟨rfl,hD⟩
 have HD2:Hid (Duo w w4 gb hb N (kkR len1 z1) (tgR len1 z1) t1 t1 (fun _ _=>False) 6):=hD.symm
 clear hD HD1
 go_wp2_with fail
 obtain ⟨rb,hrb⟩:∃ rb,rb=w4.heap.size:=⟨_,rfl⟩
 have HD3:Hid (Duo w (w4.alloc (.cells #[.string ⟨#[98]⟩,.int .i64 2,.string ⟨#[99]⟩,.int .i64 3] 32)) gb hb N (kkR len1 z1) (tgR len1 z1) t1 t1 (rulesAt rb) 6):=HD2.out.new _ (rulesAt rb) (fun i b hi=>⟨hi.1.trans hrb,hi.2⟩)
 clear HD2
 rw [← hrb]
 generalize w4.alloc (.cells #[.string ⟨#[98]⟩,.int .i64 2,.string ⟨#[99]⟩,.int .i64 3] 32)=w5 at *
 clear hrb
 go_wp2_with fail
 refine (watchD HD3.out 1 1 strB (by decide)).mono ?_
 rintro e w6 ⟨⟨w6q,w6p,rfl⟩,hD⟩
 have HD4:Hid (Duo w w6 gb hb N (kkR len1 z1) (tgR len1 z1) t1 t1 (rulesAt rb) 6):=hD
 clear hD HD3
 go_wp2_with fail
 refine (watchD HD4.out.symm 1 1 strB (by decide)).mono ?_
 rintro e w7 ⟨⟨w7q,w7p,rfl⟩,hD⟩
 have HD5:Hid (Duo w w7 gb hb N (kkR len1 z1) (tgR len1 z1) t1 t1 (rulesAt rb) 6):=hD.symm
 clear hD HD4
 go_wp2_with fail
 refine (iterD HD5.out rfl 4 (by decide) (by decide) (by omega) 2).mono ?_
 rintro e w8 ⟨⟨w8q,w8p,rfl⟩,hD⟩
 have HD6:Hid (Duo w w8 gb hb N (kkR len1 z1) (tgR len1 z1) { t1 with its:=[({ root:=1,place:=1,ahead:=true },4,twoRules)] } t1 (rulesAt rb) 6):=hD
 clear hD HD5
 go_wp2_with fail
 refine (iterD HD6.out.symm rfl 4 (by decide) (by decide) (by omega) 2).mono ?_
 rintro e w9 ⟨⟨w9q,w9p,rfl⟩,hD⟩
 have HD7:Hid (Duo w w9 gb hb N (kkR len1 z1) (tgR len1 z1) { t1 with its:=[({ root:=1,place:=1,ahead:=true },4,twoRules)] } { t1 with its:=[({ root:=1,place:=1,ahead:=true },4,twoRules)] } (rulesAt rb) 6):=hD.symm
 clear hD HD6
 go_wp2_with fail
 refine (walkerD HD7.out rfl 12 (by decide) (by decide) (by omega) 2).mono ?_
 rintro e w10 ⟨⟨w10q,w10p,rfl⟩,hD⟩
 have HD8:Hid (Duo w w10 gb hb N (kkR len1 z1) (tgR len1 z1) { ({ t1 with its:=[({ root:=1,place:=1,ahead:=true },4,twoRules)] }:Tn) with ws:=[(1,12,twoRules,1)] } { t1 with its:=[({ root:=1,place:=1,ahead:=true },4,twoRules)] } (rulesAt rb) 6):=hD
 clear hD HD7
 go_wp2_with fail
 refine (walkerD HD8.out.symm rfl 12 (by decide) (by decide) (by omega) 2).mono ?_
 rintro e w11 ⟨⟨w11q,w11p,rfl⟩,hD⟩
 have HD9:Hid (Duo w w11 gb hb N (kkR len1 z1) (tgR len1 z1) { ({ t1 with its:=[({ root:=1,place:=1,ahead:=true },4,twoRules)] }:Tn) with ws:=[(1,12,twoRules,1)] } { ({ t1 with its:=[({ root:=1,place:=1,ahead:=true },4,twoRules)] }:Tn) with ws:=[(1,12,twoRules,1)] } (rulesAt rb) 6):=hD.symm
 clear hD HD8
 obtain ⟨S0,hS0⟩:=HD9.out.pair rfl rfl
 have HP0:Hid (Pair w w11 gb hb N (kkR len1 z1) (tgR len1 z1) S0 6):=hS0
 clear hS0 HD9
 go_wp2_with fail
 go_loopw [11] (fun i wx=>∃ k:Nat,k≤92∧i=.int .i64 k∧∃ S:Sn,Hid (Pair w wx gb hb N (kkR len1 z1) (tgR len1 z1) S (6+2*k))) (fun i _=>100-(intOf i).toNat)
 case atStart=>exact ⟨0,by omega,rfl,S0,HP0.out⟩
 case round =>
  obtain ⟨k,hk,rfl,S,HP⟩:=hrel
  by_cases hk2:k+2<len2
  ·have t1':(k:Int)+2<(len2:Int):=by omega
   by_cases hk90:k<90
   ·have t2':(k:Int)<90:=by omega
    rcases HR2.out with h0 | ⟨b2,off,ha2,hbs,hcs⟩
    ·omega
    subst ha2
    have D0:Hid (w.cell? ⟨b2,off+k,none⟩=some (.int .i64 (z2.getD k 0))):=(hcs k (by omega)).1
    have D1:Hid (w.cell? ⟨b2,off+(k+1),none⟩=some (.int .i64 (z2.getD (k+1) 0))):=(hcs (k+1) (by omega)).1
    have D2:Hid (w.cell? ⟨b2,off+(k+2),none⟩=some (.int .i64 (z2.getD (k+2) 0))):=(hcs (k+2) (by omega)).1
    have e1:=(hcs (k+1) (by omega)).2
    have e2:=(hcs (k+2) (by omega)).2
    have e0:=(hcs k (by omega)).2
    clear hcs
    generalize z2.getD k 0=x0 at *
    generalize z2.getD (k+1) 0=x1 at *
    generalize z2.getD (k+2) 0=x2 at *
    have d0:wr.cell? ⟨b2,off+k,none⟩=some (.int .i64 x0):=(HP.out.bel.cell (p:=⟨b2,off+k,none⟩) hbs).trans D0.out
    have d1:wr.cell? ⟨b2,off+(k+1),none⟩=some (.int .i64 x1):=(HP.out.bel.cell (p:=⟨b2,off+(k+1),none⟩) hbs).trans D1.out
    have d2:wr.cell? ⟨b2,off+(k+2),none⟩=some (.int .i64 x2):=(HP.out.bel.cell (p:=⟨b2,off+(k+2),none⟩) hbs).trans D2.out
    have p4:=pickF_lt x1 (n:=4) (by omega)
    have v0:(k:Int)<(len2:Int):=by omega
    have v00:(0:Int)≤(k:Int):=by omega
    have v1:(k:Int)+1<(len2:Int):=by omega
    have v2:(0:Int)≤(k:Int)+1:=by omega
    have v3:(0:Int)≤(k:Int)+2:=by omega
    have v4:((k:Int)+1).toNat=k+1:=by omega
    have v5:((k:Int)+2).toNat=k+2:=by omega
    have v6:IntKind.i64.wrap ((k:Int)+1)=(k:Int)+1:=IntWalk.i64_in _ (by omega)
    have v7:IntKind.i64.wrap ((k:Int)+2)=(k:Int)+2:=IntWalk.i64_in _ (by omega)
    have v8:IntKind.i64.wrap (x1.tdiv 4)=x1.tdiv 4:=IntWalk.i64_quo' x1 4 (by omega)
    have t4:=tdiv4_bounds (c:=x1) e1.1 e1.2
    go_wp2_with fail
    refine (pickX x1 4 wr (by omega) (by omega) e1.1 e1.2).mono ?_
    rintro e wr ⟨rfl,rfl⟩
    by_cases c0:pickF x1 4=0
    ·rw [c0]
     clear c0 p4
     go_wp2_with fail
     refine (stepU HP.out _).mono ?_
     rintro e k1 ⟨a,rfl,hT,hBk⟩
     have HT:Hid _:=hT k1 (Below.refl _ _)
     have n0:k1.cell? ⟨b2,off+k,none⟩=some (.int .i64 x0):=(hBk.cell (p:=⟨b2,off+k,none⟩) hbs).trans D0.out
     clear hT hBk
     go_wp2_with fail
     refine Calls.mono HT.out ?_
     rintro e k2 ⟨rfl,S',hP⟩
     have HP2:Hid (Pair w k2 gb hb N (kkR len1 z1) (tgR len1 z1) S' (6+2*k+2)):=hP
     clear hP HT n0
     go_wp2_with fail
     refine (lenU HP2.out 1).mono ?_
     rintro e l1 ⟨⟨q1,q2,rfl⟩,hP⟩
     have L1:Hid (Pair w l1 gb hb N (kkR len1 z1) (tgR len1 z1) S' (6+2*k+2)):=hP
     have z0:l1.cell? ⟨b2,off+k,none⟩=some (.int .i64 x0):=(hP.bel.cell (p:=⟨b2,off+k,none⟩) hbs).trans D0.out
     clear hP
     go_wp2_with fail
     refine (pickX x0 5 l1 (by omega) (by omega) e0.1 e0.2).mono ?_
     rintro e l1 ⟨rfl,rfl⟩
     go_wp2_with fail
     refine (itemU L1.out 1 _).mono ?_
     rintro e l2 ⟨⟨q3,q4,rfl⟩,hP⟩
     have L2:Hid (Pair w l2 gb hb N (kkR len1 z1) (tgR len1 z1) S' (6+2*k+2)):=hP
     clear hP z0
     go_wp2_with fail
     refine (namedU L2.out 1 ⟨#[120]⟩).mono ?_
     rintro e l3 ⟨⟨q5,q6,rfl⟩,hP⟩
     have L3:Hid (Pair w l3 gb hb N (kkR len1 z1) (tgR len1 z1) S' (6+2*k+2)):=hP
     clear hP
     go_wp2_with fail
     refine (byIdU L3.out 1 ⟨#[120]⟩).mono ?_
     rintro e l4 ⟨⟨q7,q8,rfl⟩,hP⟩
     have L4:Hid (Pair w l4 gb hb N (kkR len1 z1) (tgR len1 z1) S' (6+2*k+2)):=hP
     clear hP
     go_wp2_with fail
     refine (atU L4.out).mono ?_
     rintro e l5 ⟨rfl,hP⟩
     have L5:Hid (Pair w l5 gb hb N (kkR len1 z1) (tgR len1 z1) S' (6+2*k+2)):=hP
     clear hP
     go_wp2_with fail
     refine (hereU L5.out).mono ?_
     rintro e l5 ⟨rfl,rfl⟩
     go_wp2_with fail
     go_roundw
     case rel=>exact ⟨k+3,by omega,by go_num,S',L5.out.up (by omega)⟩
     case measure=>simp [intOf];omega
    ·by_cases c1:pickF x1 4=1
     ·rw [c1]
      clear c0 c1 p4
      have p7:=pickF_lt x0 (n:=7) (by omega)
      go_wp2_with fail
      refine (pickX x0 7 wr (by omega) (by omega) e0.1 e0.2).mono ?_
      rintro e wr ⟨rfl,rfl⟩
      go_wp2_with fail
      rw [show (1+((pickF x0 7:Nat):Int))=((1+pickF x0 7:Nat):Int) from by omega]
      refine (moveU HP.out (1+pickF x0 7) (by omega) (by omega)).mono ?_
      rintro e k1 ⟨a,rfl,hT,hBk⟩
      have HT:Hid _:=hT k1 (Below.refl _ _)
      have n0:k1.cell? ⟨b2,off+k,none⟩=some (.int .i64 x0):=(hBk.cell (p:=⟨b2,off+k,none⟩) hbs).trans D0.out
      clear hT hBk
      go_wp2_with fail
      refine (pickX x0 7 k1 (by omega) (by omega) e0.1 e0.2).mono ?_
      rintro e k1 ⟨rfl,rfl⟩
      go_wp2_with fail
      rw [show (1+((pickF x0 7:Nat):Int))=((1+pickF x0 7:Nat):Int) from by omega]
      refine Calls.mono HT.out ?_
      rintro e k2 ⟨rfl,S',hP⟩
      have HP2:Hid (Pair w k2 gb hb N (kkR len1 z1) (tgR len1 z1) S' (6+2*k+2)):=hP
      clear hP HT n0 p7
      go_wp2_with fail
      refine (lenU HP2.out 1).mono ?_
      rintro e l1 ⟨⟨q1,q2,rfl⟩,hP⟩
      have L1:Hid (Pair w l1 gb hb N (kkR len1 z1) (tgR len1 z1) S' (6+2*k+2)):=hP
      have z0:l1.cell? ⟨b2,off+k,none⟩=some (.int .i64 x0):=(hP.bel.cell (p:=⟨b2,off+k,none⟩) hbs).trans D0.out
      clear hP
      go_wp2_with fail
      refine (pickX x0 5 l1 (by omega) (by omega) e0.1 e0.2).mono ?_
      rintro e l1 ⟨rfl,rfl⟩
      go_wp2_with fail
      refine (itemU L1.out 1 _).mono ?_
      rintro e l2 ⟨⟨q3,q4,rfl⟩,hP⟩
      have L2:Hid (Pair w l2 gb hb N (kkR len1 z1) (tgR len1 z1) S' (6+2*k+2)):=hP
      clear hP z0
      go_wp2_with fail
      refine (namedU L2.out 1 ⟨#[120]⟩).mono ?_
      rintro e l3 ⟨⟨q5,q6,rfl⟩,hP⟩
      have L3:Hid (Pair w l3 gb hb N (kkR len1 z1) (tgR len1 z1) S' (6+2*k+2)):=hP
      clear hP
      go_wp2_with fail
      refine (byIdU L3.out 1 ⟨#[120]⟩).mono ?_
      rintro e l4 ⟨⟨q7,q8,rfl⟩,hP⟩
      have L4:Hid (Pair w l4 gb hb N (kkR len1 z1) (tgR len1 z1) S' (6+2*k+2)):=hP
      clear hP
      go_wp2_with fail
      refine (atU L4.out).mono ?_
      rintro e l5 ⟨rfl,hP⟩
      have L5:Hid (Pair w l5 gb hb N (kkR len1 z1) (tgR len1 z1) S' (6+2*k+2)):=hP
      clear hP
      go_wp2_with fail
      refine (hereU L5.out).mono ?_
      rintro e l5 ⟨rfl,rfl⟩
      go_wp2_with fail
      go_roundw
      case rel=>exact ⟨k+3,by omega,by go_num,S',L5.out.up (by omega)⟩
      case measure=>simp [intOf];omega
     ·have c0':(((pickF x1 4:Nat):Int) == 0)=false:=by simp;omega
      have c1':(((pickF x1 4:Nat):Int) == 1)=false:=by simp;omega
      clear c0 c1
      generalize pickF x1 4=pk at *
      go_wp2_with fail
      go_region_held3 (fun wx=>wx.cell? ⟨b2,off+(k+2),none⟩=some (.int .i64 x2)∧wx.cell? ⟨b2,off+(k+1),none⟩=some (.int .i64 x1)∧wx.cell? ⟨b2,off+k,none⟩=some (.int .i64 x0)) (first | exact ⟨d2,d1,d0⟩ | exact ⟨y2,y1,y0⟩ | go_keep) ((go_at_call 17;refine (changeU (HP.out.since (w':=wr.drew) (Below.refl _ _).drew) (kkR_ne len1 z1) (by omega) (by omega) x0 (x1.tdiv 4) x2 e0 t4 e2).mono ?_;rintro e k1 ⟨rfl,hT,hBk⟩;have y2:k1.cell? ⟨b2,off+(k+2),none⟩=some (.int .i64 x2):=(hBk.cell (p:=⟨b2,off+(k+2),none⟩) hbs).trans D2.out;have y1:k1.cell? ⟨b2,off+(k+1),none⟩=some (.int .i64 x1):=(hBk.cell (p:=⟨b2,off+(k+1),none⟩) hbs).trans D1.out;have y0:k1.cell? ⟨b2,off+k,none⟩=some (.int .i64 x0):=(hBk.cell (p:=⟨b2,off+k,none⟩) hbs).trans D0.out;have HT:Hid _:=hT k1.drew (Below.refl _ _).drew;clear hT hBk))
      all_goals
       go_wp2_with fail
       go_region_held3 (fun wx=>wx.cell? ⟨b2,off+(k+2),none⟩=some (.int .i64 x2)∧wx.cell? ⟨b2,off+(k+1),none⟩=some (.int .i64 x1)∧wx.cell? ⟨b2,off+k,none⟩=some (.int .i64 x0)) (first | exact ⟨y2,y1,y0⟩ | exact ⟨u2,u1,u0⟩ | go_keep) ((go_at_call 17;refine Calls.mono HT.out ?_;rintro e k2 ⟨rfl,S',hP⟩;have u2:k2.cell? ⟨b2,off+(k+2),none⟩=some (.int .i64 x2):=(hP.bel.cell (p:=⟨b2,off+(k+2),none⟩) hbs).trans D2.out;have u1:k2.cell? ⟨b2,off+(k+1),none⟩=some (.int .i64 x1):=(hP.bel.cell (p:=⟨b2,off+(k+1),none⟩) hbs).trans D1.out;have u0:k2.cell? ⟨b2,off+k,none⟩=some (.int .i64 x0):=(hP.bel.cell (p:=⟨b2,off+k,none⟩) hbs).trans D0.out;have HP2:Hid (Pair w k2 gb hb N (kkR len1 z1) (tgR len1 z1) S' (6+2*k+2)):=hP;clear hP HT))
       all_goals
        clear u2 u1 u0 y2 y1 y0
        go_wp2_with fail
        refine (lenU HP2.out 1).mono ?_
        rintro e l1 ⟨⟨q1,q2,rfl⟩,hP⟩
        have L1:Hid (Pair w l1 gb hb N (kkR len1 z1) (tgR len1 z1) S' (6+2*k+2)):=hP
        have z0:l1.cell? ⟨b2,off+k,none⟩=some (.int .i64 x0):=(hP.bel.cell (p:=⟨b2,off+k,none⟩) hbs).trans D0.out
        clear hP
        go_wp2_with fail
        refine (pickX x0 5 l1 (by omega) (by omega) e0.1 e0.2).mono ?_
        rintro e l1 ⟨rfl,rfl⟩
        go_wp2_with fail
        refine (itemU L1.out 1 _).mono ?_
        rintro e l2 ⟨⟨q3,q4,rfl⟩,hP⟩
        have L2:Hid (Pair w l2 gb hb N (kkR len1 z1) (tgR len1 z1) S' (6+2*k+2)):=hP
        clear hP z0
        go_wp2_with fail
        refine (namedU L2.out 1 ⟨#[120]⟩).mono ?_
        rintro e l3 ⟨⟨q5,q6,rfl⟩,hP⟩
        have L3:Hid (Pair w l3 gb hb N (kkR len1 z1) (tgR len1 z1) S' (6+2*k+2)):=hP
        clear hP
        go_wp2_with fail
        refine (byIdU L3.out 1 ⟨#[120]⟩).mono ?_
        rintro e l4 ⟨⟨q7,q8,rfl⟩,hP⟩
        have L4:Hid (Pair w l4 gb hb N (kkR len1 z1) (tgR len1 z1) S' (6+2*k+2)):=hP
        clear hP
        go_wp2_with fail
        refine (atU L4.out).mono ?_
        rintro e l5 ⟨rfl,hP⟩
        have L5:Hid (Pair w l5 gb hb N (kkR len1 z1) (tgR len1 z1) S' (6+2*k+2)):=hP
        clear hP
        go_wp2_with fail
        refine (hereU L5.out).mono ?_
        rintro e l5 ⟨rfl,rfl⟩
        go_wp2_with fail
        go_roundw
        case rel=>exact ⟨k+3,by omega,by go_num,S',L5.out.up (by omega)⟩
        case measure=>simp [intOf];omega
   ·have t2':¬ (k:Int)<90:=by omega
    go_wp2_with fail
    have HF0:Hid (Pair w wr gb hb N (kkR len1 z1) (tgR len1 z1) S (300)):=HP.out.up (by omega)
    go_loopg [20] N (fun m i wx=>∃ j:Nat,i=.int .i64 j∧m+j=N+1∧1≤j∧Hid (Pair w wx gb hb N (kkR len1 z1) (tgR len1 z1) S (300)))
    case atStart=>exact ⟨1,rfl,by omega,Nat.le_refl _,HF0.out⟩
    case round =>
     obtain ⟨j,rfl,hm,hj1,HJ⟩:=hrel
     by_cases hjN:j≤N
     ·have hjI:(j:Int)≤(N:Int):=by omega
      go_wp2_with fail
      refine (withinU HJ.out j hj1 hjN).mono ?_
      rintro e m1 ⟨v1,rfl,ho1,hb1,hP1,hlen⟩
      have M1:Hid (Pair w m1 gb hb N (kkR len1 z1) (tgR len1 z1) S (300)):=hP1
      obtain ⟨ao1,cp1,rfl,hn1⟩:=found_form ho1
      have N1:Hid (Nums m1 ao1 (P N S.K j).length (P N S.K j)):=hn1
      clear ho1 hb1 hP1 hn1
      go_wp2_with fail
      refine (withinU M1.out.symm j hj1 hjN).mono ?_
      rintro e m2 ⟨v2,rfl,ho2,hb2,hP2,-⟩
      have M2:Hid (Pair w m2 gb hb N (kkR len1 z1) (tgR len1 z1) S (300)):=hP2.symm
      obtain ⟨ao2,cp2,rfl,hn2⟩:=found_form ho2
      have N2:Hid (Nums m2 ao2 (P N S.K j).length (P N S.K j)):=hn2
      have B2:Hid (Below m1.heap.size m1 m2):=hb2
      clear ho2 hb2 hP2 hn2
      go_wp2_with fail
      refine (parentU M2.out j hj1 hjN).mono ?_
      rintro e m2 ⟨rfl,rfl⟩
      go_wp2_with fail
      refine (parentU M2.out.symm j hj1 hjN).mono ?_
      rintro e m2 ⟨rfl,rfl⟩
      generalize P N S.K j=pl at *
      generalize S.s.par j=pj at *
      go_wp2_with fail
      go_loopg [27] pl.length (fun m i wx=>∃ q:Nat,i=.int .i64 q∧m+q=pl.length∧Hid (Below m2.heap.size m2 wx))
      case atStart=>exact ⟨0,rfl,by omega,Below.refl _ _⟩
      case round =>
       obtain ⟨q,rfl,hmq,HBq⟩:=hrel
       by_cases hq:q<pl.length
       ·have hqI:(q:Int)<((pl.length:Nat):Int):=by omega
        rcases N1.out with h0 | ⟨g1,rfl,hg1,hc1⟩
        ·omega
        rcases N2.out with h0 | ⟨g2,rfl,hg2,hc2⟩
        ·omega
        have y1:wr.cell? ⟨g1,q,none⟩=some (.int .i64 (pl.getD q 0:Nat)):=(HBq.out.cell (p:=⟨g1,q,none⟩) (Nat.lt_of_lt_of_le hg1 B2.out.size)).trans ((B2.out.cell (p:=⟨g1,q,none⟩) hg1).trans (hc1 q hq))
        have y2:wr.cell? ⟨g2,q,none⟩=some (.int .i64 (pl.getD q 0:Nat)):=(HBq.out.cell (p:=⟨g2,q,none⟩) hg2).trans (hc2 q hq)
        clear hc1 hc2
        generalize pl.getD q 0=vq at *
        go_wp2_with fail
        go_quiet (fail)
        go_wp2_with fail
        go_roundg (gk-1)
        case measure=>omega
        case rel=>exact ⟨q+1,by go_num,by omega,below_drews HBq.out _⟩
       ·have hqI:¬ (q:Int)<((pl.length:Nat):Int):=by omega
        go_wp2_with fail
        go_roundg (N-j)
        case measure=>omega
        case rel=>exact ⟨j+1,by go_num,by omega,by omega,M2.out.since HBq.out⟩
     ·have hjI:¬ (j:Int)≤(N:Int):=by omega
      obtain ⟨hp1,hp2⟩:=HJ.out.pos
      have hp1':(0:Int)<((S.spot.place:Nat):Int):=by omega
      have hp2':(0:Int)<((S.here:Nat):Int):=by omega
      go_wp2_with fail
      refine (atU HJ.out).mono ?_
      rintro e m1 ⟨rfl,hP⟩
      have M1:Hid (Pair w m1 gb hb N (kkR len1 z1) (tgR len1 z1) S (300)):=hP
      clear hP
      go_wp2_with fail
      refine (atU M1.out.symm).mono ?_
      rintro e m2 ⟨rfl,hP⟩
      have M2:Hid (Pair w m2 gb hb N (kkR len1 z1) (tgR len1 z1) S (300)):=hP.symm
      clear hP
      go_wp2_with fail
      refine (hereU M2.out).mono ?_
      rintro e m2 ⟨rfl,rfl⟩
      go_wp2_with fail
      refine (hereU M2.out.symm).mono ?_
      rintro e m2 ⟨rfl,rfl⟩
      go_wp2_with fail
      go_ret
      exact ⟨ret_bool (decide_eq_true hp2),M2.out.bel⟩
  ·have t1':¬ (k:Int)+2<(len2:Int):=by omega
   go_wp2_with fail
   have HF0:Hid (Pair w wr gb hb N (kkR len1 z1) (tgR len1 z1) S (300)):=HP.out.up (by omega)
   go_loopg [20] N (fun m i wx=>∃ j:Nat,i=.int .i64 j∧m+j=N+1∧1≤j∧Hid (Pair w wx gb hb N (kkR len1 z1) (tgR len1 z1) S (300)))
   case atStart=>exact ⟨1,rfl,by omega,Nat.le_refl _,HF0.out⟩
   case round =>
    obtain ⟨j,rfl,hm,hj1,HJ⟩:=hrel
    by_cases hjN:j≤N
    ·have hjI:(j:Int)≤(N:Int):=by omega
     go_wp2_with fail
     refine (withinU HJ.out j hj1 hjN).mono ?_
     rintro e m1 ⟨v1,rfl,ho1,hb1,hP1,hlen⟩
     have M1:Hid (Pair w m1 gb hb N (kkR len1 z1) (tgR len1 z1) S (300)):=hP1
     obtain ⟨ao1,cp1,rfl,hn1⟩:=found_form ho1
     have N1:Hid (Nums m1 ao1 (P N S.K j).length (P N S.K j)):=hn1
     clear ho1 hb1 hP1 hn1
     go_wp2_with fail
     refine (withinU M1.out.symm j hj1 hjN).mono ?_
     rintro e m2 ⟨v2,rfl,ho2,hb2,hP2,-⟩
     have M2:Hid (Pair w m2 gb hb N (kkR len1 z1) (tgR len1 z1) S (300)):=hP2.symm
     obtain ⟨ao2,cp2,rfl,hn2⟩:=found_form ho2
     have N2:Hid (Nums m2 ao2 (P N S.K j).length (P N S.K j)):=hn2
     have B2:Hid (Below m1.heap.size m1 m2):=hb2
     clear ho2 hb2 hP2 hn2
     go_wp2_with fail
     refine (parentU M2.out j hj1 hjN).mono ?_
     rintro e m2 ⟨rfl,rfl⟩
     go_wp2_with fail
     refine (parentU M2.out.symm j hj1 hjN).mono ?_
     rintro e m2 ⟨rfl,rfl⟩
     generalize P N S.K j=pl at *
     generalize S.s.par j=pj at *
     go_wp2_with fail
     go_loopg [27] pl.length (fun m i wx=>∃ q:Nat,i=.int .i64 q∧m+q=pl.length∧Hid (Below m2.heap.size m2 wx))
     case atStart=>exact ⟨0,rfl,by omega,Below.refl _ _⟩
     case round =>
      obtain ⟨q,rfl,hmq,HBq⟩:=hrel
      by_cases hq:q<pl.length
      ·have hqI:(q:Int)<((pl.length:Nat):Int):=by omega
       rcases N1.out with h0 | ⟨g1,rfl,hg1,hc1⟩
       ·omega
       rcases N2.out with h0 | ⟨g2,rfl,hg2,hc2⟩
       ·omega
       have y1:wr.cell? ⟨g1,q,none⟩=some (.int .i64 (pl.getD q 0:Nat)):=(HBq.out.cell (p:=⟨g1,q,none⟩) (Nat.lt_of_lt_of_le hg1 B2.out.size)).trans ((B2.out.cell (p:=⟨g1,q,none⟩) hg1).trans (hc1 q hq))
       have y2:wr.cell? ⟨g2,q,none⟩=some (.int .i64 (pl.getD q 0:Nat)):=(HBq.out.cell (p:=⟨g2,q,none⟩) hg2).trans (hc2 q hq)
       clear hc1 hc2
       generalize pl.getD q 0=vq at *
       go_wp2_with fail
       go_quiet (fail)
       go_wp2_with fail
       go_roundg (gk-1)
       case measure=>omega
       case rel=>exact ⟨q+1,by go_num,by omega,below_drews HBq.out _⟩
      ·have hqI:¬ (q:Int)<((pl.length:Nat):Int):=by omega
       go_wp2_with fail
       go_roundg (N-j)
       case measure=>omega
       case rel=>exact ⟨j+1,by go_num,by omega,by omega,M2.out.since HBq.out⟩
    ·have hjI:¬ (j:Int)≤(N:Int):=by omega
     obtain ⟨hp1,hp2⟩:=HJ.out.pos
     have hp1':(0:Int)<((S.spot.place:Nat):Int):=by omega
     have hp2':(0:Int)<((S.here:Nat):Int):=by omega
     go_wp2_with fail
     refine (atU HJ.out).mono ?_
     rintro e m1 ⟨rfl,hP⟩
     have M1:Hid (Pair w m1 gb hb N (kkR len1 z1) (tgR len1 z1) S (300)):=hP
     clear hP
     go_wp2_with fail
     refine (atU M1.out.symm).mono ?_
     rintro e m2 ⟨rfl,hP⟩
     have M2:Hid (Pair w m2 gb hb N (kkR len1 z1) (tgR len1 z1) S (300)):=hP.symm
     clear hP
     go_wp2_with fail
     refine (hereU M2.out).mono ?_
     rintro e m2 ⟨rfl,rfl⟩
     go_wp2_with fail
     refine (hereU M2.out.symm).mono ?_
     rintro e m2 ⟨rfl,rfl⟩
     go_wp2_with fail
     go_ret
     exact ⟨ret_bool (decide_eq_true hp2),M2.out.bel⟩
end Go.Proofs.YtcedebpoihcbdaaGreatDoor
