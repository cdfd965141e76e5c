/-
  The law's play: a script, step by step, and the look at all in the end.
-/
import Derived.Test.YtcedebpoihcbdaaGreatDoorD7
import Derived.Deep.RegionHeld3
set_option linter.unusedVariables false
set_option maxHeartbeats 4000000
set_option maxRecDepth 100000
namespace Go.Proofs.YtcedebpoihcbdaaGreatDoor
open Go.RowKit Go.Shelf Gv
theorem pickLaw (c:Int) (n:Nat) (w:World) (h1:1≤n) (h2:n≤1000000000000) (hlo:-9223372036854775808≤c) (hhi:c≤9223372036854775807) :
  Calls Tryz.prog 28 #[.int .i64 c,.int .i64 n] w fun e w'=>e=.returned (.int .i64 (pickF c n:Nat))∧w'=w:=by
 have hn0:((n:Int) == 0)=false:=by simp;omega
 by_cases hc:c<0
 ·go_enter Tryz.func28, Tryz.ntmps28
  go_wp2
  go_ret
  have e0:-((c+1).tmod (n:Int))=-(c+1) % (n:Int):=by rw [← Int.neg_tmod,Int.tmod_eq_emod_of_nonneg (by omega)]
  refine ⟨ret_int ?_,rfl⟩
  rw [e0]
  unfold pickF
  rw [if_pos hc,Int.natCast_emod,Int.toNat_of_nonneg (by omega)]
 ·have hc':0≤c:=by omega
  go_enter Tryz.func28, Tryz.ntmps28
  go_wp2
  go_ret
  refine ⟨ret_int ?_,rfl⟩
  unfold pickF
  rw [if_neg (by omega),Int.natCast_emod,Int.toNat_of_nonneg (by omega)]
section
variable {W W1 W' wr:World} {D wb last c k:Nat} {l:La}
theorem looksE (h:LInv W D wb last c l) (hc:c≤50000000000) :
  Calls Tryz.prog 29 #[.pointer (some ⟨wb,2,none⟩)] W fun e W'=>e=.returned (.bool true)∧∃ l',LInv W' D wb last c l'∧l'.gs=l.gs∧Below D W W':=by
 have hf:=h.few
 refine (looksL h.q h.h (by omega)).mono ?_
 rintro e W' ⟨rfl,n',iv',wv',ev',es',ws',hH,hn,_,hQ,hF,hO⟩
 have:=h.law (c':=c) hH hQ hF (fun b hb=>(hO b hb).elim (fun e=>.inl (.inl e)) (fun e=>.inr (.inr e))) (by omega) (Nat.le_refl _)
 exact ⟨rfl,_,this.1,rfl,this.2⟩
theorem settlesE (h:LInv W D wb last c l) (hc:c≤50000000000) :
  Calls Tryz.prog 31 #[.pointer (some ⟨wb,2,none⟩)] W fun e W'=>e=.returned (.bool true)∧Below D W W':=by
 have hf:=h.few
 refine (settlesL h.q h.h (by omega)).mono ?_
 rintro e W' ⟨rfl,iv',es',hH,hQ,hF,hO⟩
 exact ⟨rfl,hF.below h.lowD (fun b hb=>h.h.low hb)⟩
def La.first:La:={ gsv:=(.slice none 0 0,.slice none 0 0),rsv:=.slice none 0 0,n:=0,iv:=.slice none 0 0,wv:=.slice none 0 0,ev:=.slice none 0 0,es:=[],ws:=[],qs:=[],gs:=[],rs:=[],col:=fun _=>0 }
theorem law_start (W:World) (last:Nat):LInv (W.alloc (.cells #[.slice none 0 0,.slice none 0 0,.int .i64 0,.slice none 0 0,.slice none 0 0,.slice none 0 0,.slice none 0 0] 55)) W.heap.size W.heap.size last 0 La.first:=by
 have hb:=heap_alloc_new W (.cells #[.slice none 0 0,.slice none 0 0,.int .i64 0,.slice none 0 0,.slice none 0 0,.slice none 0 0,.slice none 0 0] 55)
 refine ⟨⟨hb,Nat.le_refl _,World.ownsRow_nil _ _ _ _,World.ownsRow_nil _ _ _ _,World.ownsRow_nil _ _ _ _,fun b hb=>by simp [La.first,Value.ownBlock] at hb,fun x hx=>by simp [La.first] at hx,fun x hx=>by simp [La.first] at hx,fun i j x y _ hx=>by simp [La.first] at hx,fun x hx=>by simp [La.first] at hx,fun x hx=>by simp [La.first] at hx,by simp [La.first]⟩,QInv.nil _ _,World.ownsRow_nil _ _ _ _,World.ownsRow_nil _ _ _ _,rfl,fun k g r hg=>by simp [La.first] at hg,fun _ _=>rfl,fun k g hg=>by simp [La.first] at hg,fun k r hr=>by simp [La.first] at hr,fun r hr=>by simp [La.first] at hr,by simp [La.first],by simp [La.first],by simp [La.first],fun x hx=>by simp [La.first] at hx⟩
def Run (W:World) (D wb last c:Nat) (wr:World):Prop:=∃ l,LInv wr D wb last c l∧1≤l.gs.length∧Below D W wr
def ScriptIn (W:World) (sa:Option Addr) (n:Nat):Prop :=
 n=0∨∃ b off,sa=some ⟨b,off,none⟩∧b<W.heap.size∧∀ i,i<n→∃ (kind a b' c' g':Int) (s t:ByteArray) (ra:Option Addr) (rn rc:Nat) (y:Bool),
  (W.cell? ⟨b,off+i*9,none⟩=some (.int .i64 kind)∧W.cell? ⟨b,off+i*9+1,none⟩=some (.int .i64 a)∧W.cell? ⟨b,off+i*9+2,none⟩=some (.int .i64 b')∧W.cell? ⟨b,off+i*9+3,none⟩=some (.int .i64 c')∧W.cell? ⟨b,off+i*9+4,none⟩=some (.int .i64 g') ∧
    W.cell? ⟨b,off+i*9+5,none⟩=some (.string s)∧W.cell? ⟨b,off+i*9+6,none⟩=some (.string t)∧W.cell? ⟨b,off+i*9+7,none⟩=some (.slice ra rn rc)∧W.cell? ⟨b,off+i*9+8,none⟩=some (.bool y)) ∧
  -9223372036854775808≤g'∧g'≤9223372036854775807∧OpOK W W.heap.size s t ra rn rc
theorem Run.more {c':Nat} (h:Run W D wb last c wr) (hc:c≤c'):Run W D wb last c' wr:=by
 obtain ⟨l,h1,h2,h3⟩:=h
 exact ⟨l,h1.more hc,h2,h3⟩
theorem LInv.gslen (h:LInv W D wb last c l):∃ ga gc,l.gsv.1=.slice ga l.gs.length gc∧W.cell? ⟨wb,0,none⟩=some (.slice ga l.gs.length gc):=by
 obtain ⟨ga,gc,e1,_,_⟩:=rowForm h.gr
 exact ⟨ga,gc,e1,by rw [← e1];exact law_cell h.h.w 0⟩
theorem Law.gslen (h:Law W D wb last c l wr):∃ ga gc,wr.cell? ⟨wb,0,none⟩=some (.slice ga l.gs.length gc):=by
 obtain ⟨l',h1,h2,_⟩:=h
 obtain ⟨ga,gc,_,e⟩:=h1.gslen
 rw [gs_len h2] at e
 exact ⟨ga,gc,e⟩
theorem Law.ends (hS:StepOK last) (hN:LenOK last) (hlast:last=6∨last=13∨last=16∨last=20) (h:Law W D wb last c l wr) (hk:k<l.gs.length) (hc:c≤30000000000) :
  Calls Tryz.prog 30 #[.pointer (some ⟨wb,0,none⟩),.int .i64 k] wr fun e W'=>e=.returned (.bool true)∧Law W D wb last (c+40000) l W':=by
 obtain ⟨l',h1,h2,h3,h4⟩:=h
 refine (endsL hS hN hlast h1 (by rw [gs_len h2];exact hk) hc).mono ?_
 rintro e w' ⟨rfl,l2,k1,k2,k3,k4⟩
 exact ⟨rfl,l2,k1,k2.trans h2,k3.trans h3,h4.trans k4⟩
theorem Law.settles (h:Law W D wb last c l wr) (hc:c≤50000000000) :
  Calls Tryz.prog 31 #[.pointer (some ⟨wb,2,none⟩)] wr fun e W'=>e=.returned (.bool true)∧Below D W W':=by
 obtain ⟨l',h1,h2,h3,h4⟩:=h
 refine (settlesE h1 hc).mono ?_
 rintro e w' ⟨rfl,hb⟩
 exact ⟨rfl,h4.trans hb⟩
theorem OpOK.word (W:World) (D:Nat) (s:ByteArray) (hs:s.size≤1048576):OpOK W D s ByteArray.empty Option.none 0 0:=⟨hs,by decide,.inl ⟨rfl,rfl,rfl⟩⟩
end
theorem playsL {last:Nat} (hS:StepOK last) (hN:LenOK last) (hlast:last=6∨last=13∨last=16∨last=20) (W:World) (sa:Option Addr) (n sc:Nat) (hn:n≤200000) (hin:ScriptIn W sa n) :
  Calls Tryz.prog 8 #[.slice sa n sc,.int .i64 last] W fun e W'=>e=.returned (.bool true)∧Below W.heap.size W W':=by
 have HS:Hid (StepOK last):=hS
 have HN:Hid (LenOK last):=hN
 have HLA:Hid (last=6∨last=13∨last=16∨last=20):=hlast
 have HIN:Hid (ScriptIn W sa n):=hin
 have H0:Hid _:=law_start W last
 have HB0:Hid (Below W.heap.size W (W.alloc (.cells #[.slice none 0 0,.slice none 0 0,.int .i64 0,.slice none 0 0,.slice none 0 0,.slice none 0 0,.slice none 0 0] 55))):=(Below.refl _ _).alloc (Nat.le_refl _) _
 clear hS hN hin
 obtain ⟨D,hD⟩:∃ D,D=W.heap.size:=⟨_,rfl⟩
 have HDD:Hid (D=W.heap.size):=hD
 go_enter Tryz.func8, Tryz.ntmps8
 go_wp2_with fail
 refine (newsL H0.out (by show 0≤_;omega)).mono ?_
 rintro e w1 ⟨rfl,l1,hL1,hg1,hb1⟩
 have hgl:0<l1.gs.length:=by omega
 have L1:Hid (Law w1 W.heap.size W.heap.size last (0+1) l1 w1):=Law.start hL1
 have HB1:Hid (Below W.heap.size W w1):=HB0.out.trans hb1
 clear hL1 hb1
 go_wp2_with fail
 refine (Law.step (k:=0) HS.out L1.out hgl (by omega) 2 2 0 0 0 ⟨#[97]⟩ ByteArray.empty none 0 0 false (OpOK.word _ _ ⟨#[97]⟩ (by decide)) (by have:=HLA.out;omega) (by omega)).mono ?_
 rintro e w2 ⟨rfl,hL2⟩
 have L2:Hid (Law w1 W.heap.size W.heap.size last (0+1+2) l1 w2):=hL2
 clear hL2
 go_wp2_with fail
 refine (Law.step (k:=0) HS.out L2.out hgl (by omega) 2 2 0 0 0 ⟨#[98]⟩ ByteArray.empty none 0 0 false (OpOK.word _ _ ⟨#[98]⟩ (by decide)) (by have:=HLA.out;omega) (by omega)).mono ?_
 rintro e w3 ⟨rfl,hL3⟩
 have L3:Hid (Law w1 W.heap.size W.heap.size last (0+1+2+2) l1 w3):=hL3
 clear hL3
 go_wp2_with fail
 refine (Law.step (k:=0) HS.out L3.out hgl (by omega) 3 1 2 0 0 ByteArray.empty ByteArray.empty none 0 0 false (OpOK.none _ _) (by have:=HLA.out;omega) (by omega)).mono ?_
 rintro e w4 ⟨rfl,l4,hL4,hm4,_,hb4⟩
 have R4:Hid (Run W W.heap.size W.heap.size last 7 w4):=⟨l4,hL4,by rw [gs_len hm4];exact hgl,HB1.out.trans hb4⟩
 clear hL4 hm4 hb4 L1 L2 L3
 go_wp2_with fail
 go_loopw [6,7] (fun o i wr=>∃ j:Nat,j≤n∧o=.bool true∧i=.int .i64 j∧Run W W.heap.size W.heap.size last (7+2*j) wr) (fun _ i _=>n-(intOf i).toNat)
 case atStart=>exact ⟨0,Nat.zero_le _,rfl,rfl,R4.out⟩
 case round =>
  obtain ⟨j,hj,rfl,rfl,hR⟩:=hrel
  obtain ⟨w5,rfl⟩:∃ w5:World,w5=wr:=⟨_,rfl⟩
  have HR:Hid (Run W W.heap.size W.heap.size last (7+2*j) w5):=hR
  clear hR R4
  by_cases hjn:j<n
  ·have hjn':(j:Int)<(n:Int):=by omega
   rcases HIN.out with h0 | ⟨b,off,rfl,hbs,hcell⟩
   ·omega
   obtain ⟨kind,xa,xb,xc,xg,s,t,ra,rn,rc,y,⟨e0,e1,e2,e3,e4,e5,e6,e7,e8⟩,glo,ghi,hop⟩:=hcell j hjn
   obtain ⟨l,hL,hgl,hb⟩:=HR.out
   have d0:w5.cell? ⟨b,off+j*9,none⟩=some (.int .i64 kind):=(hb.cell (p:=⟨b,_,none⟩) hbs).trans e0
   have LL:Hid (LInv w5 W.heap.size W.heap.size last (7+2*j) l):=hL
   have HB:Hid (Below W.heap.size W w5):=hb
   by_cases hkl:(last:Int)<kind
   ·clear e0 e1 e2 e3 e4 e5 e6 e7 e8 hop hcell hL hb
    go_wp2_with fail
    go_roundw
    case rel=>exact ⟨j+1,hjn,rfl,by go_num,HR.out.more (by omega)⟩
    case measure=>simp [intOf];omega
   ·by_cases hk1:kind=1
    ·subst hk1
     clear e0 e1 e2 e3 e4 e5 e6 e7 e8 hop hcell hL hb
     go_wp2_with fail
     refine (newsL LL.out (by have:=LL.out.gfew;omega)).mono ?_
     rintro e w6 ⟨rfl,l6,hL6,hg6,hb6⟩
     have LL6:Hid (LInv w6 W.heap.size W.heap.size last (7+2*j+1) l6):=hL6
     have HB6:Hid (Below W.heap.size W w6):=HB.out.trans hb6
     clear hL6 hb6 d0
     go_wp2_with fail
     refine (looksE LL6.out (by omega)).mono ?_
     rintro e w7 ⟨rfl,l7,hL7,hg7,hb7⟩
     have R7:Hid (Run W W.heap.size W.heap.size last (7+2*j+1) w7):=⟨l7,hL7,by rw [hg7];omega,HB6.out.trans hb7⟩
     clear hL7 hg7 hb7
     go_wp2_with fail
     go_roundw
     case rel=>exact ⟨j+1,hjn,rfl,by go_num,R7.out.more (by omega)⟩
     case measure=>simp [intOf];omega
    ·have hk1':(kind == 1)=false:=by simpa using hk1
     obtain ⟨ga,gc,eg,cg⟩:=LL.out.gslen
     have EG:Hid (l.gsv.1=.slice ga l.gs.length gc):=eg
     have d1:w5.cell? ⟨b,off+j*9+1,none⟩=some (.int .i64 xa):=(hb.cell (p:=⟨b,_,none⟩) hbs).trans e1
     have d2:w5.cell? ⟨b,off+j*9+2,none⟩=some (.int .i64 xb):=(hb.cell (p:=⟨b,_,none⟩) hbs).trans e2
     have d3:w5.cell? ⟨b,off+j*9+3,none⟩=some (.int .i64 xc):=(hb.cell (p:=⟨b,_,none⟩) hbs).trans e3
     have d4:w5.cell? ⟨b,off+j*9+4,none⟩=some (.int .i64 xg):=(hb.cell (p:=⟨b,_,none⟩) hbs).trans e4
     have d5:w5.cell? ⟨b,off+j*9+5,none⟩=some (.string s):=(hb.cell (p:=⟨b,_,none⟩) hbs).trans e5
     have d6:w5.cell? ⟨b,off+j*9+6,none⟩=some (.string t):=(hb.cell (p:=⟨b,_,none⟩) hbs).trans e6
     have d7:w5.cell? ⟨b,off+j*9+7,none⟩=some (.slice ra rn rc):=(hb.cell (p:=⟨b,_,none⟩) hbs).trans e7
     have d8:w5.cell? ⟨b,off+j*9+8,none⟩=some (.bool y):=(hb.cell (p:=⟨b,_,none⟩) hbs).trans e8
     have E0:Hid (W.cell? ⟨b,off+j*9,none⟩=some (.int .i64 kind)):=e0
     have E1:Hid (W.cell? ⟨b,off+j*9+1,none⟩=some (.int .i64 xa)):=e1
     have E2:Hid (W.cell? ⟨b,off+j*9+2,none⟩=some (.int .i64 xb)):=e2
     have E3:Hid (W.cell? ⟨b,off+j*9+3,none⟩=some (.int .i64 xc)):=e3
     have E4:Hid (W.cell? ⟨b,off+j*9+4,none⟩=some (.int .i64 xg)):=e4
     have E5:Hid (W.cell? ⟨b,off+j*9+5,none⟩=some (.string s)):=e5
     have E6:Hid (W.cell? ⟨b,off+j*9+6,none⟩=some (.string t)):=e6
     have E7:Hid (W.cell? ⟨b,off+j*9+7,none⟩=some (.slice ra rn rc)):=e7
     have E8:Hid (W.cell? ⟨b,off+j*9+8,none⟩=some (.bool y)):=e8
     have HOP:Hid (OpOK W W.heap.size s t ra rn rc):=hop
     have hgm:l.gs.length≤400007:=by have:=hL.gfew;omega
     have PK:Hid (∀ w:World,Calls Tryz.prog 28 #[.int .i64 xg,.int .i64 l.gs.length] w fun e w'=>e=.returned (.int .i64 (pickF xg l.gs.length:Nat))∧w'=w):=fun w=>pickLaw xg l.gs.length w hgl (by omega) glo ghi
     have hpk:=pickF_lt xg hgl
     generalize pickF xg l.gs.length=pk at *
     clear e0 e1 e2 e3 e4 e5 e6 e7 e8 hop hcell hL hb hk1 eg
     have STEP:Hid (Calls Tryz.prog 27 #[.pointer (some ⟨W.heap.size,0,none⟩),.int .i64 pk,.agg #[.int .i64 kind,.int .i64 xa,.int .i64 xb,.int .i64 xc,.int .i64 xg,.string s,.string t,.slice ra rn rc,.bool y]] w5.drew fun e w6=>e=.returned (.bool true)∧(w6.cell? ⟨W.heap.size,0,none⟩=some (.slice ga l.gs.length gc)∧w6.cell? ⟨b,off+j*9,none⟩=some (.int .i64 kind)∧w6.cell? ⟨b,off+j*9+1,none⟩=some (.int .i64 xa)∧w6.cell? ⟨b,off+j*9+2,none⟩=some (.int .i64 xb)∧w6.cell? ⟨b,off+j*9+3,none⟩=some (.int .i64 xc)∧w6.cell? ⟨b,off+j*9+4,none⟩=some (.int .i64 xg)∧w6.cell? ⟨b,off+j*9+5,none⟩=some (.string s)∧w6.cell? ⟨b,off+j*9+6,none⟩=some (.string t)∧w6.cell? ⟨b,off+j*9+7,none⟩=some (.slice ra rn rc)∧w6.cell? ⟨b,off+j*9+8,none⟩=some (.bool y))∧Run W W.heap.size W.heap.size last (7+2*j+2) w6):=by
      refine (HS.out w5.drew W.heap.size W.heap.size (7+2*j) pk l kind xa xb xc xg s t ra rn rc y (LL.out.since (Below.refl _ _).drew) hpk (by omega) (HOP.out.below (HB.out.trans ((Below.refl _ _).drew))) (by omega) (by omega)).mono ?_
      rintro e w6 ⟨rfl,l6,hL6,hm6,_,hv6,hb6'⟩
      have hb6:Below W.heap.size w5 w6:=(Below.refl _ w5).drew.trans hb6'
      have BB:Below W.heap.size W w6:=HB.out.trans hb6
      have hc:∀ i,w6.cell? ⟨b,i,none⟩=W.cell? ⟨b,i,none⟩:=fun i=>BB.cell (p:=⟨b,i,none⟩) hbs
      refine ⟨rfl,⟨?_,(hc _).trans E0.out,(hc _).trans E1.out,(hc _).trans E2.out,(hc _).trans E3.out,(hc _).trans E4.out,(hc _).trans E5.out,(hc _).trans E6.out,(hc _).trans E7.out,(hc _).trans E8.out⟩,l6,hL6,by rw [gs_len hm6];exact hgl,BB⟩
      have e0:w6.cell? ⟨W.heap.size,0,none⟩=some l6.gsv.1:=law_cell hL6.h.w 0
      rw [e0,hv6,EG.out]
     go_wp2_with fail
     go_region_held3 (fun wx=>wx.cell? ⟨W.heap.size,0,none⟩=some (.slice ga l.gs.length gc)∧wx.cell? ⟨b,off+j*9,none⟩=some (.int .i64 kind)∧wx.cell? ⟨b,off+j*9+1,none⟩=some (.int .i64 xa)∧wx.cell? ⟨b,off+j*9+2,none⟩=some (.int .i64 xb)∧wx.cell? ⟨b,off+j*9+3,none⟩=some (.int .i64 xc)∧wx.cell? ⟨b,off+j*9+4,none⟩=some (.int .i64 xg)∧wx.cell? ⟨b,off+j*9+5,none⟩=some (.string s)∧wx.cell? ⟨b,off+j*9+6,none⟩=some (.string t)∧wx.cell? ⟨b,off+j*9+7,none⟩=some (.slice ra rn rc)∧wx.cell? ⟨b,off+j*9+8,none⟩=some (.bool y)) (first | exact ⟨cg,d0,d1,d2,d3,d4,d5,d6,d7,d8⟩ | exact ⟨yg,y0,y1,y2,y3,y4,y5,y6,y7,y8⟩ | go_keep) ((first | (go_at_call 28;(with_reducible refine (PK.out _).mono ?_);rintro e wq ⟨rfl,rfl⟩) | (go_at_call 27;(with_reducible refine Calls.mono STEP.out ?_);rintro e w6 ⟨rfl,⟨yg,y0,y1,y2,y3,y4,y5,y6,y7,y8⟩,hR6⟩)))
     all_goals
      have R6:Hid (Run W W.heap.size W.heap.size last (7+2*j+2) w6):=hR6
      obtain ⟨l6,hL6,hg6,hb6⟩:=hR6
      have LL6:Hid (LInv w6 W.heap.size W.heap.size last (7+2*j+2) l6):=hL6
      have HB6:Hid (Below W.heap.size W w6):=hb6
      clear y0 y1 y2 y3 y4 y5 y6 y7 y8 yg hL6 hb6 STEP
      go_wp2_with fail
      refine (looksE LL6.out (by omega)).mono ?_
      rintro e w7 ⟨rfl,l7,hL7,hg7,hb7⟩
      have R7:Hid (Run W W.heap.size W.heap.size last (7+2*j+2) w7):=⟨l7,hL7,by rw [hg7];exact hg6,HB6.out.trans hb7⟩
      clear hL7 hg7 hb7
      go_wp2_with fail
      go_roundw
      case rel=>exact ⟨j+1,hjn,rfl,by go_num,R7.out.more (by omega)⟩
      case measure=>simp [intOf];omega
  ·have hjn':¬ (j:Int)<(n:Int):=by omega
   obtain ⟨l,hL,hgl2,hb⟩:=HR.out
   have L5:Hid (Law w5 W.heap.size W.heap.size last (7+2*n) l w5):=(Law.start hL).more (by omega)
   have HB:Hid (Below W.heap.size W w5):=hb
   have hgm:l.gs.length≤400007:=by have:=hL.gfew;omega
   clear hL hb HR
   go_wp2_with fail
   go_loopw [6,9] (fun o i wr=>∃ k:Nat,k≤l.gs.length∧o=.bool true∧i=.int .i64 k∧Law w5 W.heap.size W.heap.size last (7+2*n+40000*k) l wr) (fun _ i _=>l.gs.length-(intOf i).toNat)
   case atStart=>exact ⟨0,Nat.zero_le _,rfl,rfl,L5.out⟩
   case round =>
    obtain ⟨k,hk,rfl,rfl,hL⟩:=hrel
    obtain ⟨w6,rfl⟩:∃ w6:World,w6=wr:=⟨_,rfl⟩
    obtain ⟨ga,gc,cg⟩:=hL.gslen
    have L6:Hid (Law w5 W.heap.size W.heap.size last (7+2*n+40000*k) l w6):=hL
    clear hL L5
    by_cases hkn:k<l.gs.length
    ·have hkn':(k:Int)<(l.gs.length:Int):=by omega
     go_wp2_with fail
     refine (Law.ends HS.out HN.out HLA.out L6.out hkn (by omega)).mono ?_
     rintro e w7 ⟨rfl,hL7⟩
     have L7:Hid (Law w5 W.heap.size W.heap.size last (7+2*n+40000*k+40000) l w7):=hL7
     clear hL7 cg L6
     go_wp2_with fail
     go_roundw
     case rel=>exact ⟨k+1,hkn,rfl,by go_num,L7.out.more (by omega)⟩
     case measure=>simp [intOf];omega
    ·have hkn':¬ (k:Int)<(l.gs.length:Int):=by omega
     go_wp2_with fail
     refine (Law.settles L6.out (by omega)).mono ?_
     rintro e w7 ⟨rfl,hb7⟩
     have HB7:Hid (Below W.heap.size W w7):=HB.out.trans hb7
     clear hb7
     go_wp2_with fail
     go_ret
     exact ⟨rfl,HB7.out⟩
end Go.Proofs.YtcedebpoihcbdaaGreatDoor
