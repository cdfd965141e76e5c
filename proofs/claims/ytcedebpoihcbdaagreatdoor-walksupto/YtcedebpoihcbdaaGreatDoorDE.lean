/-
  The law's steps on walkers: Walker.
  The law's steps on walkers.
-/
import Derived.Test.YtcedebpoihcbdaaGreatDoorD15
import Derived.Deep.RegionHeld3
import Derived.Test.YtcedebpoihcbdaaGreatDoorDD
set_option linter.unusedVariables false
set_option maxHeartbeats 2000000
set_option maxRecDepth 100000
namespace Go.Proofs.YtcedebpoihcbdaaGreatDoor
open Go.RowKit Go.Shelf Gv
section
variable {W W1 W2 W3:World} {D wb last c k:Nat} {l:La} {g g':Gx} {r r':Rx}
theorem walkersWalker (h:LInv W D wb last c l) (hk:k<l.gs.length) (hk2:l.gs.length≤1000000000000) (hlast:17≤last) (hc:c≤40000000000) (a b' c' g':Int) (s t:ByteArray) (ra:Option Addr) (rn rc:Nat) (y:Bool) (ho:LentIn W D ra rn rc) :
  Calls Tryz.prog 62 #[.pointer (some ⟨wb,0,none⟩),.int .i64 k,.agg #[.int .i64 17,.int .i64 a,.int .i64 b',.int .i64 c',.int .i64 g',.string s,.string t,.slice ra rn rc,.bool y]] W (StepPost W D wb last c l):=by
 have HD:=h.lowD
 obtain ⟨rs,rfl,hrn,hnil,hin⟩:=ho.open
 have HIN:Hid (∀ W',D≤W'.heap.size→Below D W W'→RulesIn W' ra rs):=hin
 have HNIL:Hid (ra=none→rs=[]∧rc=0):=hnil
 have hB1:Below W.heap.size W (W.alloc (.cells #[.int .i64 17,.int .i64 a,.int .i64 b',.int .i64 c',.int .i64 g',.string s,.string t,.slice ra rs.length rc,.bool y] 59)):=(Below.refl _ _).alloc (Nat.le_refl _) _
 have H1:Hid (LInv (W.alloc (.cells #[.int .i64 17,.int .i64 a,.int .i64 b',.int .i64 c',.int .i64 g',.string s,.string t,.slice ra rs.length rc,.bool y] 59)) D wb last c l):=h.since hB1
 have hob:(W.alloc (.cells #[.int .i64 17,.int .i64 a,.int .i64 b',.int .i64 c',.int .i64 g',.string s,.string t,.slice ra rs.length rc,.bool y] 59)).heap[W.heap.size]?=some (.cells #[.int .i64 17,.int .i64 a,.int .i64 b',.int .i64 c',.int .i64 g',.string s,.string t,.slice ra rs.length rc,.bool y] 59 (0,0)):=heap_alloc_new W _
 have HLT:Hid (∀ b,l.own wb b→b<W.heap.size):=fun b hb=>h.ownlt hb
 obtain ⟨g,r,gg,gc,rg,rc',hg,hr,c0,c1,cg,cr⟩:=H1.out.open hk
 have o0:=cells_of hob 0
 have o7:=cells_of hob 7
 have hsz:(W.alloc (.cells #[.int .i64 17,.int .i64 a,.int .i64 b',.int .i64 c',.int .i64 g',.string s,.string t,.slice ra rs.length rc,.bool y] 59)).heap.size=W.heap.size+1:=by simp
 have HOB:Hid _:=hob
 have HB1:Hid (Below W.heap.size W (W.alloc (.cells #[.int .i64 17,.int .i64 a,.int .i64 b',.int .i64 c',.int .i64 g',.string s,.string t,.slice ra rs.length rc,.bool y] 59))):=hB1
 have HG:Hid (l.gs[k]?=some g):=hg
 have HR:Hid (l.rs[k]?=some r):=hr
 have HT0:Hid (Twin W D c g r):=h.tw k g r hg hr
 have hkl:(k:Int)<(l.gs.length:Int):=by omega
 have HFEW:Hid (l.n+l.ws.length≤2*c∧l.qs.length≤4*c):=⟨h.few,h.qf⟩
 clear hob hB1 hg hr h ho hin hnil
 go_enter Tryz.func62, Tryz.ntmps62
 go_wp2_with fail
 generalize hW1:W.alloc (.cells #[.int .i64 17,.int .i64 a,.int .i64 b',.int .i64 c',.int .i64 g',.string s,.string t,.slice ra rs.length rc,.bool y] 59)=W1 at *
 refine (lentL ra rc rs (HIN.out W1 (by omega) (HB1.out.mono HD)) (by omega) HNIL.out).mono ?_
 rintro e W2 ⟨xv,rfl,hlent⟩
 have hx:∃ (va:Option Addr) (vn vc:Nat) (zs:List Rule),xv=.slice va vn vc∧vn=zs.length∧zs.length≤1048584∧W2.ownsRow W1.heap.size 32 2 (.slice va vn vc) zs.length (zs.flatMap rrow)∧Below W1.heap.size W1 W2∧((va=none∧zs=[]∧vc=0∧rs=[])∨∃ vg,va=some ⟨vg,0,none⟩∧rs.length≤zs.length∧vc=zs.length)∧RulesIn W2 va rs∧(va=none→rs=[]∧vc=0)∧(∀ k x,zs[k]?=some x→rs[k]?=some x∨(rs.length≤k∧x=moreR)):=by
  rcases hlent with ⟨e1,e2,e3⟩ | ⟨e1,vg,e2,e3,e4⟩
  ·subst e3
   have hrs:=(HNIL.out e1).1
   subst hrs
   exact ⟨none,0,0,[],e2,rfl,by simp,World.ownsRow_nil _ _ _ _,Below.refl _ _,.inl ⟨rfl,rfl,rfl,rfl⟩,⟨.inl rfl,fun x hx=>by simp at hx⟩,fun _=>⟨rfl,rfl⟩,fun k x hx=>by simp at hx⟩
  ·have hlen:(rs++List.replicate 8 moreR).length=rs.length+8:=by simp
   refine ⟨some ⟨vg,0,none⟩,rs.length+8,rs.length+8,rs++List.replicate 8 moreR,e2,hlen.symm,by omega,by rw [hlen];exact e3,e4,.inr ⟨vg,rfl,by omega,hlen.symm⟩,⟨.inr ⟨vg,0,rfl,(e3.lt vg rfl).2,fun k x hx=>?_⟩,(HIN.out W1 (by omega) (HB1.out.mono HD)).short⟩,fun e=>(by cases e),fun k x hx=>?_⟩
   ·have hkr:=(List.getElem?_eq_some_iff.1 hx).1
    have hx2:(rs++List.replicate 8 moreR)[k]?=some x:=by rw [List.getElem?_append_left hkr];exact hx
    rw [Nat.zero_add,Nat.zero_add,e3.cellAt (k*2) (by omega),e3.cellAt (k*2+1) (by omega)]
    exact ⟨flat_at rrow_len (j:=0) hx2 (by omega),flat_at rrow_len (j:=1) hx2 (by omega)⟩
   ·by_cases hkr:k<rs.length
    ·rw [List.getElem?_append_left hkr] at hx;exact .inl hx
    ·rw [List.getElem?_append_right (by omega),List.getElem?_replicate] at hx
     split at hx
     ·exact .inr ⟨by omega,(Option.some.inj hx).symm⟩
     ·cases hx
 obtain ⟨va,vn,vc,zs,rfl,hvn,hzl,hrow,hb2,hshape,hRI,hvz,hzs⟩:=hx
 subst hvn
 have H2:Hid (LInv W2 D wb last c { l with col:=recol W1 l.col 0 }):=H1.out.made hb2
 have hs2:=hb2.size
 have hob2:W2.heap[W.heap.size]?=some (.cells #[.int .i64 17,.int .i64 a,.int .i64 b',.int .i64 c',.int .i64 g',.string s,.string t,.slice ra rs.length rc,.bool y] 59 (0,0)):=(hb2.block W.heap.size (by omega)).trans HOB.out
 have p1:=cells_of hob2 1
 have p2:=cells_of hob2 2
 have p7:=cells_of hob2 7
 have HOB2:Hid (W2.heap[W.heap.size]?=some (.cells #[.int .i64 17,.int .i64 a,.int .i64 b',.int .i64 c',.int .i64 g',.string s,.string t,.slice ra rs.length rc,.bool y] 59 (0,0))):=hob2
 have HROW:Hid (W2.ownsRow W1.heap.size 32 2 (.slice va zs.length vc) zs.length (zs.flatMap rrow)):=hrow
 have HB2:Hid (Below W.heap.size W W2):=HB1.out.trans (hb2.mono (by omega))
 have HZS:Hid (∀ k x,zs[k]?=some x→rs[k]?=some x∨(rs.length≤k∧x=moreR)):=hzs
 have HTWO:Hid (∃ _:True,Calls Tryz.prog 14 #[.pointer (some ⟨g.gb,0,none⟩),.int .i64 a,.int .i64 b',.slice va rs.length vc] W2.drew fun e w'=>∃ (x q:Int) (g':Gx),e=.returned (.tuple #[.int .i64 x,.int .i64 q])∧Post D W2.drew w' g g' ∧
   ∀ (D':Nat) (ta:Option Addr) (tc:Nat) (w3:World),w3.ownsRow D' 207 2 (.slice ta rs.length tc) rs.length (rs.flatMap rrow)→RefOK w3 r→Calls Tryz.prog 112 #[.pointer (some ⟨r.rb,0,none⟩),.int .i64 a,.int .i64 b',.slice ta rs.length tc] w3 fun e w4=>e=.returned (.tuple #[.int .i64 x,.int .i64 q])∧∃ r',RPost w3 w4 r r'∧Join D last c g' r r') :=
  ⟨trivial,twoWalker (last:=last) ((H2.out.tw k g r HG.out HR.out).keep (W':=W2.drew) (fun _ _=>rfl) (fun _ _=>rfl) (Nat.le_refl _)) hlast a b' rs va vc (by omega) (hRI.since ⟨rfl,rfl,rfl,Nat.le_refl _,fun _ _=>rfl⟩) hvz⟩
 have HSH:Hid ((va=none∧zs=[]∧vc=0∧rs=[])∨∃ vg,va=some ⟨vg,0,none⟩∧rs.length≤zs.length∧vc=zs.length):=hshape
 have hlW2:W.heap.size<W2.heap.size:=by omega
 have HP2:Hid (Post D W2 W2.drew g g):=Post.of_below (H2.out.tw k g r HG.out HR.out).gok (Below.refl _ W2).drew
 clear hlent hb2 hrow hob2 hRI hvz hzs hshape hW1 HNIL
 go_upto_region 6 with fail
 go_cut [10,11] (fun t10 t11 wx=>∃ (x q:Int) (g2:Gx),t10=.int .i64 x∧t11=.int .i64 q∧Post D W2 wx g g2 ∧
   ∀ (D':Nat) (ta:Option Addr) (tc:Nat) (w3:World),w3.ownsRow D' 207 2 (.slice ta rs.length tc) rs.length (rs.flatMap rrow)→RefOK w3 r→Calls Tryz.prog 112 #[.pointer (some ⟨r.rb,0,none⟩),.int .i64 a,.int .i64 b',.slice ta rs.length tc] w3 fun e w4=>e=.returned (.tuple #[.int .i64 x,.int .i64 q])∧∃ r',RPost w3 w4 r r'∧Join D last c g2 r r')
 case first =>
  rcases HSH.out with ⟨e1,e2,e3,e4⟩ | ⟨vg,e1,e2,e3⟩
  ·subst e1
   subst e3
   subst e4
   subst e2
   go_region_held3 (fun wx=>wx.cell? ⟨W.heap.size,1,none⟩=some (.int .i64 a)∧wx.cell? ⟨W.heap.size,2,none⟩=some (.int .i64 b')∧wx.cell? ⟨W.heap.size,7,none⟩=some (.slice ra ([]:List Rule).length rc)) (first | exact ⟨p1,p2,p7⟩ | exact ⟨y0,y1,y2⟩ | go_keep) ((go_at_call 14;(with_reducible refine Calls.mono HTWO.out.2 ?_);rintro e w3 ⟨x,q,g2,rfl,hP3,hthen⟩;have HP3:Hid (Post D W2.drew w3 g g2):=hP3;have HTH:Hid _:=hthen;have hob3:w3.heap[W.heap.size]?=_:=(hP3.fr.block W.heap.size hlW2 (fun e=>by have:=(HT0.out.gok.bounds e).2;omega)).trans HOB2.out;have y0:=cells_of hob3 1;have y1:=cells_of hob3 2;have y2:=cells_of hob3 7;clear hP3 hthen hob3))
   all_goals
    clear y0 y1 y2
    go_wp2_with fail
    go_meet
    case rel=>exact ⟨x,q,g2,rfl,rfl,HP2.out.trans HP3.out,HTH.out⟩
  ·subst e1
   subst e3
   have i1:((rs.length:Nat):Int)≤((zs.length:Nat):Int):=by omega
   go_region_held3 (fun wx=>wx.cell? ⟨W.heap.size,1,none⟩=some (.int .i64 a)∧wx.cell? ⟨W.heap.size,2,none⟩=some (.int .i64 b')∧wx.cell? ⟨W.heap.size,7,none⟩=some (.slice ra rs.length rc)) (first | exact ⟨p1,p2,p7⟩ | exact ⟨y0,y1,y2⟩ | go_keep) ((go_at_call 14;(with_reducible refine Calls.mono HTWO.out.2 ?_);rintro e w3 ⟨x,q,g2,rfl,hP3,hthen⟩;have HP3:Hid (Post D W2.drew w3 g g2):=hP3;have HTH:Hid _:=hthen;have hob3:w3.heap[W.heap.size]?=_:=(hP3.fr.block W.heap.size hlW2 (fun e=>by have:=(HT0.out.gok.bounds e).2;omega)).trans HOB2.out;have y0:=cells_of hob3 1;have y1:=cells_of hob3 2;have y2:=cells_of hob3 7;clear hP3 hthen hob3))
   all_goals
    clear y0 y1 y2
    go_wp2_with fail
    go_meet
    case rel=>exact ⟨x,q,g2,rfl,rfl,HP2.out.trans HP3.out,HTH.out⟩
 case rest =>
  obtain ⟨x,q,g2,rfl,rfl,hP3,hthen⟩:=hcut
  obtain ⟨W3,hW3⟩:∃ W3:World,W3=wc:=⟨_,rfl⟩
  subst hW3
  have HP3:Hid (Post D W2 W3 g g2):=hP3
  have HTH:Hid (∀ (D':Nat) (ta:Option Addr) (tc:Nat) (w3:World),w3.ownsRow D' 207 2 (.slice ta rs.length tc) rs.length (rs.flatMap rrow)→RefOK w3 r→Calls Tryz.prog 112 #[.pointer (some ⟨r.rb,0,none⟩),.int .i64 a,.int .i64 b',.slice ta rs.length tc] w3 fun e w4=>e=.returned (.tuple #[.int .i64 x,.int .i64 q])∧∃ r',RPost w3 w4 r r'∧Join D last c g2 r r'):=hthen
  have hs3:=hP3.fr.size
  have hob3:W3.heap[W.heap.size]?=some (.cells #[.int .i64 17,.int .i64 a,.int .i64 b',.int .i64 c',.int .i64 g',.string s,.string t,.slice ra rs.length rc,.bool y] 59 (0,0)):=(hP3.fr.block W.heap.size hlW2 (fun e=>by have:=(HT0.out.gok.bounds e).2;omega)).trans HOB2.out
  have HOB3:Hid (W3.heap[W.heap.size]?=some (.cells #[.int .i64 17,.int .i64 a,.int .i64 b',.int .i64 c',.int .i64 g',.string s,.string t,.slice ra rs.length rc,.bool y] 59 (0,0))):=hob3
  have HBD3:Hid (Below D W W3):=(HB2.out.mono HD).trans (hP3.fr.below (by omega) (fun i hi=>(HT0.out.gok.bounds hi).1))
  have HR3:Hid (RefOK W3 r):=H2.out.refStays HG.out HR.out hP3
  have HTK:Hid (Calls Tryz.prog 107 #[.slice ra rs.length rc] W3.drew fun e W'=>∃ ao c,e=.returned (.slice ao rs.length c)∧W'.ownsRow W3.drew.heap.size 207 2 (.slice ao rs.length c) rs.length (rs.flatMap rrow)∧Below W3.drew.heap.size W3.drew W'):=takenL rs ra rc (HIN.out W3.drew (by show D≤W3.heap.size;omega) (HBD3.out.trans ⟨rfl,rfl,rfl,Nat.le_refl _,fun _ _=>rfl⟩)) (by omega)
  clear p1 p2 p7
  have p1:=cells_of hob3 1
  have p2:=cells_of hob3 2
  have p7:=cells_of hob3 7
  have hlW3:W.heap.size<W3.heap.size:=by omega
  clear hP3 hthen hob3
  go_upto_region 7 with fail
  go_cut [12,13] (fun t12 t13 wx=>∃ (W4:World) (r2:Rx),t12=.int .i64 x∧t13=.int .i64 q∧Below W3.heap.size W3 W4∧RPost W4 wx r r2∧Join D last c g2 r r2)
  case first =>
   go_region_held3 (fun wx=>wx.cell? ⟨W.heap.size,1,none⟩=some (.int .i64 a)∧wx.cell? ⟨W.heap.size,2,none⟩=some (.int .i64 b')∧wx.cell? ⟨W.heap.size,7,none⟩=some (.slice ra rs.length rc)) (first | exact ⟨p1,p2,p7⟩ | exact ⟨z0,z1,z2⟩ | exact ⟨y0,y1,y2⟩ | go_keep)
    ((first
      | (go_at_call 107;(with_reducible refine Calls.mono HTK.out ?_);rintro e w4 ⟨ta,tc,rfl,hrow4,hb4⟩;have HROW4:Hid (w4.ownsRow W3.heap.size 207 2 (.slice ta rs.length tc) rs.length (rs.flatMap rrow)):=hrow4;have HB4:Hid (Below W3.heap.size W3 w4):=(Below.refl _ W3).drew.trans hb4;have hob4:w4.heap[W.heap.size]?=_:=(HB4.out.block W.heap.size hlW3).trans HOB3.out;have HOB4:Hid _:=hob4;have y0:=cells_of hob4 1;have y1:=cells_of hob4 2;have y2:=cells_of hob4 7;clear hrow4 hb4 hob4)
      | (go_at_call 112;(with_reducible refine Calls.mono (HTH.out _ ta tc w4 HROW4.out (HR3.out.since HB4.out)) ?_);rintro e w5 ⟨rfl,r2,hR5,hJ5⟩;have HR5:Hid (RPost w4 w5 r r2):=hR5;have HJ5:Hid (Join D last c g2 r r2):=hJ5;have hob5:w5.heap[W.heap.size]?=_:=(hR5.fr.block W.heap.size (lt_of_block HOB4.out) (fun e=>by have:=HT0.out.rok.bounds e;omega)).trans HOB4.out;have z0:=cells_of hob5 1;have z1:=cells_of hob5 2;have z2:=cells_of hob5 7;clear hR5 hJ5 hob5 y0 y1 y2)))
   all_goals
    clear z0 z1 z2
    go_wp2_with fail
    go_meet
    case rel=>exact ⟨w4,r2,rfl,rfl,HB4.out,HR5.out,HJ5.out⟩
  case rest =>
   obtain ⟨W4,r2,rfl,rfl,hb4,hR5,hJ5⟩:=hcut
   obtain ⟨W5,hW5⟩:∃ W5:World,W5=wc:=⟨_,rfl⟩
   subst hW5
   have hs4:=hb4.size
   have hs5:=hR5.fr.size
   have hob5:W5.heap[W.heap.size]?=some (.cells #[.int .i64 17,.int .i64 a,.int .i64 b',.int .i64 c',.int .i64 g',.string s,.string t,.slice ra rs.length rc,.bool y] 59 (0,0)):=(hR5.fr.block W.heap.size (by omega) (fun e=>by have:=HT0.out.rok.bounds e;omega)).trans ((hb4.block W.heap.size (by omega)).trans HOB3.out)
   have hlow:D≤W1.heap.size:=by omega
   have hrow5:W5.ownsRow D 32 2 (.slice va zs.length vc) zs.length (zs.flatMap rrow):=rowB (row_keep HROW.out (fun b hb=>by
    have hl:=HROW.out.lt b hb
    rw [hR5.fr.block b (by omega) (fun e=>by have:=HT0.out.rok.bounds e;omega),hb4.block b (by omega),HP3.out.fr.block b hl.2 (fun e=>by have:=(HT0.out.gok.bounds e).2;omega)])) hlow
   have HBD5:Hid (Below D W W5):=(HBD3.out.trans (hb4.mono (by omega))).trans (hR5.fr.below (by omega) (HT0.out.low))
   have HST:Hid (Calls Tryz.prog 108 #[.slice va zs.length vc,.slice ra rs.length rc] W5 fun e W'=>e=.returned (.bool true)∧Below W5.heap.size W5 W'):=stillL _ zs rs ra rc hrow5 (HIN.out W5 (by omega) HBD5.out) (by omega) (by omega) HZS.out
   have HAH:Hid (∀ W6,Below W5.heap.size W5 W6→∃ l',LInv W6 D wb last (c+2) l'∧l'.gs.map gptr=l.gs.map gptr∧l'.rs.map rptr=l.rs.map rptr∧l'.gsv=l.gsv∧l'.n=l.n∧l'.ws=l.ws∧l'.qs=l.qs∧Below D W2 W6∧W6.ownsRow D 32 2 (.slice va zs.length vc) zs.length (zs.flatMap rrow) ∧
     ∀ b,(Value.slice va zs.length vc).ownBlock=some b→l'.col b=0∧D≤b∧b<W6.heap.size∧¬ l'.own wb b∧∃ cs,W6.heap[b]?=some (.cells cs 32 (0,0))):=fun W6 hb6 =>
    rules_ahead (l:={ l with col:=recol W1 l.col 0 }) H2.out HG.out HR.out HP3.out hb4 hR5 hJ5 hb6 (rowB HROW.out hlow) (fun b hb=>by
     have hl:=HROW.out.lt b hb
     exact ⟨recol_new hl.1,fun e=>by have:=HLT.out b e;omega⟩) hrow5
   clear p1 p2 p7
   have p7:=cells_of hob5 7
   clear hob5 hb4 hR5 hJ5 hrow5
   go_wp2_with fail
   refine Calls.mono HST.out ?_
   rintro e W6 ⟨rfl,hb6⟩
   obtain ⟨l6,hL6,m1,m2,m3,m4,m5,m6,hB6,hrow6,hcol6⟩:=HAH.out W6 hb6
   have HR6:Hid (Calls Tryz.prog 109 #[.pointer (some ⟨wb,2,none⟩),.slice va zs.length vc] W6 fun e W'=>e=.returned (.tuple #[])∧RulesPost W6 D wb l6.n l6.gsv.1 l6.rsv l6.gsv.2 l6.iv l6.wv l6.ev (.slice va zs.length vc) l6.es l6.qs l6.ws W') :=
    rulesL (ys:=zs) hL6.h hL6.q hL6.qa hrow6 (by omega) rfl (fun b hb e=>(hcol6 b hb).2.2.2.1 (.inr (.inl e))) (by have:=hL6.qf;omega) (by have:=hL6.few;omega)
   have HEN:Hid (∀ W7,RulesPost W6 D wb l6.n l6.gsv.1 l6.rsv l6.gsv.2 l6.iv l6.wv l6.ev (.slice va zs.length vc) l6.es l6.qs l6.ws W7→StepLaw W D wb last c l W7):=fun W7 h7=>by
    have hf:=HFEW.out
    obtain ⟨l7,k1,k2,k3,k4,k5⟩:=hL6.rules (c':=c+2) h7 hcol6 (Nat.le_refl _) (by rw [m4,m5];omega) (by rw [m6];omega)
    exact ⟨l7,k1,by rw [k2];exact m1,by rw [k3];exact m2,by rw [k4,m3],((HB2.out.mono HD).trans hB6).trans k5⟩
   clear hL6 m1 m2 m3 m4 m5 m6 hB6 hrow6 hcol6 hb6
   go_wp2_with fail
   refine Calls.mono HR6.out ?_
   rintro e W7 ⟨rfl,h7⟩
   have HEND:Hid (StepLaw W D wb last c l W7):=HEN.out W7 h7
   have hxx:(x == x)=true:=by simp
   have hqq:(q == q)=true:=by simp
   clear h7
   go_wp2_with fail
   refine (numL q W7).mono ?_
   rintro e w4 ⟨rfl,rfl⟩
   go_wp2_with fail
   go_ret
   exact ⟨rfl,HEND.out⟩
end
open Go.RowKit Go.Shelf Gv
section
variable {W W1 W2 W3:World} {D wb last c k:Nat} {l:La} {g g':Gx} {r r':Rx}
theorem walkersMove (h:LInv W D wb last c l) (hk:k<l.gs.length) (hk2:l.gs.length≤1000000000000) (a b' c' g':Int) (s t:ByteArray) (ra:Option Addr) (rn rc:Nat) (y:Bool) :
  Calls Tryz.prog 62 #[.pointer (some ⟨wb,0,none⟩),.int .i64 k,.agg #[.int .i64 18,.int .i64 a,.int .i64 b',.int .i64 c',.int .i64 g',.string s,.string t,.slice ra rn rc,.bool y]] W (StepPost W D wb last c l):=by
 have HD:=h.lowD
 have hB1:Below W.heap.size W (W.alloc (.cells #[.int .i64 18,.int .i64 a,.int .i64 b',.int .i64 c',.int .i64 g',.string s,.string t,.slice ra rn rc,.bool y] 59)):=(Below.refl _ _).alloc (Nat.le_refl _) _
 have H1:Hid (LInv _ D wb last c _):=h.made hB1
 have hob:(W.alloc (.cells #[.int .i64 18,.int .i64 a,.int .i64 b',.int .i64 c',.int .i64 g',.string s,.string t,.slice ra rn rc,.bool y] 59)).heap[W.heap.size]?=some (.cells #[.int .i64 18,.int .i64 a,.int .i64 b',.int .i64 c',.int .i64 g',.string s,.string t,.slice ra rn rc,.bool y] 59 (0,0)):=heap_alloc_new W _
 obtain ⟨g,r,gg,gc,rg,rc',hg,hr,c0,c1,cg,cr⟩:=H1.out.open hk
 have o0:=cells_of hob 0
 have o1:=cells_of hob 1
 have o2:=cells_of hob 2
 have hsz:(W.alloc (.cells #[.int .i64 18,.int .i64 a,.int .i64 b',.int .i64 c',.int .i64 g',.string s,.string t,.slice ra rn rc,.bool y] 59)).heap.size=W.heap.size+1:=by simp
 have HOB:Hid _:=hob
 have HB1:Hid _:=hB1
 have HG:Hid (l.gs[k]?=some g):=hg
 have HR:Hid (l.rs[k]?=some r):=hr
 have HT0:Hid (Twin W D c g r):=h.tw k g r hg hr
 have hkl:(k:Int)<(l.gs.length:Int):=by omega
 clear hob hB1 hg hr h
 go_enter Tryz.func62, Tryz.ntmps62
 go_wp2_with fail
 refine (twoMove (last:=last) (H1.out.tw k g r HG.out HR.out) a b').mono ?_
 rintro e w2 ⟨x,q,g2,rfl,hP,hthen⟩
 have hob2:w2.heap[W.heap.size]?=_:=(hP.fr.block W.heap.size (by omega) (fun e=>by have:=(HT0.out.gok.bounds e).2;omega)).trans HOB.out
 have p1:=cells_of hob2 1
 have p2:=cells_of hob2 2
 have HP:Hid _:=hP
 have HTH:Hid _:=hthen
 clear hob2 hP hthen
 go_wp2_with fail
 refine (HTH.out w2 (H1.out.refStays HG.out HR.out HP.out)).mono ?_
 rintro e w3 ⟨rfl,r2,hR2,hJ⟩
 have hxx:(x == x)=true:=by simp
 have hqq:(q == q)=true:=by simp
 have HEND:Hid (StepLaw W D wb last c l w3):=step_end (l0:=l) (W0:=W) H1.out HG.out HR.out HP.out hR2 hJ ⟨rfl,rfl,rfl⟩ HB1.out HD
 clear hR2 hJ
 go_wp2_with fail
 refine (numL q w3).mono ?_
 rintro e w4 ⟨rfl,rfl⟩
 go_wp2_with fail
 go_ret
 exact ⟨rfl,HEND.out⟩
theorem walkersHere (h:LInv W D wb last c l) (hk:k<l.gs.length) (hk2:l.gs.length≤1000000000000) (a b' c' g':Int) (s t:ByteArray) (ra:Option Addr) (rn rc:Nat) (y:Bool) :
  Calls Tryz.prog 62 #[.pointer (some ⟨wb,0,none⟩),.int .i64 k,.agg #[.int .i64 19,.int .i64 a,.int .i64 b',.int .i64 c',.int .i64 g',.string s,.string t,.slice ra rn rc,.bool y]] W (StepPost W D wb last c l):=by
 have HD:=h.lowD
 have hB1:Below W.heap.size W (W.alloc (.cells #[.int .i64 19,.int .i64 a,.int .i64 b',.int .i64 c',.int .i64 g',.string s,.string t,.slice ra rn rc,.bool y] 59)):=(Below.refl _ _).alloc (Nat.le_refl _) _
 have H1:Hid (LInv _ D wb last c _):=h.made hB1
 have hob:(W.alloc (.cells #[.int .i64 19,.int .i64 a,.int .i64 b',.int .i64 c',.int .i64 g',.string s,.string t,.slice ra rn rc,.bool y] 59)).heap[W.heap.size]?=some (.cells #[.int .i64 19,.int .i64 a,.int .i64 b',.int .i64 c',.int .i64 g',.string s,.string t,.slice ra rn rc,.bool y] 59 (0,0)):=heap_alloc_new W _
 obtain ⟨g,r,gg,gc,rg,rc',hg,hr,c0,c1,cg,cr⟩:=H1.out.open hk
 have o0:=cells_of hob 0
 have o1:=cells_of hob 1
 have hsz:(W.alloc (.cells #[.int .i64 19,.int .i64 a,.int .i64 b',.int .i64 c',.int .i64 g',.string s,.string t,.slice ra rn rc,.bool y] 59)).heap.size=W.heap.size+1:=by simp
 have HOB:Hid _:=hob
 have HB1:Hid _:=hB1
 have HG:Hid (l.gs[k]?=some g):=hg
 have HR:Hid (l.rs[k]?=some r):=hr
 have HT0:Hid (Twin W D c g r):=h.tw k g r hg hr
 have hkl:(k:Int)<(l.gs.length:Int):=by omega
 clear hob hB1 hg hr h
 go_enter Tryz.func62, Tryz.ntmps62
 go_wp2_with fail
 refine (twoHere (last:=last) (H1.out.tw k g r HG.out HR.out) a).mono ?_
 rintro e w2 ⟨x,q,g2,rfl,hP,hthen⟩
 have hob2:w2.heap[W.heap.size]?=_:=(hP.fr.block W.heap.size (by omega) (fun e=>by have:=(HT0.out.gok.bounds e).2;omega)).trans HOB.out
 have p1:=cells_of hob2 1
 have HP:Hid _:=hP
 have HTH:Hid _:=hthen
 clear hob2 hP hthen
 go_wp2_with fail
 refine (HTH.out w2 (H1.out.refStays HG.out HR.out HP.out)).mono ?_
 rintro e w3 ⟨rfl,r2,hR2,hJ⟩
 have hxx:(x == x)=true:=by simp
 have hqq:(q == q)=true:=by simp
 have HEND:Hid (StepLaw W D wb last c l w3):=step_end (l0:=l) (W0:=W) H1.out HG.out HR.out HP.out hR2 hJ ⟨rfl,rfl,rfl⟩ HB1.out HD
 clear hR2 hJ
 go_wp2_with fail
 refine (numL q w3).mono ?_
 rintro e w4 ⟨rfl,rfl⟩
 go_wp2_with fail
 go_ret
 exact ⟨rfl,HEND.out⟩
theorem walkersGo (h:LInv W D wb last c l) (hk:k<l.gs.length) (hk2:l.gs.length≤1000000000000) (a b' c' g':Int) (s t:ByteArray) (ra:Option Addr) (rn rc:Nat) (y:Bool) :
  Calls Tryz.prog 62 #[.pointer (some ⟨wb,0,none⟩),.int .i64 k,.agg #[.int .i64 20,.int .i64 a,.int .i64 b',.int .i64 c',.int .i64 g',.string s,.string t,.slice ra rn rc,.bool y]] W (StepPost W D wb last c l):=by
 have HD:=h.lowD
 have hB1:Below W.heap.size W (W.alloc (.cells #[.int .i64 20,.int .i64 a,.int .i64 b',.int .i64 c',.int .i64 g',.string s,.string t,.slice ra rn rc,.bool y] 59)):=(Below.refl _ _).alloc (Nat.le_refl _) _
 have H1:Hid (LInv _ D wb last c _):=h.made hB1
 have hob:(W.alloc (.cells #[.int .i64 20,.int .i64 a,.int .i64 b',.int .i64 c',.int .i64 g',.string s,.string t,.slice ra rn rc,.bool y] 59)).heap[W.heap.size]?=some (.cells #[.int .i64 20,.int .i64 a,.int .i64 b',.int .i64 c',.int .i64 g',.string s,.string t,.slice ra rn rc,.bool y] 59 (0,0)):=heap_alloc_new W _
 obtain ⟨g,r,gg,gc,rg,rc',hg,hr,c0,c1,cg,cr⟩:=H1.out.open hk
 have o0:=cells_of hob 0
 have o1:=cells_of hob 1
 have o2:=cells_of hob 2
 have hsz:(W.alloc (.cells #[.int .i64 20,.int .i64 a,.int .i64 b',.int .i64 c',.int .i64 g',.string s,.string t,.slice ra rn rc,.bool y] 59)).heap.size=W.heap.size+1:=by simp
 have HOB:Hid _:=hob
 have HB1:Hid _:=hB1
 have HG:Hid (l.gs[k]?=some g):=hg
 have HR:Hid (l.rs[k]?=some r):=hr
 have HT0:Hid (Twin W D c g r):=h.tw k g r hg hr
 have hkl:(k:Int)<(l.gs.length:Int):=by omega
 clear hob hB1 hg hr h
 go_enter Tryz.func62, Tryz.ntmps62
 go_wp2_with fail
 refine (twoGo (last:=last) (H1.out.tw k g r HG.out HR.out) a b').mono ?_
 rintro e w2 ⟨q,g2,rfl,hP,hthen⟩
 have hob2:w2.heap[W.heap.size]?=_:=(hP.fr.block W.heap.size (by omega) (fun e=>by have:=(HT0.out.gok.bounds e).2;omega)).trans HOB.out
 have p1:=cells_of hob2 1
 have p2:=cells_of hob2 2
 have HP:Hid _:=hP
 have HTH:Hid _:=hthen
 clear hob2 hP hthen
 go_wp2_with fail
 refine (HTH.out w2 (H1.out.refStays HG.out HR.out HP.out)).mono ?_
 rintro e w3 ⟨rfl,r2,hR2,hJ⟩
 have hqq:(q == q)=true:=by simp
 have HEND:Hid (StepLaw W D wb last c l w3):=step_end (l0:=l) (W0:=W) H1.out HG.out HR.out HP.out hR2 hJ ⟨rfl,rfl,rfl⟩ HB1.out HD
 clear hR2 hJ
 go_wp2_with fail
 refine (numL q w3).mono ?_
 rintro e w4 ⟨rfl,rfl⟩
 go_wp2_with fail
 go_ret
 exact ⟨rfl,HEND.out⟩
theorem walkersStepK (h:LInv W D wb last c l) (hk:k<l.gs.length) (hc:c≤40000000000) (hlast:17≤last) (kind a b' c' g':Int) (s t:ByteArray) (ra:Option Addr) (rn rc:Nat) (y:Bool) (ho:LentIn W D ra rn rc) (hlo:17≤kind) (hhi:kind≤20) :
  Calls Tryz.prog 62 #[.pointer (some ⟨wb,0,none⟩),.int .i64 k,.agg #[.int .i64 kind,.int .i64 a,.int .i64 b',.int .i64 c',.int .i64 g',.string s,.string t,.slice ra rn rc,.bool y]] W (StepPost W D wb last c l):=by
 have hk2:l.gs.length≤1000000000000:=by have:=h.gfew;omega
 by_cases e17:kind=17
 ·subst e17;exact walkersWalker h hk hk2 hlast hc a b' c' g' s t ra rn rc y ho
 by_cases e18:kind=18
 ·subst e18;exact walkersMove h hk hk2 a b' c' g' s t ra rn rc y
 by_cases e19:kind=19
 ·subst e19;exact walkersHere h hk hk2 a b' c' g' s t ra rn rc y
 obtain rfl:kind=20:=by omega
 exact walkersGo h hk hk2 a b' c' g' s t ra rn rc y
theorem stepWalkers (h:LInv W D wb last c l) (hk:k<l.gs.length) (hc:c≤40000000000) (hlast:17≤last) (kind a b' c' g':Int) (s t:ByteArray) (ra:Option Addr) (rn rc:Nat) (y:Bool) (ho:OpOK W D s t ra rn rc) (hlo:17≤kind) (hhi:kind≤20) :
  Calls Tryz.prog 27 #[.pointer (some ⟨wb,0,none⟩),.int .i64 k,.agg #[.int .i64 kind,.int .i64 a,.int .i64 b',.int .i64 c',.int .i64 g',.string s,.string t,.slice ra rn rc,.bool y]] W (StepPost W D wb last c l):=by
 have HD:=h.lowD
 have hB1:Below W.heap.size W (W.alloc (.cells #[.int .i64 kind,.int .i64 a,.int .i64 b',.int .i64 c',.int .i64 g',.string s,.string t,.slice ra rn rc,.bool y] 59)):=(Below.refl _ _).alloc (Nat.le_refl _) _
 have H1:Hid (LInv (W.alloc (.cells #[.int .i64 kind,.int .i64 a,.int .i64 b',.int .i64 c',.int .i64 g',.string s,.string t,.slice ra rn rc,.bool y] 59)) D wb last c l):=h.since hB1
 have HB1:Hid (Below W.heap.size W (W.alloc (.cells #[.int .i64 kind,.int .i64 a,.int .i64 b',.int .i64 c',.int .i64 g',.string s,.string t,.slice ra rn rc,.bool y] 59))):=hB1
 have HO:Hid (LentIn (W.alloc (.cells #[.int .i64 kind,.int .i64 a,.int .i64 b',.int .i64 c',.int .i64 g',.string s,.string t,.slice ra rn rc,.bool y] 59)) D ra rn rc):=ho.rules.below (hB1.mono HD)
 have n6:¬ kind≤6:=by omega
 have n13:¬ kind≤13:=by omega
 have n16:¬ kind≤16:=by omega
 clear hB1 h ho
 go_enter Tryz.func27, Tryz.ntmps27
 go_wp2_with fail
 refine (walkersStepK H1.out hk hc hlast kind a b' c' g' s t ra rn rc y HO.out hlo hhi).mono ?_
 rintro e w2 ⟨rfl,l2,k1,k2,k3,k5,k4⟩
 have HEND:Hid (StepLaw W D wb last c l w2):=⟨l2,k1,k2,k3,k5,(HB1.out.mono HD).trans k4⟩
 clear k1 k2 k3 k4 k5
 go_wp2_with fail
 go_ret
 exact ⟨rfl,HEND.out⟩
theorem step20:StepOK 20:=fun _ _ _ _ _ _ kind a b' c' g' s t ra rn rc y h hk hc ho hl h78=>by
 by_cases h6:kind≤6
 ·exact stepTree h hk hc kind a b' c' g' s t ra rn rc y ho h6
 by_cases h13:kind≤13
 ·exact stepLooks h hk hc (by omega) kind a b' c' g' s t ra rn rc y ho (by omega) (by omega) h78
 by_cases h16:kind≤16
 ·exact stepIters h hk hc (by omega) kind a b' c' g' s t ra rn rc y ho (by omega) (by omega)
 ·exact stepWalkers h hk hc (by omega) kind a b' c' g' s t ra rn rc y ho (by omega) (by omega)
end
end Go.Proofs.YtcedebpoihcbdaaGreatDoor
