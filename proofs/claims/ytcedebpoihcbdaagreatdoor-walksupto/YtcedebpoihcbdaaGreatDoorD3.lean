/-
  The law's steps on the trees: Make, Put, Take, Parent, and what is none of its kinds.
-/
import Derived.Test.YtcedebpoihcbdaaGreatDoorD2
set_option linter.unusedVariables false
set_option maxHeartbeats 1000000
set_option maxRecDepth 100000
namespace Go.Proofs.YtcedebpoihcbdaaGreatDoor
open Go.RowKit Go.Shelf Gv
def StepLaw (W:World) (D wb last c:Nat) (l:La) (W':World):Prop:=∃ l',LInv W' D wb last (c+2) l'∧l'.gs.map gptr=l.gs.map gptr∧l'.rs.map rptr=l.rs.map rptr∧l'.gsv.1=l.gsv.1∧Below D W W'
def StepPost (W:World) (D wb last c:Nat) (l:La) (e:Ending) (W':World):Prop:=e=.returned (.bool true)∧StepLaw W D wb last c l W'
section
variable {W W1 W2 W3:World} {D wb last c k:Nat} {l:La} {g g':Gx} {r r':Rx}
theorem numL (q:Int) (w:World):Calls Tryz.prog 91 #[.int .i64 q] w fun e w'=>e=.returned (.int .i64 q)∧w'=w:=by
 go_enter Tryz.func91, Tryz.ntmps91
 go_wp2_with fail
 go_ret
 exact ⟨rfl,rfl⟩
theorem LInv.open (h:LInv W D wb last c l) (hk:k<l.gs.length):∃ (g:Gx) (r:Rx) (gg gc rg rc:Nat),l.gs[k]?=some g∧l.rs[k]?=some r∧W.cell? ⟨wb,0,none⟩=some (.slice (some ⟨gg,0,none⟩) l.gs.length gc)∧W.cell? ⟨wb,1,none⟩=some (.slice (some ⟨rg,0,none⟩) l.gs.length rc) ∧
  W.cell? ⟨gg,k,none⟩=some (.pointer (some ⟨g.gb,0,none⟩))∧W.cell? ⟨rg,k,none⟩=some (.pointer (some ⟨r.rb,0,none⟩)):=by
 obtain ⟨g,hg⟩:∃ g,l.gs[k]?=some g:=⟨_,List.getElem?_eq_getElem hk⟩
 obtain ⟨r,hr⟩:=h.rget hg
 obtain ⟨ga,gc,e1,_,f1⟩:=rowForm h.gr
 obtain ⟨ra,rc,e2,_,f2⟩:=rowForm h.rr
 rcases f1 with f1 | ⟨gg,rfl,_,f1⟩
 ·omega
 rcases f2 with f2 | ⟨rg,rfl,_,f2⟩
 ·omega
 refine ⟨g,r,gg,gc,rg,rc,hg,hr,?_,?_,?_,?_⟩
 ·rw [← e1];exact law_cell h.h.w 0
 ·rw [← e2];exact law_cell h.h.w 1
 ·rw [f1 k (by omega),List.getElem?_map,hg];rfl
 ·rw [f2 k (by omega),List.getElem?_map,hr];rfl
theorem step_end {l0:La} {W0:World} (h:LInv W D wb last c l) (hg:l.gs[k]?=some g) (hr:l.rs[k]?=some r) (hP:Post D W W1 g g') (hR:RPost W1 W2 r r') (hJ:Join D last c g' r r') (h0:l.gs=l0.gs∧l.rs=l0.rs∧l.gsv.1=l0.gsv.1) (hb:Below W0.heap.size W0 W) (hD:D≤W0.heap.size):StepLaw W0 D wb last c l0 W2:=by
 have hm:=h.both (c':=c+2) hg hr hP hR (by omega) (hJ.bare (h.bare r (List.mem_of_getElem? hr))) (fun h1 h2 h3=>hJ.twin W2 h1 h2 h3)
 refine ⟨_,hm.1,?_,?_,h0.2.2,(hb.mono hD).trans hm.2⟩
 ·rw [← h0.1];exact map_set_same gptr hg (by unfold gptr;rw [hP.at_])
 ·rw [← h0.2.1];exact map_set_same rptr hr (by unfold rptr;rw [hR.at_])
theorem LInv.lowD (h:LInv W D wb last c l):D≤W.heap.size:=by have:=h.h.hD;have:=lt_of_block h.h.w;omega
theorem treeMake (h:LInv W D wb last c l) (hk:k<l.gs.length) (hk2:l.gs.length≤1000000000000) (a b' c' g':Int) (s t:ByteArray) (ra:Option Addr) (rn rc:Nat) (y:Bool) (hs:s.size≤maxLen) :
  Calls Tryz.prog 59 #[.pointer (some ⟨wb,0,none⟩),.int .i64 k,.agg #[.int .i64 2,.int .i64 a,.int .i64 b',.int .i64 c',.int .i64 g',.string s,.string t,.slice ra rn rc,.bool y]] W (StepPost W D wb last c l):=by
 have HD:=h.lowD
 have hB1:Below W.heap.size W (W.alloc (.cells #[.int .i64 2,.int .i64 a,.int .i64 b',.int .i64 c',.int .i64 g',.string s,.string t,.slice ra rn rc,.bool y] 59)):=(Below.refl _ _).alloc (Nat.le_refl _) _
 have H1:Hid (LInv _ D wb last c _):=h.made hB1
 have hob:(W.alloc (.cells #[.int .i64 2,.int .i64 a,.int .i64 b',.int .i64 c',.int .i64 g',.string s,.string t,.slice ra rn rc,.bool y] 59)).heap[W.heap.size]?=some (.cells #[.int .i64 2,.int .i64 a,.int .i64 b',.int .i64 c',.int .i64 g',.string s,.string t,.slice ra rn rc,.bool y] 59 (0,0)):=heap_alloc_new W _
 obtain ⟨g,r,gg,gc,rg,rc',hg,hr,c0,c1,cg,cr⟩:=H1.out.open hk
 have o0:=cells_of hob 0
 have o1:=cells_of hob 1
 have o5:=cells_of hob 5
 have hsz:(W.alloc (.cells #[.int .i64 2,.int .i64 a,.int .i64 b',.int .i64 c',.int .i64 g',.string s,.string t,.slice ra rn rc,.bool y] 59)).heap.size=W.heap.size+1:=by simp
 have HOB:Hid _:=hob
 have HB1:Hid _:=hB1
 have HG:Hid (l.gs[k]?=some g):=hg
 have HR:Hid (l.rs[k]?=some r):=hr
 have HT0:Hid (Twin W D c g r):=h.tw k g r hg hr
 have hkl:(k:Int)<(l.gs.length:Int):=by omega
 clear hob hB1 hg hr h
 go_enter Tryz.func59, Tryz.ntmps59
 go_wp2_with fail
 refine (twoMake (last:=last) (H1.out.tw k g r HG.out HR.out) a s hs).mono ?_
 rintro e w2 ⟨x,q,g2,rfl,hP,hthen⟩
 have hob2:w2.heap[W.heap.size]?=_:=(hP.fr.block W.heap.size (by omega) (fun e=>by have:=(HT0.out.gok.bounds e).2;omega)).trans HOB.out
 have p1:=cells_of hob2 1
 have p5:=cells_of hob2 5
 have HP:Hid _:=hP
 have HTH:Hid _:=hthen
 clear hob2 hP hthen
 go_wp2_with fail
 refine (HTH.out w2 (H1.out.refStays HG.out HR.out HP.out)).mono ?_
 rintro e w3 ⟨rfl,r2,hR2,hJ⟩
 have hxx:(x == x)=true:=by simp
 have hqq:(q == q)=true:=by simp
 have HEND:Hid (StepLaw W D wb last c l w3):=step_end (l0:=l) (W0:=W) H1.out HG.out HR.out HP.out hR2 hJ ⟨rfl,rfl,rfl⟩ HB1.out HD
 clear hR2 hJ
 go_wp2_with fail
 refine (numL q w3).mono ?_
 rintro e w4 ⟨rfl,rfl⟩
 go_wp2_with fail
 go_ret
 exact ⟨rfl,HEND.out⟩
theorem treePut (h:LInv W D wb last c l) (hk:k<l.gs.length) (hk2:l.gs.length≤1000000000000) (a b' c' g':Int) (s t:ByteArray) (ra:Option Addr) (rn rc:Nat) (y:Bool) (hc:c≤4611686018427387903) :
  Calls Tryz.prog 59 #[.pointer (some ⟨wb,0,none⟩),.int .i64 k,.agg #[.int .i64 3,.int .i64 a,.int .i64 b',.int .i64 c',.int .i64 g',.string s,.string t,.slice ra rn rc,.bool y]] W (StepPost W D wb last c l):=by
 have HD:=h.lowD
 have hB1:Below W.heap.size W (W.alloc (.cells #[.int .i64 3,.int .i64 a,.int .i64 b',.int .i64 c',.int .i64 g',.string s,.string t,.slice ra rn rc,.bool y] 59)):=(Below.refl _ _).alloc (Nat.le_refl _) _
 have H1:Hid (LInv _ D wb last c _):=h.made hB1
 have hob:(W.alloc (.cells #[.int .i64 3,.int .i64 a,.int .i64 b',.int .i64 c',.int .i64 g',.string s,.string t,.slice ra rn rc,.bool y] 59)).heap[W.heap.size]?=some (.cells #[.int .i64 3,.int .i64 a,.int .i64 b',.int .i64 c',.int .i64 g',.string s,.string t,.slice ra rn rc,.bool y] 59 (0,0)):=heap_alloc_new W _
 obtain ⟨g,r,gg,gc,rg,rc',hg,hr,c0,c1,cg,cr⟩:=H1.out.open hk
 have o0:=cells_of hob 0
 have o1:=cells_of hob 1
 have o2:=cells_of hob 2
 have o3:=cells_of hob 3
 have hsz:(W.alloc (.cells #[.int .i64 3,.int .i64 a,.int .i64 b',.int .i64 c',.int .i64 g',.string s,.string t,.slice ra rn rc,.bool y] 59)).heap.size=W.heap.size+1:=by simp
 have HOB:Hid _:=hob
 have HB1:Hid _:=hB1
 have HG:Hid (l.gs[k]?=some g):=hg
 have HR:Hid (l.rs[k]?=some r):=hr
 have HT0:Hid (Twin W D c g r):=h.tw k g r hg hr
 have hkl:(k:Int)<(l.gs.length:Int):=by omega
 clear hob hB1 hg hr h
 go_enter Tryz.func59, Tryz.ntmps59
 go_wp2_with fail
 refine (twoPut (last:=last) (H1.out.tw k g r HG.out HR.out) hc a b' c').mono ?_
 rintro e w2 ⟨q,g2,rfl,hP,hthen⟩
 have hob2:w2.heap[W.heap.size]?=_:=(hP.fr.block W.heap.size (by omega) (fun e=>by have:=(HT0.out.gok.bounds e).2;omega)).trans HOB.out
 have p1:=cells_of hob2 1
 have p2:=cells_of hob2 2
 have p3:=cells_of hob2 3
 have HP:Hid _:=hP
 have HTH:Hid _:=hthen
 clear hob2 hP hthen
 go_wp2_with fail
 refine (HTH.out w2 (H1.out.refStays HG.out HR.out HP.out)).mono ?_
 rintro e w3 ⟨rfl,r2,hR2,hJ⟩
 have hqq:(q == q)=true:=by simp
 have HEND:Hid (StepLaw W D wb last c l w3):=step_end (l0:=l) (W0:=W) H1.out HG.out HR.out HP.out hR2 hJ ⟨rfl,rfl,rfl⟩ HB1.out HD
 clear hR2 hJ
 go_wp2_with fail
 refine (numL q w3).mono ?_
 rintro e w4 ⟨rfl,rfl⟩
 go_wp2_with fail
 go_ret
 exact ⟨rfl,HEND.out⟩
theorem treeTake (h:LInv W D wb last c l) (hk:k<l.gs.length) (hk2:l.gs.length≤1000000000000) (a b' c' g':Int) (s t:ByteArray) (ra:Option Addr) (rn rc:Nat) (y:Bool) (hc:c≤4611686018427387903) :
  Calls Tryz.prog 59 #[.pointer (some ⟨wb,0,none⟩),.int .i64 k,.agg #[.int .i64 4,.int .i64 a,.int .i64 b',.int .i64 c',.int .i64 g',.string s,.string t,.slice ra rn rc,.bool y]] W (StepPost W D wb last c l):=by
 have HD:=h.lowD
 have hB1:Below W.heap.size W (W.alloc (.cells #[.int .i64 4,.int .i64 a,.int .i64 b',.int .i64 c',.int .i64 g',.string s,.string t,.slice ra rn rc,.bool y] 59)):=(Below.refl _ _).alloc (Nat.le_refl _) _
 have H1:Hid (LInv _ D wb last c _):=h.made hB1
 have hob:(W.alloc (.cells #[.int .i64 4,.int .i64 a,.int .i64 b',.int .i64 c',.int .i64 g',.string s,.string t,.slice ra rn rc,.bool y] 59)).heap[W.heap.size]?=some (.cells #[.int .i64 4,.int .i64 a,.int .i64 b',.int .i64 c',.int .i64 g',.string s,.string t,.slice ra rn rc,.bool y] 59 (0,0)):=heap_alloc_new W _
 obtain ⟨g,r,gg,gc,rg,rc',hg,hr,c0,c1,cg,cr⟩:=H1.out.open hk
 have o0:=cells_of hob 0
 have o1:=cells_of hob 1
 have hsz:(W.alloc (.cells #[.int .i64 4,.int .i64 a,.int .i64 b',.int .i64 c',.int .i64 g',.string s,.string t,.slice ra rn rc,.bool y] 59)).heap.size=W.heap.size+1:=by simp
 have HOB:Hid _:=hob
 have HB1:Hid _:=hB1
 have HG:Hid (l.gs[k]?=some g):=hg
 have HR:Hid (l.rs[k]?=some r):=hr
 have HT0:Hid (Twin W D c g r):=h.tw k g r hg hr
 have hkl:(k:Int)<(l.gs.length:Int):=by omega
 clear hob hB1 hg hr h
 go_enter Tryz.func59, Tryz.ntmps59
 go_wp2_with fail
 refine (twoTake (last:=last) (H1.out.tw k g r HG.out HR.out) hc a).mono ?_
 rintro e w2 ⟨q,g2,rfl,hP,hthen⟩
 have hob2:w2.heap[W.heap.size]?=_:=(hP.fr.block W.heap.size (by omega) (fun e=>by have:=(HT0.out.gok.bounds e).2;omega)).trans HOB.out
 have p1:=cells_of hob2 1
 have HP:Hid _:=hP
 have HTH:Hid _:=hthen
 clear hob2 hP hthen
 go_wp2_with fail
 refine (HTH.out w2 (H1.out.refStays HG.out HR.out HP.out)).mono ?_
 rintro e w3 ⟨rfl,r2,hR2,hJ⟩
 have hqq:(q == q)=true:=by simp
 have HEND:Hid (StepLaw W D wb last c l w3):=step_end (l0:=l) (W0:=W) H1.out HG.out HR.out HP.out hR2 hJ ⟨rfl,rfl,rfl⟩ HB1.out HD
 clear hR2 hJ
 go_wp2_with fail
 refine (numL q w3).mono ?_
 rintro e w4 ⟨rfl,rfl⟩
 go_wp2_with fail
 go_ret
 exact ⟨rfl,HEND.out⟩
theorem treeParent (h:LInv W D wb last c l) (hk:k<l.gs.length) (hk2:l.gs.length≤1000000000000) (a b' c' g':Int) (s t:ByteArray) (ra:Option Addr) (rn rc:Nat) (y:Bool) :
  Calls Tryz.prog 59 #[.pointer (some ⟨wb,0,none⟩),.int .i64 k,.agg #[.int .i64 6,.int .i64 a,.int .i64 b',.int .i64 c',.int .i64 g',.string s,.string t,.slice ra rn rc,.bool y]] W (StepPost W D wb last c l):=by
 have HD:=h.lowD
 have hB1:Below W.heap.size W (W.alloc (.cells #[.int .i64 6,.int .i64 a,.int .i64 b',.int .i64 c',.int .i64 g',.string s,.string t,.slice ra rn rc,.bool y] 59)):=(Below.refl _ _).alloc (Nat.le_refl _) _
 have H1:Hid (LInv _ D wb last c _):=h.made hB1
 have hob:(W.alloc (.cells #[.int .i64 6,.int .i64 a,.int .i64 b',.int .i64 c',.int .i64 g',.string s,.string t,.slice ra rn rc,.bool y] 59)).heap[W.heap.size]?=some (.cells #[.int .i64 6,.int .i64 a,.int .i64 b',.int .i64 c',.int .i64 g',.string s,.string t,.slice ra rn rc,.bool y] 59 (0,0)):=heap_alloc_new W _
 obtain ⟨g,r,gg,gc,rg,rc',hg,hr,c0,c1,cg,cr⟩:=H1.out.open hk
 have o0:=cells_of hob 0
 have o1:=cells_of hob 1
 have hsz:(W.alloc (.cells #[.int .i64 6,.int .i64 a,.int .i64 b',.int .i64 c',.int .i64 g',.string s,.string t,.slice ra rn rc,.bool y] 59)).heap.size=W.heap.size+1:=by simp
 have HOB:Hid _:=hob
 have HB1:Hid _:=hB1
 have HG:Hid (l.gs[k]?=some g):=hg
 have HR:Hid (l.rs[k]?=some r):=hr
 have HT0:Hid (Twin W D c g r):=h.tw k g r hg hr
 have hkl:(k:Int)<(l.gs.length:Int):=by omega
 clear hob hB1 hg hr h
 go_enter Tryz.func59, Tryz.ntmps59
 go_wp2_with fail
 refine (twoParent (last:=last) (H1.out.tw k g r HG.out HR.out) a).mono ?_
 rintro e w2 ⟨x,q,g2,rfl,hP,hthen⟩
 have hob2:w2.heap[W.heap.size]?=_:=(hP.fr.block W.heap.size (by omega) (fun e=>by have:=(HT0.out.gok.bounds e).2;omega)).trans HOB.out
 have p1:=cells_of hob2 1
 have HP:Hid _:=hP
 have HTH:Hid _:=hthen
 clear hob2 hP hthen
 go_wp2_with fail
 refine (HTH.out w2 (H1.out.refStays HG.out HR.out HP.out)).mono ?_
 rintro e w3 ⟨rfl,r2,hR2,hJ⟩
 have hxx:(x == x)=true:=by simp
 have hqq:(q == q)=true:=by simp
 have HEND:Hid (StepLaw W D wb last c l w3):=step_end (l0:=l) (W0:=W) H1.out HG.out HR.out HP.out hR2 hJ ⟨rfl,rfl,rfl⟩ HB1.out HD
 clear hR2 hJ
 go_wp2_with fail
 refine (numL q w3).mono ?_
 rintro e w4 ⟨rfl,rfl⟩
 go_wp2_with fail
 go_ret
 exact ⟨rfl,HEND.out⟩
end
end Go.Proofs.YtcedebpoihcbdaaGreatDoor
