/-
  The law's step on the trees, whatever its kind; a step of the law.
-/
import Derived.Test.YtcedebpoihcbdaaGreatDoorD4
import Derived.Test.YtcedebpoihcbdaaGreatDoorD5
set_option linter.unusedVariables false
set_option maxHeartbeats 1000000
set_option maxRecDepth 100000
namespace Go.Proofs.YtcedebpoihcbdaaGreatDoor
open Go.RowKit Go.Shelf Gv
def LentIn (W:World) (D:Nat) (ra:Option Addr) (rn rc:Nat):Prop :=
 (ra=none∧rn=0∧rc=0)∨∃ x,ra=some x∧rn≤rc∧rc≤maxLen∧rn≤1048576∧(rn=0∨∃ b off,x=⟨b,off,none⟩∧b<D∧∀ i,i<rn→∃ (s:ByteArray) (v:Int),W.cell? ⟨b,off+i*2,none⟩=some (.string s)∧W.cell? ⟨b,off+i*2+1,none⟩=some (.int .i64 v)∧s.size≤1048576∧-9223372036854775808≤v∧v≤9223372036854775807)
structure OpOK (W:World) (D:Nat) (s t:ByteArray) (ra:Option Addr) (rn rc:Nat):Prop where
 hs:s.size≤1048576
 ht:t.size≤1048576
 rules:LentIn W D ra rn rc
theorem LentIn.below {W W':World} {D:Nat} {ra:Option Addr} {rn rc:Nat} (h:LentIn W D ra rn rc) (hb:Below D W W'):LentIn W' D ra rn rc:=by
 rcases h with h | ⟨x,e,h1,h2,h3,h4⟩
 ·exact .inl h
 ·refine .inr ⟨x,e,h1,h2,h3,?_⟩
  rcases h4 with h4 | ⟨b,off,ex,hD,h4⟩
  ·exact .inl h4
  ·refine .inr ⟨b,off,ex,hD,fun i hi=>?_⟩
   obtain ⟨s,v,c1,c2,c3⟩:=h4 i hi
   exact ⟨s,v,(hb.cell (p:=⟨b,_,none⟩) hD).trans c1,(hb.cell (p:=⟨b,_,none⟩) hD).trans c2,c3⟩
theorem OpOK.below {W W':World} {D:Nat} {s t:ByteArray} {ra:Option Addr} {rn rc:Nat} (h:OpOK W D s t ra rn rc) (hb:Below D W W'):OpOK W' D s t ra rn rc:=⟨h.hs,h.ht,h.rules.below hb⟩
theorem OpOK.none (W:World) (D:Nat):OpOK W D ByteArray.empty ByteArray.empty none 0 0:=⟨by decide,by decide,.inl ⟨rfl,rfl,rfl⟩⟩
section
variable {W W1 W' wr:World} {D wb last c k:Nat} {l:La}
theorem treeNone (h:LInv W D wb last c l) (hk:k<l.gs.length) (hk2:l.gs.length≤1000000000000) (kind a b' c' g':Int) (s t:ByteArray) (ra:Option Addr) (rn rc:Nat) (y:Bool) (n2:kind≠2) (n3:kind≠3) (n4:kind≠4) (n5:kind≠5) (n6:kind≠6) :
  Calls Tryz.prog 59 #[.pointer (some ⟨wb,0,none⟩),.int .i64 k,.agg #[.int .i64 kind,.int .i64 a,.int .i64 b',.int .i64 c',.int .i64 g',.string s,.string t,.slice ra rn rc,.bool y]] W (StepPost W D wb last c l):=by
 have HD:=h.lowD
 have hB1:Below W.heap.size W (W.alloc (.cells #[.int .i64 kind,.int .i64 a,.int .i64 b',.int .i64 c',.int .i64 g',.string s,.string t,.slice ra rn rc,.bool y] 59)):=(Below.refl _ _).alloc (Nat.le_refl _) _
 have H1:=h.made hB1
 have hob:(W.alloc (.cells #[.int .i64 kind,.int .i64 a,.int .i64 b',.int .i64 c',.int .i64 g',.string s,.string t,.slice ra rn rc,.bool y] 59)).heap[W.heap.size]?=some (.cells #[.int .i64 kind,.int .i64 a,.int .i64 b',.int .i64 c',.int .i64 g',.string s,.string t,.slice ra rn rc,.bool y] 59 (0,0)):=heap_alloc_new W _
 obtain ⟨g,r,gg,gc,rg,rc',hg,hr,c0,c1,cg,cr⟩:=H1.open hk
 have o0:=cells_of hob 0
 have hkl:(k:Int)<(l.gs.length:Int):=by omega
 have HEND:Hid (StepLaw W D wb last c l (W.alloc (.cells #[.int .i64 kind,.int .i64 a,.int .i64 b',.int .i64 c',.int .i64 g',.string s,.string t,.slice ra rn rc,.bool y] 59))):=⟨_,H1.more (by omega),rfl,rfl,rfl,hB1.mono HD⟩
 have e2:(kind == 2)=false:=by simpa using n2
 have e3:(kind == 3)=false:=by simpa using n3
 have e4:(kind == 4)=false:=by simpa using n4
 have e5:(kind == 5)=false:=by simpa using n5
 have e6:(kind == 6)=false:=by simpa using n6
 clear hob hB1 hg hr h H1 n2 n3 n4 n5 n6
 go_enter Tryz.func59, Tryz.ntmps59
 go_wp2_with fail
 go_ret
 exact ⟨rfl,HEND.out⟩
theorem treeL (h:LInv W D wb last c l) (hk:k<l.gs.length) (hc:c≤100000000000) (kind a b' c' g':Int) (s t:ByteArray) (ra:Option Addr) (rn rc:Nat) (y:Bool) (hs:s.size≤1048576) :
  Calls Tryz.prog 59 #[.pointer (some ⟨wb,0,none⟩),.int .i64 k,.agg #[.int .i64 kind,.int .i64 a,.int .i64 b',.int .i64 c',.int .i64 g',.string s,.string t,.slice ra rn rc,.bool y]] W (StepPost W D wb last c l):=by
 have hk2:l.gs.length≤1000000000000:=by have:=h.gfew;omega
 by_cases e2:kind=2
 ·subst e2;exact treeMake h hk hk2 a b' c' g' s t ra rn rc y (by unfold maxLen;omega)
 by_cases e3:kind=3
 ·subst e3;exact treePut h hk hk2 a b' c' g' s t ra rn rc y (by omega)
 by_cases e4:kind=4
 ·subst e4;exact treeTake h hk hk2 a b' c' g' s t ra rn rc y (by omega)
 by_cases e5:kind=5
 ·subst e5;exact treeKids h hk hk2 hc a b' c' g' s t ra rn rc y
 by_cases e6:kind=6
 ·subst e6;exact treeParent h hk hk2 a b' c' g' s t ra rn rc y
 exact treeNone h hk hk2 kind a b' c' g' s t ra rn rc y e2 e3 e4 e5 e6
def Law (W:World) (D wb last c:Nat) (l:La) (W':World):Prop:=∃ l',LInv W' D wb last c l'∧l'.gs.map gptr=l.gs.map gptr∧l'.rs.map rptr=l.rs.map rptr∧Below D W W'
theorem Law.start (h:LInv W D wb last c l):Law W D wb last c l W:=⟨l,h,rfl,rfl,Below.refl _ _⟩
theorem Law.more {c':Nat} (h:Law W D wb last c l W') (hc:c≤c'):Law W D wb last c' l W':=by
 obtain ⟨l',h1,h2,h3,h4⟩:=h
 exact ⟨l',h1.more hc,h2,h3,h4⟩
theorem Law.since (h:Law W D wb last c l W1) (hb:Below W1.heap.size W1 W'):Law W D wb last c l W':=by
 obtain ⟨l',h1,h2,h3,h4⟩:=h
 exact ⟨l',h1.since hb,h2,h3,h4.trans (hb.mono h1.lowD)⟩
theorem Law.low (h:Law W D wb last c l W'):Below D W W':=by
 obtain ⟨l',_,_,_,h4⟩:=h
 exact h4
def StepOK (last:Nat):Prop:=∀ (W:World) (D wb c k:Nat) (l:La) (kind a b' c' g':Int) (s t:ByteArray) (ra:Option Addr) (rn rc:Nat) (y:Bool),LInv W D wb last c l→k<l.gs.length→c≤40000000000→OpOK W D s t ra rn rc→kind≤last→(kind=7∨kind=8→c≤900000) →
 Calls Tryz.prog 27 #[.pointer (some ⟨wb,0,none⟩),.int .i64 k,.agg #[.int .i64 kind,.int .i64 a,.int .i64 b',.int .i64 c',.int .i64 g',.string s,.string t,.slice ra rn rc,.bool y]] W (StepPost W D wb last c l)
theorem gs_len {l':La} (h:l'.gs.map gptr=l.gs.map gptr):l'.gs.length=l.gs.length:=by
 have:=congrArg List.length h
 simpa using this
theorem Law.step (hS:StepOK last) (h:Law W D wb last c l wr) (hk:k<l.gs.length) (hc:c≤40000000000) (kind a b' c' g':Int) (s t:ByteArray) (ra:Option Addr) (rn rc:Nat) (y:Bool) (ho:OpOK W D s t ra rn rc) (hl:kind≤last) (h7:kind=7∨kind=8→c≤900000) :
  Calls Tryz.prog 27 #[.pointer (some ⟨wb,0,none⟩),.int .i64 k,.agg #[.int .i64 kind,.int .i64 a,.int .i64 b',.int .i64 c',.int .i64 g',.string s,.string t,.slice ra rn rc,.bool y]] wr fun e w'=>e=.returned (.bool true)∧Law W D wb last (c+2) l w':=by
 obtain ⟨l',h1,h2,h3,h4⟩:=h
 refine (hS wr D wb c k l' kind a b' c' g' s t ra rn rc y h1 (by rw [gs_len h2];exact hk) hc (ho.below h4) hl h7).mono ?_
 rintro e w' ⟨rfl,l2,k1,k2,k3,_,k4⟩
 exact ⟨rfl,l2,k1,k2.trans h2,k3.trans h3,h4.trans k4⟩
theorem Law.ref {r:Rx} (h:Law W D wb last c l wr) (hr:l.rs[k]?=some r):∃ r',RefOK wr r'∧r'.rb=r.rb∧r'.bare last:=by
 obtain ⟨l',h1,h2,h3,h4⟩:=h
 have hm:(l'.rs.map rptr)[k]?=some (rptr r):=by rw [h3,List.getElem?_map,hr];rfl
 rw [List.getElem?_map] at hm
 obtain ⟨r',hr',e⟩:=Option.map_eq_some_iff.1 hm
 obtain ⟨g',hg'⟩:=h1.gget hr'
 refine ⟨r',(h1.tw k g' r' hg' hr').rok,?_,h1.bare r' (List.mem_of_getElem? hr')⟩
 unfold rptr at e
 simpa using e
theorem stepTree (h:LInv W D wb last c l) (hk:k<l.gs.length) (hc:c≤40000000000) (kind a b' c' g':Int) (s t:ByteArray) (ra:Option Addr) (rn rc:Nat) (y:Bool) (ho:OpOK W D s t ra rn rc) (h6:kind≤6) :
  Calls Tryz.prog 27 #[.pointer (some ⟨wb,0,none⟩),.int .i64 k,.agg #[.int .i64 kind,.int .i64 a,.int .i64 b',.int .i64 c',.int .i64 g',.string s,.string t,.slice ra rn rc,.bool y]] W (StepPost W D wb last c l):=by
 have HD:=h.lowD
 have hB1:Below W.heap.size W (W.alloc (.cells #[.int .i64 kind,.int .i64 a,.int .i64 b',.int .i64 c',.int .i64 g',.string s,.string t,.slice ra rn rc,.bool y] 59)):=(Below.refl _ _).alloc (Nat.le_refl _) _
 have H1:Hid (LInv (W.alloc (.cells #[.int .i64 kind,.int .i64 a,.int .i64 b',.int .i64 c',.int .i64 g',.string s,.string t,.slice ra rn rc,.bool y] 59)) D wb last c l):=h.since hB1
 have HB1:Hid (Below W.heap.size W (W.alloc (.cells #[.int .i64 kind,.int .i64 a,.int .i64 b',.int .i64 c',.int .i64 g',.string s,.string t,.slice ra rn rc,.bool y] 59))):=hB1
 have HS:Hid (s.size≤1048576):=ho.hs
 clear hB1 h ho
 go_enter Tryz.func27, Tryz.ntmps27
 go_wp2_with fail
 refine (treeL H1.out hk (by omega) kind a b' c' g' s t ra rn rc y HS.out).mono ?_
 rintro e w2 ⟨rfl,l2,k1,k2,k3,k5,k4⟩
 have HEND:Hid (StepLaw W D wb last c l w2):=⟨l2,k1,k2,k3,k5,(HB1.out.mono HD).trans k4⟩
 clear k1 k2 k3 k4 k5
 go_wp2_with fail
 go_ret
 exact ⟨rfl,HEND.out⟩
theorem step6:StepOK 6:=fun _ _ _ _ _ _ kind a b' c' g' s t ra rn rc y h hk hc ho hl _=>stepTree h hk hc kind a b' c' g' s t ra rn rc y ho hl
end
end Go.Proofs.YtcedebpoihcbdaaGreatDoor
