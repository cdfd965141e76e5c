/-
  What the forest's small methods do: Has, Count, Parent, First, Behind, Kind, join, Insert, Remove.
  What the forest's Kids and Within do, and the grove's Parent and Kids.
  What the grove's Parent does.
  The four kinds of nodes as interface values: what their methods say, and what a type switch tells.
-/
import Derived.Test.YtcedebpoihcbdaaGreatDoorChecked
import Derived.Test.YtcedebpoihcbdaaGreatDoorMems
import Derived.Deep.LoopGhost
set_option maxHeartbeats 400000
set_option maxRecDepth 100000
namespace Go.Proofs.YtcedebpoihcbdaaGreatDoor
open Go.RowKit Gv
section
variable {w:World} {B gb nb cap L:Nat} {s:Fo} {kd:Nat→Value} {r:Re}
theorem parentF (h:Held w B gb nb cap L s kd r) (n:Nat) (hn:n<L) :
  Calls Tryz.prog 37 #[.pointer (some ⟨gb,0,none⟩),.int .i64 n] w fun e w'=>e=.returned (.int .i64 (s.par n))∧w'=w:=by
 have hL:=h.hL
 have hg:=h.gcell
 have hc:=h.cpar hn
 clear h
 go_enter Tryz.func37, Tryz.ntmps37
 go_wp2
 go_ret
 exact ⟨rfl,rfl⟩
theorem firstF (h:Held w B gb nb cap L s kd r) (n:Nat) (hn:n<L) :
  Calls Tryz.prog 137 #[.pointer (some ⟨gb,0,none⟩),.int .i64 n] w fun e w'=>e=.returned (.int .i64 (s.fst n))∧w'=w:=by
 have hL:=h.hL
 have hg:=h.gcell
 have hc:=h.cfst hn
 clear h
 go_enter Tryz.func137, Tryz.ntmps137
 go_wp2
 go_ret
 exact ⟨rfl,rfl⟩
theorem behindF (h:Held w B gb nb cap L s kd r) (n:Nat) (hn:n<L) :
  Calls Tryz.prog 36 #[.pointer (some ⟨gb,0,none⟩),.int .i64 n] w fun e w'=>e=.returned (.int .i64 (s.bhd n))∧w'=w:=by
 have hL:=h.hL
 have hg:=h.gcell
 have hc:=h.cbhd hn
 clear h
 go_enter Tryz.func36, Tryz.ntmps36
 go_wp2
 go_ret
 exact ⟨rfl,rfl⟩
theorem aheadF (h:Held w B gb nb cap L s kd r) (n:Nat) (hn:n<L) :
  Calls Tryz.prog 77 #[.pointer (some ⟨gb,0,none⟩),.int .i64 n] w fun e w'=>e=.returned (.int .i64 (s.ahd n))∧w'=w:=by
 have hL:=h.hL
 have hg:=h.gcell
 have hc:=h.cahd hn
 clear h
 go_enter Tryz.func77, Tryz.ntmps77
 go_wp2
 go_ret
 exact ⟨rfl,rfl⟩
theorem lastF (h:Held w B gb nb cap L s kd r) (n:Nat) (hn:n<L) :
  Calls Tryz.prog 76 #[.pointer (some ⟨gb,0,none⟩),.int .i64 n] w fun e w'=>e=.returned (.int .i64 (s.lst n))∧w'=w:=by
 have hL:=h.hL
 have hg:=h.gcell
 have hc:=h.clst hn
 clear h
 go_enter Tryz.func76, Tryz.ntmps76
 go_wp2
 go_ret
 exact ⟨rfl,rfl⟩
theorem countF (h:Held w B gb nb cap L s kd r) (hL1:1≤L) :
  Calls Tryz.prog 69 #[.pointer (some ⟨gb,0,none⟩)] w fun e w'=>e=.returned (.int .i64 ((L:Int)-1))∧w'=w:=by
 have hL:=h.hL
 have hg:=h.gcell
 clear h
 go_enter Tryz.func69, Tryz.ntmps69
 go_wp2
 go_ret
 exact ⟨rfl,rfl⟩
def hasB (L:Nat) (n:Int):Bool:=decide (1≤n∧n<L)
theorem hasF (h:Held w B gb nb cap L s kd r) (n:Int) :
  Calls Tryz.prog 40 #[.pointer (some ⟨gb,0,none⟩),.int .i64 n] w fun e w'=>e=.returned (.bool (hasB L n))∧w'=w:=by
 have hL:=h.hL
 have hg:=h.gcell
 clear h
 by_cases h1:1≤n
 ·by_cases h2:n<L
  ·have e1:hasB L n=true:=by simp [hasB,h1,h2]
   rw [e1];clear e1
   go_enter Tryz.func40, Tryz.ntmps40
   go_wp2
   go_ret
   exact ⟨rfl,rfl⟩
  ·have e1:hasB L n=false:=by simp [hasB,h2]
   rw [e1];clear e1
   have h3:(L:Int)≤n:=by omega
   go_enter Tryz.func40, Tryz.ntmps40
   go_wp2
   go_ret
   exact ⟨rfl,rfl⟩
 ·have e1:hasB L n=false:=by simp [hasB,h1]
  rw [e1];clear e1
  have h3:n<1:=by omega
  go_enter Tryz.func40, Tryz.ntmps40
  go_wp2
  go_ret
  exact ⟨rfl,rfl⟩
theorem kindF (h:Held w B gb nb cap L s kd r) (n:Nat) (hn:n<L) {t:TypeId} {x:Value} (hk:kd n=.iface t x) :
  Calls Tryz.prog 71 #[.pointer (some ⟨gb,0,none⟩),.int .i64 n] w fun e w'=>e=.returned (.iface t x)∧w'=w:=by
 have hL:=h.hL
 have hg:=h.gcell
 have hc:=h.ckd hn
 rw [hk] at hc
 clear h hk
 go_enter Tryz.func71, Tryz.ntmps71
 go_wp2
 go_ret
 exact ⟨rfl,rfl⟩
theorem joinF (h:Held w B gb nb cap L s kd r) (p a b:Nat) (hp:p<L) (ha:a<L) (hb:b<L) :
  Calls Tryz.prog 78 #[.pointer (some ⟨gb,0,none⟩),.int .i64 p,.int .i64 a,.int .i64 b] w fun e w'=>e=.returned (.tuple #[])∧Held w' B gb nb cap L (s.join p a b) kd r∧Fr (gn gb nb) w w':=by
 have HH:Hid (Held w B gb nb cap L s kd r):=h
 have hL:=h.hL
 have hg:=h.gcell
 have hne:=h.ne
 have hne':nb≠gb:=fun e=>h.ne e.symm
 have fr:=fun i=>h.free i
 have c1:=h.cfst hp
 have c2:=h.clst hp
 have c3:=h.cbhd ha
 have c4:=h.cahd hb
 clear h
 by_cases ea:a=0
 ·subst ea
  by_cases eb:b=0
  ·subst eb
   go_enter Tryz.func78, Tryz.ntmps78
   go_wp2
   go_end0
   have R1:=HH.out.putF 0 hp
   have R2:=R1.1.putL 0 hp
   exact ⟨rfl,by rw [join_eq,if_pos rfl,if_pos rfl];exact R2.1,R1.2.trans R2.2⟩
  ·have eb':((b:Int) == 0)=false:=by simp;omega
   have EB:Hid (b≠0):=eb
   clear eb
   go_enter Tryz.func78, Tryz.ntmps78
   go_wp2
   go_end0
   have R1:=HH.out.putF b hp
   have R2:=R1.1.putA 0 hb
   exact ⟨rfl,by rw [join_eq,if_neg EB.out,if_pos rfl];exact R2.1,R1.2.trans R2.2⟩
 ·have ea':((a:Int) == 0)=false:=by simp;omega
  have EA:Hid (a≠0):=ea
  clear ea
  by_cases eb:b=0
  ·subst eb
   go_enter Tryz.func78, Tryz.ntmps78
   go_wp2
   go_end0
   have R1:=HH.out.putB 0 ha
   have R2:=R1.1.putL a hp
   exact ⟨rfl,by rw [join_eq,if_pos rfl,if_neg EA.out];exact R2.1,R1.2.trans R2.2⟩
  ·have eb':((b:Int) == 0)=false:=by simp;omega
   have EB:Hid (b≠0):=eb
   clear eb
   go_enter Tryz.func78, Tryz.ntmps78
   go_wp2
   go_end0
   have R1:=HH.out.putB b ha
   have R2:=R1.1.putA a hb
   exact ⟨rfl,by rw [join_eq,if_neg EB.out,if_neg EA.out];exact R2.1,R1.2.trans R2.2⟩
theorem insertF (h:Held w B gb nb cap L s kd r) (p c b:Nat) (hp:p<L) (hc:c<L) (hb:b<L) (hl:s.lst p<L) (ha:b≠0→s.ahd b<L) (hpl:0≤r.pl) (hpl2:r.pl≤4611686018427387904) :
  Calls Tryz.prog 39 #[.pointer (some ⟨gb,0,none⟩),.int .i64 p,.int .i64 c,.int .i64 b] w fun e w'=>e=.returned (.tuple #[])∧Held w' B gb nb cap L (s.insert p c b) kd r.more∧Fr (gn gb nb) w w':=by
 have HH:Hid (Held w B gb nb cap L s kd r):=h
 have hL:=h.hL
 have hg:=h.gcell
 have hne:=h.ne
 have hne':nb≠gb:=fun e=>h.ne e.symm
 have fr:=fun i=>h.free i
 have c1:=h.clst hp
 have c2:=h.cahd hb
 have c3:=h.cpar hc
 have HA:Hid (b≠0→s.ahd b<L):=ha
 clear h ha
 by_cases eb:b=0
 ·subst eb
  go_enter Tryz.func39, Tryz.ntmps39
  go_wp2_with fail
  refine (lastF HH.out p hp).mono ?_
  rintro e w ⟨rfl,rfl⟩
  go_wp2_with fail
  have R1:=HH.out.putP p hc
  refine (joinF R1.1 p (s.lst p) c hp hl hc).mono ?_
  rintro e w1 ⟨rfl,H1,G1⟩
  go_wp2_with fail
  refine (joinF H1 p c 0 hp hc hb).mono ?_
  rintro e w2 ⟨rfl,H2,G2⟩
  have c5:=H2.gpl
  have f5:=fun i=>H2.gfree i
  have H2':Hid _:=H2
  have G2':Hid _:=G2
  clear H2 G2
  go_wp2_with fail
  go_end0
  have R3:=H2'.out.count
  exact ⟨rfl,R3.1,((R1.2.trans G1).trans G2'.out).trans R3.2⟩
 ·have eb':((b:Int) == 0)=false:=by simp;omega
  have EB:Hid (b≠0):=eb
  clear eb
  go_enter Tryz.func39, Tryz.ntmps39
  go_wp2_with fail
  refine (lastF HH.out p hp).mono ?_
  rintro e w ⟨rfl,rfl⟩
  go_wp2_with fail
  refine (aheadF HH.out b hb).mono ?_
  rintro e w ⟨rfl,rfl⟩
  go_wp2_with fail
  have R1:=HH.out.putP p hc
  refine (joinF R1.1 p (s.ahd b) c hp (HA.out EB.out) hc).mono ?_
  rintro e w1 ⟨rfl,H1,G1⟩
  go_wp2_with fail
  refine (joinF H1 p c b hp hc hb).mono ?_
  rintro e w2 ⟨rfl,H2,G2⟩
  have c5:=H2.gpl
  have f5:=fun i=>H2.gfree i
  have H2':Hid _:=H2
  have G2':Hid _:=G2
  clear H2 G2
  go_wp2_with fail
  go_end0
  have R3:=H2'.out.count
  exact ⟨rfl,by unfold Fo.insert;rw [if_neg EB.out];exact R3.1,((R1.2.trans G1).trans G2'.out).trans R3.2⟩
theorem remove_end {w1:World} {n:Nat} (h:Held w1 B gb nb cap L (s.join (s.par n) (s.ahd n) (s.bhd n)) kd r) (hG:Fr (gn gb nb) w w1) (hn:n<L) :
  Held (((((w1.setCell ⟨nb,n*6,none⟩ (.int .i64 0)).setCell ⟨nb,n*6+1,none⟩ (.int .i64 0)).setCell ⟨nb,n*6+2,none⟩ (.int .i64 0)).setCell ⟨nb,n*6+3,none⟩ (.int .i64 (s.fst n))).setCell ⟨nb,n*6+4,none⟩ (.int .i64 (s.lst n))).drew B gb nb cap L (s.remove n) kd r ∧
  Fr (gn gb nb) w (((((w1.setCell ⟨nb,n*6,none⟩ (.int .i64 0)).setCell ⟨nb,n*6+1,none⟩ (.int .i64 0)).setCell ⟨nb,n*6+2,none⟩ (.int .i64 0)).setCell ⟨nb,n*6+3,none⟩ (.int .i64 (s.fst n))).setCell ⟨nb,n*6+4,none⟩ (.int .i64 (s.lst n))).drew:=by
 have R1:=h.putP 0 hn
 have R2:=R1.1.putA 0 hn
 have R3:=R2.1.putB 0 hn
 have R4:=R3.1.putF (s.fst n) hn
 have R5:=R4.1.putL (s.lst n) hn
 have g5:=((((hG.trans R1.2).trans R2.2).trans R3.2).trans R4.2).trans R5.2
 constructor
 ·exact R5.1.drew
 ·exact g5.drew
theorem removeF (h:Held w B gb nb cap L s kd r) (n:Nat) (hn:n<L) (hp:s.par n<L) (ha:s.ahd n<L) (hb:s.bhd n<L) (hpl:0≤r.pl) (hpl2:r.pl≤4611686018427387904) :
  Calls Tryz.prog 75 #[.pointer (some ⟨gb,0,none⟩),.int .i64 n] w fun e w'=>e=.returned (.tuple #[])∧Held w' B gb nb cap L (s.remove n) kd r.more∧Fr (gn gb nb) w w':=by
 have HH:Hid (Held w B gb nb cap L s kd r):=h
 have hL:=h.hL
 have hg:=h.gcell
 have hne:=h.ne
 have hne':nb≠gb:=fun e=>h.ne e.symm
 have fr:=fun i=>h.free i
 have c1:=h.cpar hn
 have c2:=h.cahd hn
 have c3:=h.cbhd hn
 have c4:=h.cfst hn
 have c5:=h.clst hn
 clear h
 go_enter Tryz.func75, Tryz.ntmps75
 go_wp2_with fail
 have lt:=HH.out.ltn
 have ltg:=HH.out.ltg
 refine (joinF (HH.out.alloc _) (s.par n) (s.ahd n) (s.bhd n) hp ha hb).mono ?_
 rintro e w1 ⟨rfl,H1,G1⟩
 have q3:w1.cell? ⟨w.heap.size,3,none⟩=some (.int .i64 (s.fst n)):=G1.cell (by simp [World.cell?_alloc_at]) (by simp [gn];omega)
 have q4:w1.cell? ⟨w.heap.size,4,none⟩=some (.int .i64 (s.lst n)):=G1.cell (by simp [World.cell?_alloc_at]) (by simp [gn];omega)
 have G:Hid (Fr (gn gb nb) w w1):=((Fr.refl _ _).alloc _).trans G1
 clear hg fr c1 c2 c3 c4 c5 G1
 have hg1:=H1.gcell
 have fr1:=fun i=>H1.free i
 have c1:=H1.cpar hn
 have c2:=H1.cahd hn
 have c3:=H1.cbhd hn
 have c4:=H1.cfst hn
 have c5:=H1.clst hn
 have HH1:Hid (Held w1 B gb nb cap L (s.join (s.par n) (s.ahd n) (s.bhd n)) kd r):=H1
 clear H1
 go_wp2_with fail
 go_region
 have R:=remove_end HH1.out G.out hn
 clear hg1 fr1 c1 c2 c3 c4 c5 q3 q4 HH1 G
 generalize (((((w1.setCell ⟨nb,n*6,none⟩ (.int .i64 0)).setCell ⟨nb,n*6+1,none⟩ (.int .i64 0)).setCell ⟨nb,n*6+2,none⟩ (.int .i64 0)).setCell ⟨nb,n*6+3,none⟩ (.int .i64 (s.fst n))).setCell ⟨nb,n*6+4,none⟩ (.int .i64 (s.lst n))).drew=w5 at *
 have c6:=R.1.gpl
 have f6:=fun i=>R.1.gfree i
 have RR:Hid _:=R
 clear R
 go_wp2_with fail
 go_end0
 have R3:=RR.out.1.count
 exact ⟨rfl,R3.1,RR.out.2.trans R3.2⟩
end
open Go.RowKit Gv
theorem Tryz.info3:(Tryz.prog.info? 3).map (fun i=>(i.zero,i.size,i.bytes))=some (some (.int .i64 0),1,8):=by kernel_rfl
def ints (l:List Nat):List Value:=l.map (fun k:Nat=>Value.int .i64 (k:Int))
theorem ints_shape {w:World} {D n:Nat} {v:Value} {l:List Nat} (h:w.ownsRow D 3 1 v n (ints l)) :
  n=l.length∧∃ ao cap,v=.slice ao n cap∧n≤cap∧(n=0∨∃ g,ao=some ⟨g,0,none⟩∧D≤g∧g<w.heap.size∧∀ i,i<n→w.cell? ⟨g,i,none⟩=some (.int .i64 (l.getD i 0:Nat))):=by
 have hl:n=l.length:=by have:=h.1;simp [ints] at this;omega
 refine ⟨hl,?_⟩
 rcases h.2 with ⟨rfl,rfl⟩ | ⟨g,cap,cur,rfl,hb,hg,hnc,_⟩
 ·exact ⟨none,0,rfl,Nat.le_refl _,.inl rfl⟩
 ·refine ⟨some ⟨g,0,none⟩,cap,rfl,hnc,.inr ⟨g,rfl,hb,lt_of_block hg,fun i hi=>?_⟩⟩
  rw [h.cellAt i (by omega)]
  simp only [ints,List.getElem?_map]
  rw [List.getElem?_eq_getElem (by omega),List.getD_eq_getElem?_getD,List.getElem?_eq_getElem (by omega)]
  rfl
theorem ints_append (xs:List Nat) (y:Nat):ints xs++[.int .i64 (y:Int)]=ints (xs++[y]):=by simp [ints]
section
variable {w:World} {B gb nb cap N:Nat} {s:Fo} {kd:Nat→Value} {K:Nat→List Nat} {r:Re}
theorem kidsF (h:Held w B gb nb cap (N+1) s kd r) (hwf:WF N s K) (n:Nat) (h1:1≤n) (hn:n≤N) :
  Calls Tryz.prog 85 #[.pointer (some ⟨gb,0,none⟩),.int .i64 n] w fun e w'=>∃ v,e=.returned v∧w'.ownsRow w.heap.size 3 1 v (K n).length (ints (K n))∧Below w.heap.size w w':=by
 have HH:Hid (Held w B gb nb cap (N+1) s kd r):=h
 have HW:Hid (WF N s K):=hwf
 have hL:=h.hL
 have hfst:Hid (s.fst n=(K n).headD 0):=hwf.fst n h1 hn
 have hlen:(K n).length≤100000:=by have:=hwf.few n;omega
 obtain ⟨i0,hi,hz0,hz1,hz2⟩:=info_parts Tryz.info3
 clear h hwf
 go_enter Tryz.func85, Tryz.ntmps85
 go_wp2_with fail
 refine (firstF HH.out n (by omega)).mono ?_
 rintro e w ⟨rfl,rfl⟩
 go_wp2_with fail
 go_loopg [5,6] (K n).length (fun m v i wr=>∃ xs ys,K n=xs++ys∧ys.length=m∧i=.int .i64 (ys.headD 0)∧wr.ownsRow w.heap.size 3 1 v xs.length (ints xs)∧Below w.heap.size w wr)
 case atStart=>exact ⟨[],K n,rfl,rfl,by rw [hfst.out],World.ownsRow_nil _ _ _ _,Below.refl _ _⟩
 case round =>
  obtain ⟨xs,ys,hK,hm,rfl,hown,hbel⟩:=hrel
  cases ys with
  | nil =>
   have HK:Hid (K n=xs++[]):=hK
   clear hK
   simp only [List.headD_nil]
   go_wp2_with fail
   go_ret
   have e:K n=xs:=by rw [HK.out];simp
   rw [e]
   exact ⟨_,rfl,hown,hbel⟩
  | cons y yt =>
   have hy:=HW.out.kid n y (by rw [hK];simp)
   have hsd:=(HW.out.sides hK).2
   have hnz:((y:Int) == 0)=false:=by simp;omega
   have HK:Hid (K n=xs++y :: yt):=hK
   have HS:Hid (s.bhd y=yt.headD 0):=hsd
   have hlx:xs.length≤100000:=by rw [hK] at hlen;simp at hlen;omega
   clear hK hsd
   simp only [List.headD_cons]
   go_wp2_with (at_builtin;refine wpList_append_own _ rfl _ _ 25 rfl w.heap.size 3 i0 (.int .i64 0) 1 8 Tryz.underlying25 hi hz0 hz1 hz2 rfl (by decide) _ _ _ rfl (hown.alloc _) ⟨wr.heap.size,0,none⟩ 1 1 [.int .i64 y] rfl rfl ?c1 ?c2 ?c3 ?c4 ?c5 ?_)
   case c1 =>
    intro j u hj
    match j,hj with
    | 0,hj=>simp at hj;subst hj;simp [Addr.add]
   case c2=>intro u hu;simp at hu;subst hu;rfl
   case c3=>unfold maxLen;omega
   case c4=>omega
   case c5=>have:=hbel.size;simp;omega
   intro v' w1 hown' hgrow _
   have hb1:Below w.heap.size w w1:=(hbel.alloc hbel.size _).grown hgrow (by have:=hbel.size;simp;omega) (fun k hk=>(hown.lt k hk).1)
   have H1:Hid (Held w1 B gb nb cap (N+1) s kd r):=HH.out.since hb1
   rw [ints_append] at hown'
   have HO:Hid (w1.ownsRow w.heap.size 3 1 v' (xs++[y]).length (ints (xs++[y]))):=by rw [List.length_append];exact hown'
   have HB:Hid (Below w.heap.size w w1):=hb1
   clear hown' hgrow hown hb1 hbel
   go_wp2_with fail
   refine (behindF H1.out y (by omega)).mono ?_
   rintro e w2 ⟨rfl,rfl⟩
   go_wp2_with fail
   go_roundg yt.length
   case measure=>simp at hm;omega
   case rel=>exact ⟨xs++[y],yt,by rw [HK.out];simp,rfl,by rw [HS.out],HO.out,HB.out⟩
theorem desc_zero {f:Nat→Nat} {t:Nat} (h0:f 0=0) (ht:1≤t):¬ Desc f 0 t:=by
 rintro ⟨m,hm⟩
 rw [anc_zero h0] at hm
 omega
theorem desc_step {f:Nat→Nat} {x t:Nat} (h:x≠t):Desc f x t↔Desc f (f x) t:=by
 constructor
 ·rintro ⟨m,hm⟩
  cases m with
  | zero=>exact absurd hm h
  | succ m=>exact ⟨m,hm⟩
 ·exact Desc.head
theorem withinF (h:Held w B gb nb cap (N+1) s kd r) (hwf:WF N s K) (n t:Nat) (hn:n≤N) (ht:1≤t) (htN:t≤N) :
  Calls Tryz.prog 72 #[.pointer (some ⟨gb,0,none⟩),.int .i64 n,.int .i64 t] w fun e w'=>∃ b:Bool,e=.returned (.bool b)∧(b=true↔Desc s.par n t)∧w'=w:=by
 have HH:Hid (Held w B gb nb cap (N+1) s kd r):=h
 have HW:Hid (WF N s K):=hwf
 have hL:=h.hL
 clear h hwf
 go_enter Tryz.func72, Tryz.ntmps72
 go_wp2_with fail
 go_loopg [1] N (fun m i wr=>∃ x:Nat,i=.int .i64 x∧x≤N∧wr=w∧anc s.par m x=0∧(Desc s.par n t↔Desc s.par x t))
 case atStart=>exact ⟨n,rfl,hn,rfl,HW.out.top n hn,Iff.rfl⟩
 case round =>
  obtain ⟨x,rfl,hx,rfl,ha,hd⟩:=hrel
  have HA:Hid (anc s.par gk x=0):=ha
  have HD:Hid (Desc s.par n t↔Desc s.par x t):=hd
  clear ha hd
  by_cases e0:x=0
  ·subst e0
   have et:((0:Int) == (t:Int))=false:=by simp;omega
   go_wp2_with fail
   go_ret
   exact ⟨_,rfl,by rw [HD.out];simp [desc_zero HW.out.z ht],rfl⟩
  ·have e0':((x:Int) != 0)=true:=by simp;omega
   by_cases et:x=t
   ·subst et
    go_wp2_with fail
    go_ret
    exact ⟨_,rfl,by rw [HD.out];simp [Desc.refl],rfl⟩
   ·have et':((x:Int) != (t:Int))=true:=by simp;omega
    have ET:Hid (x≠t):=et
    have E0:Hid (x≠0):=e0
    clear et e0
    go_wp2_with fail
    refine (parentF HH.out x (by omega)).mono ?_
    rintro e w ⟨rfl,rfl⟩
    go_wp2_with fail
    cases gk with
    | zero=>exact absurd HA.out E0.out
    | succ m =>
     go_roundg m
     case measure=>omega
     case rel=>exact ⟨s.par x,rfl,HW.out.parLe x hx,rfl,HA.out,HD.out.trans (desc_step ET.out)⟩
theorem kidsG (h:Held w B gb nb cap (N+1) s kd r) (hwf:WF N s K) (n:Nat) (h1:1≤n) (hn:n≤N) :
  Calls Tryz.prog 50 #[.pointer (some ⟨gb,0,none⟩),.int .i64 n] w fun e w'=>∃ v,e=.returned (.tuple #[v,.int .i64 0])∧w'.ownsRow w.heap.size 3 1 v (K n).length (ints (K n))∧Below w.heap.size w w':=by
 have HH:Hid (Held w B gb nb cap (N+1) s kd r):=h
 have HW:Hid (WF N s K):=hwf
 have hL:=h.hL
 have hb:hasB (N+1) n=true:=by simp [hasB];omega
 clear h hwf
 go_enter Tryz.func50, Tryz.ntmps50
 go_wp2_with fail
 refine (hasF HH.out n).mono ?_
 rintro e w ⟨rfl,rfl⟩
 go_wp2_with fail
 refine (kidsF HH.out HW.out n h1 hn).mono ?_
 rintro e w1 ⟨v,rfl,hown,hbel⟩
 go_wp2_with fail
 go_ret2
 exact ⟨v,rfl,hown,hbel⟩
end
open Go.RowKit Gv
section
variable {w:World} {B gb nb cap N:Nat} {s:Fo} {kd:Nat→Value} {r:Re}
theorem parentG (h:Held w B gb nb cap (N+1) s kd r) (n:Nat) (h1:1≤n) (hn:n≤N) :
  Calls Tryz.prog 25 #[.pointer (some ⟨gb,0,none⟩),.int .i64 n] w fun e w'=>e=.returned (.tuple #[.int .i64 (s.par n),.int .i64 0])∧w'=w:=by
 have HH:Hid (Held w B gb nb cap (N+1) s kd r):=h
 have hL:=h.hL
 have hb:hasB (N+1) n=true:=by simp [hasB];omega
 clear h
 go_enter Tryz.func25, Tryz.ntmps25
 go_wp2_with fail
 refine (hasF HH.out n).mono ?_
 rintro e w ⟨rfl,rfl⟩
 go_wp2_with fail
 refine (parentF HH.out n (by omega)).mono ?_
 rintro e w ⟨rfl,rfl⟩
 go_wp2_with fail
 go_ret2
 exact ⟨rfl,rfl⟩
end
open Go.RowKit Gv
def KV (k:Nat) (v:Value):Prop :=
 (k=1∧v=.iface 181 (.agg #[]))∨(k=2∧∃ eb,v=.iface 143 (.pointer (some ⟨eb,0,none⟩)))∨(k=3∧∃ t:ByteArray,v=.iface 214 (.agg #[.string t]))∨(k=4∧∃ t:ByteArray,v=.iface 215 (.agg #[.string t]))
theorem asRR (w:World):(Instr.typeAssert (.iface 181 (.agg #[])) 123 181 true).run Tryz.prog w=.ok (.tuple #[.agg #[],.bool true]) w:=by kernel_rfl
theorem asRE (w:World):(Instr.typeAssert (.iface 181 (.agg #[])) 123 143 true).run Tryz.prog w=.ok (.tuple #[.pointer none,.bool false]) w:=by kernel_rfl
theorem asER (eb:Nat) (w:World):(Instr.typeAssert (.iface 143 (.pointer (some ⟨eb,0,none⟩))) 123 181 true).run Tryz.prog w=.ok (.tuple #[.agg #[],.bool false]) w:=by kernel_rfl
theorem asEE (eb:Nat) (w:World):(Instr.typeAssert (.iface 143 (.pointer (some ⟨eb,0,none⟩))) 123 143 true).run Tryz.prog w=.ok (.tuple #[.pointer (some ⟨eb,0,none⟩),.bool true]) w:=by kernel_rfl
theorem asET (eb:Nat) (w:World):(Instr.typeAssert (.iface 143 (.pointer (some ⟨eb,0,none⟩))) 123 214 true).run Tryz.prog w=.ok (.tuple #[.agg #[.string ByteArray.empty],.bool false]) w:=by kernel_rfl
theorem asTR (t:ByteArray) (w:World):(Instr.typeAssert (.iface 214 (.agg #[.string t])) 123 181 true).run Tryz.prog w=.ok (.tuple #[.agg #[],.bool false]) w:=by kernel_rfl
theorem asTE (t:ByteArray) (w:World):(Instr.typeAssert (.iface 214 (.agg #[.string t])) 123 143 true).run Tryz.prog w=.ok (.tuple #[.pointer none,.bool false]) w:=by kernel_rfl
theorem asTT (t:ByteArray) (w:World):(Instr.typeAssert (.iface 214 (.agg #[.string t])) 123 214 true).run Tryz.prog w=.ok (.tuple #[.agg #[.string t],.bool true]) w:=by kernel_rfl
theorem asNR (t:ByteArray) (w:World):(Instr.typeAssert (.iface 215 (.agg #[.string t])) 123 181 true).run Tryz.prog w=.ok (.tuple #[.agg #[],.bool false]) w:=by kernel_rfl
theorem asNE (t:ByteArray) (w:World):(Instr.typeAssert (.iface 215 (.agg #[.string t])) 123 143 true).run Tryz.prog w=.ok (.tuple #[.pointer none,.bool false]) w:=by kernel_rfl
theorem asNT (t:ByteArray) (w:World):(Instr.typeAssert (.iface 215 (.agg #[.string t])) 123 214 true).run Tryz.prog w=.ok (.tuple #[.agg #[.string ByteArray.empty],.bool false]) w:=by kernel_rfl
theorem mKR (x : Value) (w : World) : (method 356 181 x "MayHaveKids").run Tryz.prog w = .ok (222, x) w := by kernel_rfl
theorem mKR' (w:World):Calls Tryz.prog 222 #[.agg #[]] w fun e w'=>e=.returned (.bool true)∧Below w.heap.size w w':=by
 go_enter Tryz.func222, Tryz.ntmps222
 go_wp2
 go_ret
 first | exact ⟨rfl,(Below.refl _ _).alloc (Nat.le_refl _) _⟩ | exact ⟨rfl,Below.refl _ _⟩
theorem mKE (x : Value) (w : World) : (method 356 143 x "MayHaveKids").run Tryz.prog w = .ok (220, x) w := by kernel_rfl
theorem mKE' (eb:Nat) (w:World):Calls Tryz.prog 220 #[.pointer (some ⟨eb,0,none⟩)] w fun e w'=>e=.returned (.bool true)∧Below w.heap.size w w':=by
 go_enter Tryz.func220, Tryz.ntmps220
 go_wp2
 go_ret
 first | exact ⟨rfl,(Below.refl _ _).alloc (Nat.le_refl _) _⟩ | exact ⟨rfl,Below.refl _ _⟩
theorem mKT (x : Value) (w : World) : (method 356 214 x "MayHaveKids").run Tryz.prog w = .ok (224, x) w := by kernel_rfl
theorem mKT' (t:ByteArray) (w:World):Calls Tryz.prog 224 #[.agg #[.string t]] w fun e w'=>e=.returned (.bool false)∧Below w.heap.size w w':=by
 go_enter Tryz.func224, Tryz.ntmps224
 go_wp2
 go_ret
 first | exact ⟨rfl,(Below.refl _ _).alloc (Nat.le_refl _) _⟩ | exact ⟨rfl,Below.refl _ _⟩
theorem mKN (x : Value) (w : World) : (method 356 215 x "MayHaveKids").run Tryz.prog w = .ok (226, x) w := by kernel_rfl
theorem mKN' (t:ByteArray) (w:World):Calls Tryz.prog 226 #[.agg #[.string t]] w fun e w'=>e=.returned (.bool false)∧Below w.heap.size w w':=by
 go_enter Tryz.func226, Tryz.ntmps226
 go_wp2
 go_ret
 first | exact ⟨rfl,(Below.refl _ _).alloc (Nat.le_refl _) _⟩ | exact ⟨rfl,Below.refl _ _⟩
theorem mPR (x : Value) (w : World) : (method 356 181 x "MayHaveParent").run Tryz.prog w = .ok (223, x) w := by kernel_rfl
theorem mPR' (w:World):Calls Tryz.prog 223 #[.agg #[]] w fun e w'=>e=.returned (.bool false)∧Below w.heap.size w w':=by
 go_enter Tryz.func223, Tryz.ntmps223
 go_wp2
 go_ret
 first | exact ⟨rfl,(Below.refl _ _).alloc (Nat.le_refl _) _⟩ | exact ⟨rfl,Below.refl _ _⟩
theorem mPE (x : Value) (w : World) : (method 356 143 x "MayHaveParent").run Tryz.prog w = .ok (221, x) w := by kernel_rfl
theorem mPE' (eb:Nat) (w:World):Calls Tryz.prog 221 #[.pointer (some ⟨eb,0,none⟩)] w fun e w'=>e=.returned (.bool true)∧Below w.heap.size w w':=by
 go_enter Tryz.func221, Tryz.ntmps221
 go_wp2
 go_ret
 first | exact ⟨rfl,(Below.refl _ _).alloc (Nat.le_refl _) _⟩ | exact ⟨rfl,Below.refl _ _⟩
theorem mPT (x : Value) (w : World) : (method 356 214 x "MayHaveParent").run Tryz.prog w = .ok (225, x) w := by kernel_rfl
theorem mPT' (t:ByteArray) (w:World):Calls Tryz.prog 225 #[.agg #[.string t]] w fun e w'=>e=.returned (.bool true)∧Below w.heap.size w w':=by
 go_enter Tryz.func225, Tryz.ntmps225
 go_wp2
 go_ret
 first | exact ⟨rfl,(Below.refl _ _).alloc (Nat.le_refl _) _⟩ | exact ⟨rfl,Below.refl _ _⟩
theorem mPN (x : Value) (w : World) : (method 356 215 x "MayHaveParent").run Tryz.prog w = .ok (227, x) w := by kernel_rfl
theorem mPN' (t:ByteArray) (w:World):Calls Tryz.prog 227 #[.agg #[.string t]] w fun e w'=>e=.returned (.bool true)∧Below w.heap.size w w':=by
 go_enter Tryz.func227, Tryz.ntmps227
 go_wp2
 go_ret
 first | exact ⟨rfl,(Below.refl _ _).alloc (Nat.le_refl _) _⟩ | exact ⟨rfl,Below.refl _ _⟩
theorem mKAll {k : Nat} {v : Value} (h : KV k v) : ∃ t x f, v = .iface t x ∧ (∀ w : World, (method 356 t x "MayHaveKids").run Tryz.prog w = .ok (f, x) w) ∧ (∀ w : World, (callFunc f #[x]).run Tryz.prog w = .ok (.enter f #[x]) w) ∧ ∀ w : World, Calls Tryz.prog f #[x] w fun e w' => e = .returned (.bool (decide (k ≤ 2))) ∧ Below w.heap.size w w' := by
 rcases h with ⟨rfl,rfl⟩ | ⟨rfl,eb,rfl⟩ | ⟨rfl,t,rfl⟩ | ⟨rfl,t,rfl⟩
 ·exact ⟨_,_,_,rfl,fun w=>mKR _ w,fun w=>by kernel_rfl,fun w=>mKR' w⟩
 ·exact ⟨_,_,_,rfl,fun w=>mKE _ w,fun w=>by kernel_rfl,fun w=>mKE' eb w⟩
 ·exact ⟨_,_,_,rfl,fun w=>mKT _ w,fun w=>by kernel_rfl,fun w=>mKT' t w⟩
 ·exact ⟨_,_,_,rfl,fun w=>mKN _ w,fun w=>by kernel_rfl,fun w=>mKN' t w⟩
theorem mPAll {k : Nat} {v : Value} (h : KV k v) : ∃ t x f, v = .iface t x ∧ (∀ w : World, (method 356 t x "MayHaveParent").run Tryz.prog w = .ok (f, x) w) ∧ (∀ w : World, (callFunc f #[x]).run Tryz.prog w = .ok (.enter f #[x]) w) ∧ ∀ w : World, Calls Tryz.prog f #[x] w fun e w' => e = .returned (.bool (decide (k ≠ 1))) ∧ Below w.heap.size w w' := by
 rcases h with ⟨rfl,rfl⟩ | ⟨rfl,eb,rfl⟩ | ⟨rfl,t,rfl⟩ | ⟨rfl,t,rfl⟩
 ·exact ⟨_,_,_,rfl,fun w=>mPR _ w,fun w=>by kernel_rfl,fun w=>mPR' w⟩
 ·exact ⟨_,_,_,rfl,fun w=>mPE _ w,fun w=>by kernel_rfl,fun w=>mPE' eb w⟩
 ·exact ⟨_,_,_,rfl,fun w=>mPT _ w,fun w=>by kernel_rfl,fun w=>mPT' t w⟩
 ·exact ⟨_,_,_,rfl,fun w=>mPN _ w,fun w=>by kernel_rfl,fun w=>mPN' t w⟩
section
variable {w:World} {B gb nb cap N:Nat} {s:Fo} {kd:Nat→Value} {K:Nat→List Nat} {r:Re}
theorem elementF (h:Held w B gb nb cap (N+1) s kd r) (n:Nat) (hn:n≤N) {k:Nat} (hk:KV k (kd n)) :
  Calls Tryz.prog 87 #[.pointer (some ⟨gb,0,none⟩),.int .i64 n] w fun e w'=>w'=w∧((k=2∧∃ eb,kd n=.iface 143 (.pointer (some ⟨eb,0,none⟩))∧e=.returned (.pointer (some ⟨eb,0,none⟩)))∨(k≠2∧e=.returned (.pointer none))):=by
 have HH:Hid (Held w B gb nb cap (N+1) s kd r):=h
 have hL:=h.hL
 have a1:=asRE
 have a2:=asEE
 have a3:=asTE
 have a4:=asNE
 clear h
 rcases hk with ⟨rfl,hk⟩ | ⟨rfl,eb,hk⟩ | ⟨rfl,t,hk⟩ | ⟨rfl,t,hk⟩
 all_goals
  have HK:Hid (kd n=_):=hk
  clear hk
  go_enter Tryz.func87, Tryz.ntmps87
  go_wp2_with fail
  refine (kindF HH.out n (by omega) HK.out).mono ?_
  rintro e w ⟨rfl,rfl⟩
  go_wp2_with fail
  go_ret
 ·exact ⟨rfl,.inr ⟨by omega,rfl⟩⟩
 ·exact ⟨rfl,.inl ⟨by trivial,eb,HK.out,rfl⟩⟩
 ·exact ⟨rfl,.inr ⟨by omega,rfl⟩⟩
 ·exact ⟨rfl,.inr ⟨by omega,rfl⟩⟩
end
end Go.Proofs.YtcedebpoihcbdaaGreatDoor
