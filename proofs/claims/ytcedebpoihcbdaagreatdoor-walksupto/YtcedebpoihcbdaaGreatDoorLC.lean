/-
  Live lists in memory; what a look at the tree finds.
  The stamps: what a list's now tells; and what its nodes does.
-/
import Derived.Test.YtcedebpoihcbdaaGreatDoorLB
import Derived.Test.YtcedebpoihcbdaaGreatDoorLA
import Derived.Deep.RegionHeld3
set_option maxHeartbeats 1000000
set_option maxRecDepth 100000
namespace Go.Proofs.YtcedebpoihcbdaaGreatDoor
open Go.RowKit Gv
structure Ls where
 root:Nat
 how:Nat
 what:ByteArray
 fv:Value
 fd:List Nat
 pl:Int
 cl:Int
def Ls.row (x:Ls):List Value:=[.int .i64 x.root,.int .i64 x.how,.string x.what,x.fv,.int .i64 x.pl,.int .i64 x.cl]
theorem Ls.row_len (x:Ls):x.row.length=6:=rfl
structure Lss (w:World) (B:Nat) (v:Value) (ls:List Ls):Prop where
 row:w.ownsRow B 77 6 v ls.length (ls.flatMap Ls.row)
 few:ls.length≤50
 found:∀ x,x∈ls→w.ownsRow B 3 1 x.fv x.fd.length (ints x.fd)
theorem Lss.since {w w':World} {B:Nat} {v:Value} {ls:List Ls} (h:Lss w B v ls) (hb:Below w.heap.size w w'):Lss w' B v ls:=⟨ownsRow_since h.row hb,h.few,fun x hx=>ownsRow_since (h.found x hx) hb⟩
theorem Lss.fr {S:Nat→Prop} {w w':World} {B:Nat} {v:Value} {ls:List Ls} (h:Lss w B v ls) (hf:Fr S w w') (hS:∀ i cs t fr,S i→w.heap[i]?=some (.cells cs t fr)→t≠3∧t≠77):Lss w' B v ls:=by
 refine ⟨ownsRow_fr h.row hf (fun g hg hs=>?_),h.few,fun x hx=>ownsRow_fr (h.found x hx) hf (fun g hg hs=>?_)⟩
 ·rcases row_form h.row with ⟨rfl,_⟩ | ⟨g',cap,rfl,_,_,⟨cur,hc⟩,_⟩
  ·simp [Value.ownBlock] at hg
  ·simp only [Value.ownBlock,Option.some.injEq] at hg
   subst hg
   exact (hS _ _ _ _ hs hc).2 rfl
 ·rcases row_form (h.found x hx) with ⟨e,_⟩ | ⟨g',cap,e,_,_,⟨cur,hc⟩,_⟩
  ·rw [e] at hg;simp [Value.ownBlock] at hg
  ·rw [e] at hg
   simp only [Value.ownBlock,Option.some.injEq] at hg
   subst hg
   exact (hS _ _ _ _ hs hc).1 rfl
theorem Lss.cellAt {w:World} {B g cap n:Nat} {ls:List Ls} (h:Lss w B (.slice (some ⟨g,0,none⟩) n cap) ls) {i j:Nat} {x:Ls} (hi:ls[i]?=some x) (hj:j<6):w.cell? ⟨g,i*6+j,none⟩=x.row[j]?:=by
 have hl:i<ls.length:=(List.getElem?_eq_some_iff.1 hi).1
 obtain rfl:=row_n h.row
 rw [h.row.cellAt (i*6+j) (by omega),flat_at Ls.row_len hi hj]
theorem Lss.free {w:World} {B g cap n:Nat} {ls:List Ls} (h:Lss w B (.slice (some ⟨g,0,none⟩) n cap) ls) (j:Nat):w.frozen? ⟨g,j,none⟩=false:=by
 obtain rfl:=row_n h.row
 exact h.row.frozenAt j
def lookF (N:Nat) (kk:Nat→Nat) (tg:Nat→ByteArray) (A:Nat→ByteArray→Option ByteArray) (K:Nat→List Nat) (root how:Nat) (what:ByteArray):List Nat :=
 (if how≤2 then (P N K root).tail else K root).filter (wantsF kk tg A how what)
section
variable {B:Nat} {w w':World} {gb nb cap N:Nat} {kk:Nat→Nat} {tg:Nat→ByteArray} {kd:Nat→Value} {mp:Nat→Nat} {σ:St} {r:Re} {A:Nat→ByteArray→Option ByteArray}
theorem tells_of (h:Gro B w gb nb cap N kk tg kd mp σ r) (hA:Ats w B N kk mp A) {lb o b1 b2:Nat} (how:Nat) (hw4:1≤how∧how≤4) (what:ByteArray) (hlb:lb<w.heap.size) (hh:w.cell? ⟨lb,o+1,none⟩=some (.int .i64 how)) (hw:w.cell? ⟨lb,o+2,none⟩=some (.string what))
  (hb1:w.cell? ⟨b1,0,none⟩=some (.pointer (some ⟨lb,o,none⟩))) (hb2:w.cell? ⟨b2,0,none⟩=some (.pointer (some ⟨gb,0,none⟩))) {l:List Nat} (hl:∀ n,n∈l→1≤n∧n≤N) {w4:World} (hB:Below w.heap.size w w4) {v:Value} {m:Nat} {xs:List Value} (hv:w4.ownsRow w.heap.size 3 1 v m xs) :
  Tells b1 b2 (fun i=>v.ownBlock=some i) (fun n=>!wantsF kk tg A how what n) l w4:=by
 intro n hn W hF
 have hW:Below w.heap.size w W:=hB.trans (hF.below hB.size (fun i hi=>(hv.lt i hi).1))
 have l1:=World.block_lt_of_cell? _ _ hb1
 have l2:=World.block_lt_of_cell? _ _ hb2
 exact lookFn (h.since hW) (hA.since hW) how hw4 what ((hW.cell (p:=⟨lb,o+1,none⟩) hlb).trans hh) ((hW.cell (p:=⟨lb,o+2,none⟩) hlb).trans hw) n (hl n hn).1 (hl n hn).2 ((hW.cell (p:=⟨b1,0,none⟩) l1).trans hb1) ((hW.cell (p:=⟨b2,0,none⟩) l2).trans hb2)
theorem kids_in (hwf:WF N σ.s σ.K) {t y:Nat} (h:y∈σ.K t):1≤y∧y≤N:=⟨(hwf.kid t y h).2.2.1,(hwf.kid t y h).2.2.2.1⟩
theorem ownsRow_base {w:World} {D D':Nat} {e:TypeId} {size:Nat} {v:Value} {n:Nat} {xs:List Value} (h:w.ownsRow D e size v n xs) (hD:D'≤D):w.ownsRow D' e size v n xs:=by
 obtain ⟨h1,h2 | ⟨g,c,cur,h3,h4,h5⟩⟩:=h
 ·exact ⟨h1,.inl h2⟩
 ·exact ⟨h1,.inr ⟨g,c,cur,h3,by omega,h5⟩⟩
theorem underB (gb t:Nat) (w:World) :
  Calls Tryz.prog 89 #[.pointer (some ⟨gb,0,none⟩),.int .i64 t] w fun e w'=>∃ Bf Bt,e=.returned (.func (.func 140) #[] #[.pointer (some ⟨Bf,0,none⟩),.pointer (some ⟨Bt,0,none⟩)])∧Bf<w'.heap.size∧Bt<w'.heap.size∧w'.cell? ⟨Bf,0,none⟩=some (.pointer (some ⟨gb,0,none⟩))∧w'.cell? ⟨Bt,0,none⟩=some (.int .i64 t)∧Below w.heap.size w w':=by
 refine (underF gb t w).mono ?_
 rintro e w' ⟨rfl,rfl⟩
 refine ⟨w.heap.size,w.heap.size+1,rfl,by simp;omega,by simp,?_,?_,((Below.refl _ w).alloc (Nat.le_refl _) _).alloc (by simp) _⟩
 ·rw [World.cell?_alloc_old _ _ _ (by simp),World.cell?_alloc_at _ _ _ _ rfl];rfl
 ·rw [World.cell?_alloc_at _ _ _ _ (by simp)];rfl
theorem notnot {l:List Nat} {p:Nat→Bool}:l.filter (fun x=>!(!p x))=l.filter p:=by simp
theorem look12 (h:Gro B w gb nb cap N kk tg kd mp σ r) (hA:Ats w B N kk mp A) (hN:1≤N) {lb o:Nat} (root how:Nat) (hw4:how=1∨how=2) (what:ByteArray) (h1:1≤root) (hn:root≤N) (hr:w.cell? ⟨lb,o,none⟩=some (.int .i64 root)) (hh:w.cell? ⟨lb,o+1,none⟩=some (.int .i64 how)) (hw:w.cell? ⟨lb,o+2,none⟩=some (.string what)) (hlb:lb<w.heap.size) :
  Calls Tryz.prog 139 #[.pointer (some ⟨lb,o,none⟩),.pointer (some ⟨gb,0,none⟩)] w fun e w'=>∃ v,e=.returned v∧w'.ownsRow w.heap.size 3 1 v (lookF N kk tg A σ.K root how what).length (ints (lookF N kk tg A σ.K root how what))∧Below w.heap.size w w':=by
 obtain ⟨W1,hW1⟩:∃ W1,W1=(w.alloc (.cells #[.pointer (some ⟨lb,o,none⟩)] 100)).alloc (.cells #[.pointer (some ⟨gb,0,none⟩)] 93):=⟨_,rfl⟩
 have hB1:Below w.heap.size w W1:=by rw [hW1];exact ((Below.refl _ w).alloc (Nat.le_refl _) _).alloc (by simp) _
 have hsz:W1.heap.size=w.heap.size+2:=by rw [hW1];simp
 have hb1:W1.cell? ⟨w.heap.size,0,none⟩=some (.pointer (some ⟨lb,o,none⟩)):=by rw [hW1,World.cell?_alloc_old _ _ _ (by simp),World.cell?_alloc_at _ _ _ _ (by simp)];rfl
 have hb2:W1.cell? ⟨w.heap.size+1,0,none⟩=some (.pointer (some ⟨gb,0,none⟩)):=by rw [hW1,World.cell?_alloc_at _ _ _ _ (by simp)];rfl
 have hr1:W1.cell? ⟨lb,o,none⟩=some (.int .i64 root):=(hB1.cell (p:=⟨lb,o,none⟩) hlb).trans hr
 have hh1:W1.cell? ⟨lb,o+1,none⟩=some (.int .i64 how):=(hB1.cell (p:=⟨lb,o+1,none⟩) hlb).trans hh
 have hw1:W1.cell? ⟨lb,o+2,none⟩=some (.string what):=(hB1.cell (p:=⟨lb,o+2,none⟩) hlb).trans hw
 have G1:=h.since hB1
 have HCol:Hid (∀ wx Bf Bt,Below W1.heap.size W1 wx→Bf<wx.heap.size→Bt<wx.heap.size→wx.cell? ⟨Bf,0,none⟩=some (.pointer (some ⟨gb,0,none⟩))→wx.cell? ⟨Bt,0,none⟩=some (.int .i64 root)→Calls Tryz.prog 174 #[.func (.func 140) #[] #[.pointer (some ⟨Bf,0,none⟩),.pointer (some ⟨Bt,0,none⟩)]] wx fun e w'=>∃ v,e=.returned v∧w'.ownsRow wx.heap.size 3 1 v (P N σ.K root).tail.length (ints (P N σ.K root).tail)∧Below wx.heap.size wx w') :=
  fun wx Bf Bt hb h2 h3 h4 h5=>collectF root G1.wf hN h1 hn wx (G1.held.since hb) h2 h3 h4 h5
 have HT:Hid _:=@tells_of _ _ _ _ _ _ _ _ _ _ _ _ _ G1 (hA.since hB1) lb o w.heap.size (w.heap.size+1) how (by omega) what (by omega) hh1 hw1 hb1 hb2
 have HI:Hid (∀ n,n∈(P N σ.K root).tail→1≤n∧n≤N):=fun n hn'=>tail_in G1.wf h1 hn hn'
 have HLn:Hid ((P N σ.K root).tail.length≤1000):=by
  have h1:=P_len G1.wf h1 hn
  have h2:=G1.N1
  show _≤_
  rw [List.length_tail]
  omega
 have HB1:Hid _:=hB1
 have HL:Hid (lookF N kk tg A σ.K root how what=(P N σ.K root).tail.filter (wantsF kk tg A how what)):=by show lookF N kk tg A σ.K root how what=_;unfold lookF;rw [if_pos (by omega)]
 have HW1:Hid (W1=(w.alloc (.cells #[.pointer (some ⟨lb,o,none⟩)] 100)).alloc (.cells #[.pointer (some ⟨gb,0,none⟩)] 93)):=hW1
 have l1:=World.block_lt_of_cell? _ _ hb1
 have l2:=World.block_lt_of_cell? _ _ hb2
 have l3:=World.block_lt_of_cell? _ _ hr1
 clear h hA hr hw G1 hB1 hW1 hw1 hsz
 generalize lookF N kk tg A σ.K root how what=lf at *
 generalize (P N σ.K root).tail=pt at *
 rcases hw4 with rfl | rfl
 all_goals
  go_enter Tryz.func139, Tryz.ntmps139
  go_wp2_with fail
  rw [← HW1.out]
  clear hh
  go_region_held3 (fun wx=>wx.cell? ⟨w.heap.size,0,none⟩=some (.pointer (some ⟨lb,o,none⟩))∧wx.cell? ⟨w.heap.size+1,0,none⟩=some (.pointer (some ⟨gb,0,none⟩))∧wx.cell? ⟨lb,o,none⟩=some (.int .i64 root)) (first | exact ⟨hb1,hb2,hr1⟩ | exact ⟨y1,y2,y3⟩ | exact ⟨z1,z2,z3⟩ | go_keep) (first
   | (go_at_call 89;refine (underB gb root _).mono ?_;rintro e w2 ⟨Bf,Bt,rfl,u1,u2,u3,u4,u5⟩;have U5:Below W1.heap.size W1 w2:=(Below.refl _ W1).drew.trans u5;have y1:w2.cell? ⟨w.heap.size,0,none⟩=some (.pointer (some ⟨lb,o,none⟩)):=(U5.cell (p:=⟨w.heap.size,0,none⟩) l1).trans hb1;have y2:w2.cell? ⟨w.heap.size+1,0,none⟩=some (.pointer (some ⟨gb,0,none⟩)):=(U5.cell (p:=⟨w.heap.size+1,0,none⟩) l2).trans hb2;have y3:w2.cell? ⟨lb,o,none⟩=some (.int .i64 root):=(U5.cell (p:=⟨lb,o,none⟩) l3).trans hr1)
   | (go_at_call 174;refine Calls.mono (HCol.out w2 Bf Bt U5 u1 u2 u3 u4) ?_;rintro e w4 ⟨v,rfl,hv,hbel⟩;have HV:Hid _:=hv;have HBel:Hid (Below W1.heap.size W1 w4):=U5.trans (hbel.mono U5.size);have z1:w4.cell? ⟨w.heap.size,0,none⟩=some (.pointer (some ⟨lb,o,none⟩)):=(HBel.out.cell (p:=⟨w.heap.size,0,none⟩) l1).trans hb1;have z2:w4.cell? ⟨w.heap.size+1,0,none⟩=some (.pointer (some ⟨gb,0,none⟩)):=(HBel.out.cell (p:=⟨w.heap.size+1,0,none⟩) l2).trans hb2;have z3:w4.cell? ⟨lb,o,none⟩=some (.int .i64 root):=(HBel.out.cell (p:=⟨lb,o,none⟩) l3).trans hr1;clear hv hbel))
  have HV:Hid _:=ownsRow_base HV.out U5.size
  go_wp2_with fail
  refine Calls.mono (deleteF w.heap.size (w.heap.size+1) _ pt W1.heap.size v w4 HLn.out HV.out (HT.out HI.out HBel.out HV.out)) ?_
  rintro e w5 ⟨v',rfl,hv',hf⟩
  have HV':Hid _:=hv'
  have HFr:Hid _:=hf
  clear hv' hf HT
  go_wp2_with fail
  go_ret
  have hs1:=HB1.out.size
  refine ⟨v',rfl,?_,HB1.out.trans ((HBel.out.trans (HFr.out.below HBel.out.size (fun i hi=>(World.ownsRow.lt HV.out i hi).1))).mono hs1)⟩
  have:=HV'.out
  rw [notnot,← HL.out] at this
  exact ownsRow_base this hs1
theorem look34 (h:Gro B w gb nb cap N kk tg kd mp σ r) (hA:Ats w B N kk mp A) {lb o:Nat} (root how:Nat) (hw4:how=3∨how=4) (what:ByteArray) (h1:1≤root) (hn:root≤N) (hr:w.cell? ⟨lb,o,none⟩=some (.int .i64 root)) (hh:w.cell? ⟨lb,o+1,none⟩=some (.int .i64 how)) (hw:w.cell? ⟨lb,o+2,none⟩=some (.string what)) (hlb:lb<w.heap.size) :
  Calls Tryz.prog 139 #[.pointer (some ⟨lb,o,none⟩),.pointer (some ⟨gb,0,none⟩)] w fun e w'=>∃ v,e=.returned v∧w'.ownsRow w.heap.size 3 1 v (lookF N kk tg A σ.K root how what).length (ints (lookF N kk tg A σ.K root how what))∧Below w.heap.size w w':=by
 obtain ⟨W1,hW1⟩:∃ W1,W1=(w.alloc (.cells #[.pointer (some ⟨lb,o,none⟩)] 100)).alloc (.cells #[.pointer (some ⟨gb,0,none⟩)] 93):=⟨_,rfl⟩
 have hB1:Below w.heap.size w W1:=by rw [hW1];exact ((Below.refl _ w).alloc (Nat.le_refl _) _).alloc (by simp) _
 have hsz:W1.heap.size=w.heap.size+2:=by rw [hW1];simp
 have hb1:W1.cell? ⟨w.heap.size,0,none⟩=some (.pointer (some ⟨lb,o,none⟩)):=by rw [hW1,World.cell?_alloc_old _ _ _ (by simp),World.cell?_alloc_at _ _ _ _ (by simp)];rfl
 have hb2:W1.cell? ⟨w.heap.size+1,0,none⟩=some (.pointer (some ⟨gb,0,none⟩)):=by rw [hW1,World.cell?_alloc_at _ _ _ _ (by simp)];rfl
 have hr1:W1.cell? ⟨lb,o,none⟩=some (.int .i64 root):=(hB1.cell (p:=⟨lb,o,none⟩) hlb).trans hr
 have hh1:W1.cell? ⟨lb,o+1,none⟩=some (.int .i64 how):=(hB1.cell (p:=⟨lb,o+1,none⟩) hlb).trans hh
 have hw1:W1.cell? ⟨lb,o+2,none⟩=some (.string what):=(hB1.cell (p:=⟨lb,o+2,none⟩) hlb).trans hw
 have G1:=h.since hB1
 have HCol:Hid (∀ wx,Below W1.heap.size W1 wx→Calls Tryz.prog 85 #[.pointer (some ⟨gb,0,none⟩),.int .i64 root] wx fun e w'=>∃ v,e=.returned v∧w'.ownsRow wx.heap.size 3 1 v (σ.K root).length (ints (σ.K root))∧Below wx.heap.size wx w') :=
  fun wx hb=>kidsF (G1.held.since hb) G1.wf root h1 hn
 have HT:Hid _:=@tells_of _ _ _ _ _ _ _ _ _ _ _ _ _ G1 (hA.since hB1) lb o w.heap.size (w.heap.size+1) how (by omega) what (by omega) hh1 hw1 hb1 hb2
 have HI:Hid (∀ n,n∈σ.K root→1≤n∧n≤N):=fun n hn'=>kids_in G1.wf hn'
 have HLn:Hid ((σ.K root).length≤1000):=by
  have h1:=G1.wf.few root
  have h2:=G1.N1
  show _≤_
  omega
 have HB1:Hid _:=hB1
 have HL:Hid (lookF N kk tg A σ.K root how what=(σ.K root).filter (wantsF kk tg A how what)):=by show lookF N kk tg A σ.K root how what=_;unfold lookF;rw [if_neg (by omega)]
 have HW1:Hid (W1=(w.alloc (.cells #[.pointer (some ⟨lb,o,none⟩)] 100)).alloc (.cells #[.pointer (some ⟨gb,0,none⟩)] 93)):=hW1
 have l1:=World.block_lt_of_cell? _ _ hb1
 have l2:=World.block_lt_of_cell? _ _ hb2
 have l3:=World.block_lt_of_cell? _ _ hr1
 clear h hA hr hw G1 hB1 hW1 hw1 hsz
 generalize lookF N kk tg A σ.K root how what=lf at *
 generalize σ.K root=pt at *
 rcases hw4 with rfl | rfl
 all_goals
  go_enter Tryz.func139, Tryz.ntmps139
  go_wp2_with fail
  rw [← HW1.out]
  clear hh
  go_region_held3 (fun wx=>wx.cell? ⟨w.heap.size,0,none⟩=some (.pointer (some ⟨lb,o,none⟩))∧wx.cell? ⟨w.heap.size+1,0,none⟩=some (.pointer (some ⟨gb,0,none⟩))∧wx.cell? ⟨lb,o,none⟩=some (.int .i64 root)) (first | exact ⟨hb1,hb2,hr1⟩ | exact ⟨z1,z2,z3⟩ | go_keep) (first
   | (go_at_call 85;refine Calls.mono (HCol.out W1.drew (Below.refl _ W1).drew) ?_;rintro e w4 ⟨v,rfl,hv,hbel⟩;have HV:Hid _:=hv;have HBel:Hid (Below W1.heap.size W1 w4):=(Below.refl _ W1).drew.trans hbel;have z1:w4.cell? ⟨w.heap.size,0,none⟩=some (.pointer (some ⟨lb,o,none⟩)):=(HBel.out.cell (p:=⟨w.heap.size,0,none⟩) l1).trans hb1;have z2:w4.cell? ⟨w.heap.size+1,0,none⟩=some (.pointer (some ⟨gb,0,none⟩)):=(HBel.out.cell (p:=⟨w.heap.size+1,0,none⟩) l2).trans hb2;have z3:w4.cell? ⟨lb,o,none⟩=some (.int .i64 root):=(HBel.out.cell (p:=⟨lb,o,none⟩) l3).trans hr1;clear hv hbel))
  have HV:Hid _:=ownsRow_base HV.out (D':=W1.heap.size) (Nat.le_refl _)
  go_wp2_with fail
  refine Calls.mono (deleteF w.heap.size (w.heap.size+1) _ pt W1.heap.size v w4 HLn.out HV.out (HT.out HI.out HBel.out HV.out)) ?_
  rintro e w5 ⟨v',rfl,hv',hf⟩
  have HV':Hid _:=hv'
  have HFr:Hid _:=hf
  clear hv' hf HT
  go_wp2_with fail
  go_ret
  have hs1:=HB1.out.size
  refine ⟨v',rfl,?_,HB1.out.trans ((HBel.out.trans (HFr.out.below HBel.out.size (fun i hi=>(World.ownsRow.lt HV.out i hi).1))).mono hs1)⟩
  have:=HV'.out
  rw [notnot,← HL.out] at this
  exact ownsRow_base this hs1
theorem lookC (h:Gro B w gb nb cap N kk tg kd mp σ r) (hA:Ats w B N kk mp A) (hN:1≤N) {lb o:Nat} (root how:Nat) (hw4:1≤how∧how≤4) (what:ByteArray) (h1:1≤root) (hn:root≤N) (hr:w.cell? ⟨lb,o,none⟩=some (.int .i64 root)) (hh:w.cell? ⟨lb,o+1,none⟩=some (.int .i64 how)) (hw:w.cell? ⟨lb,o+2,none⟩=some (.string what)) (hlb:lb<w.heap.size) :
  Calls Tryz.prog 139 #[.pointer (some ⟨lb,o,none⟩),.pointer (some ⟨gb,0,none⟩)] w fun e w'=>∃ v,e=.returned v∧w'.ownsRow w.heap.size 3 1 v (lookF N kk tg A σ.K root how what).length (ints (lookF N kk tg A σ.K root how what))∧Below w.heap.size w w':=by
 by_cases h2:how≤2
 ·exact look12 h hA hN root how (by omega) what h1 hn hr hh hw hlb
 ·exact look34 h hA root how (by omega) what h1 hn hr hh hw hlb
end
open Go.RowKit Gv
section
variable {B:Nat} {w w':World} {gb nb cap N L:Nat} {s:Fo} {kk:Nat→Nat} {tg:Nat→ByteArray} {kd:Nat→Value} {mp:Nat→Nat} {σ:St} {r:Re} {A:Nat→ByteArray→Option ByteArray}
theorem stampF (h:Held w B gb nb cap L s kd r) :
  Calls Tryz.prog 173 #[.pointer (some ⟨gb,0,none⟩)] w fun e w'=>e=.returned (.agg #[.int .i64 r.pl,.int .i64 r.cl])∧w'=w.alloc (.cells #[.int .i64 r.pl,.int .i64 r.cl] 65):=by
 have h1:=h.gpl
 have h2:=h.gcl
 have l1:=h.ltg
 clear h
 go_enter Tryz.func173, Tryz.ntmps173
 go_wp2_with fail
 exact bodyPost_ret (v:=.agg #[.int .i64 r.pl,.int .i64 r.cl]) (by simp [results,Tryz.results173,go_sem]) rfl ⟨rfl,rfl⟩
def nowCl (how:Nat) (r:Re):Int:=if how=2 then r.cl else 0
theorem nowF (h:Held w B gb nb cap L s kd r) {lb o:Nat} (how:Nat) (hlb:lb<w.heap.size) (hh:w.cell? ⟨lb,o+1,none⟩=some (.int .i64 how)) :
  Calls Tryz.prog 138 #[.pointer (some ⟨lb,o,none⟩),.pointer (some ⟨gb,0,none⟩)] w fun e w'=>e=.returned (.agg #[.int .i64 r.pl,.int .i64 (nowCl how r)])∧Below w.heap.size w w':=by
 have HH:Hid _:=h
 have hh3:(((w.alloc (.cells #[.int .i64 0,.int .i64 0] 65)).alloc (.cells #[.int .i64 r.pl,.int .i64 r.cl] 65)).alloc (.cells #[.int .i64 r.pl,.int .i64 r.cl] 65)).cell? ⟨lb,o+1,none⟩=some (.int .i64 how):=((((Below.refl _ w).alloc (Nat.le_refl _) _).alloc (by simp) _).alloc (by simp;omega) _ |>.cell (p:=⟨lb,o+1,none⟩) hlb).trans hh
 clear h hh
 by_cases h2:how=2
 ·subst h2
  have HN:Hid (nowCl 2 r=r.cl):=rfl
  generalize nowCl 2 r=q at *
  go_enter Tryz.func138, Tryz.ntmps138
  go_wp2_with fail
  refine (stampF (HH.out.alloc _)).mono ?_
  rintro e w2 ⟨rfl,rfl⟩
  go_wp2_with fail
  exact bodyPost_ret (v:=.agg #[.int .i64 r.pl,.int .i64 r.cl]) (by simp [results,Tryz.results138,go_sem]) rfl ⟨by rw [HN.out],(((Below.refl _ w).alloc (Nat.le_refl _) _).alloc (by simp) _).alloc (by simp;omega) _⟩
 ·have HN:Hid (nowCl how r=0):=by show nowCl how r=0;unfold nowCl;rw [if_neg h2]
  have h2':(((how:Nat):Int) != 2)=true:=by simp;omega
  generalize nowCl how r=q at *
  clear h2
  go_enter Tryz.func138, Tryz.ntmps138
  go_wp2_with fail
  refine (stampF (HH.out.alloc _)).mono ?_
  rintro e w2 ⟨rfl,rfl⟩
  go_wp2_with fail
  exact bodyPost_ret (v:=.agg #[.int .i64 r.pl,.int .i64 0]) (by simp [results,Tryz.results138,go_sem]) rfl ⟨by rw [HN.out],(((Below.refl _ w).alloc (Nat.le_refl _) _).alloc (by simp) _).alloc (by simp;omega) _⟩
end
end Go.Proofs.YtcedebpoihcbdaaGreatDoor
