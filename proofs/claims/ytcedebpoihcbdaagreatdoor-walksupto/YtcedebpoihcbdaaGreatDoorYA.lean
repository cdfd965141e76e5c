/-
  A grove as a state, and what the law's 'change' makes of it (no node is a root).
  What a filter says of a node.
  What makes a filter without rules, and an iterator: NewFilter, mayFilter, NewIterator, Iter.
-/
import Derived.Test.YtcedebpoihcbdaaGreatDoorWC
import Derived.Deep.QuietTactic
import Derived.Deep.RegionLaw
set_option maxHeartbeats 1000000
set_option maxRecDepth 100000
namespace Go.Proofs.YtcedebpoihcbdaaGreatDoor
open Go.RowKit Gv
structure St where
 s:Fo
 K:Nat→List Nat
 its:List It
def St.take (N:Nat) (σ:St) (n:Nat):St:=if σ.s.par n=0 then σ else { s:=σ.s.remove n,K:=dropK σ.K n,its:=σ.its.map (It.leave N σ.s n) }
def St.put (N:Nat) (kk:Nat→Nat) (σ:St) (p c b:Nat):St :=
 if kk p≤2∧withF σ.s N p c=false then { s:=(Fo.out σ.s c).insert p c (markOf σ.s c b),K:=chK σ.K p c (markOf σ.s c b),its:=itsOut N σ.s c σ.its } else σ
def befF (K:Nat→List Nat) (p:Nat) (c:Int):Nat:=if 0<(K p).length∧0<pickF c 3 then (K p).getD (pickF (c.tdiv 3) (K p).length) 0 else 0
def St.change (N:Nat) (kk:Nat→Nat) (σ:St) (a b c:Int):St :=
 if pickF c 4=0 then σ.take N (1+pickF a N) else σ.put N kk (1+pickF b N) (1+pickF a N) (befF σ.K (1+pickF b N) c)
structure Gro (B:Nat) (w:World) (gb nb cap N:Nat) (kk:Nat→Nat) (tg:Nat→ByteArray) (kd:Nat→Value) (mp:Nat→Nat) (σ:St) (r:Re):Prop where
 held:Held w B gb nb cap (N+1) σ.s kd r
 wf:WF N σ.s σ.K
 kinds:Kinds N kk kd
 its:Its w B r.iv σ.its
 sound:∀ it,it∈σ.its→it.Sound N σ.s
 els:∀ i,1≤i→i≤N→kk i=2→El w B (kd i) (tg i) (mp i)
def Re.like (r r':Re) (m:Nat):Prop:=r'.cl=r.cl∧r'.lv=r.lv∧r'.iv=r.iv∧r'.wv=r.wv∧r.pl≤r'.pl∧r'.pl≤r.pl+m
theorem Re.like_refl (r:Re) (m:Nat):r.like r m:=⟨rfl,rfl,rfl,rfl,Int.le_refl _,by omega⟩
theorem Re.like_more (r:Re):r.like r.more 1:=⟨rfl,rfl,rfl,rfl,by show r.pl≤r.pl+1;omega,by show r.pl+1≤r.pl+((1:Nat):Int);omega⟩
theorem Re.like_put (r:Re) (s:Fo) (c:Nat):r.like (r.outed s c).more 2:=by
 unfold Re.outed
 split
 ·exact ⟨rfl,rfl,rfl,rfl,by show r.pl≤r.pl+1;omega,by show r.pl+1≤r.pl+((2:Nat):Int);omega⟩
 ·exact ⟨rfl,rfl,rfl,rfl,by show r.pl≤r.pl+1+1;omega,by show r.pl+1+1≤r.pl+((2:Nat):Int);omega⟩
theorem Re.put_more (r:Re) (s:Fo) (c:Nat):(r.outed s c).more.pl≠r.pl:=by
 unfold Re.outed
 split
 ·show r.pl+1≠r.pl;omega
 ·show r.pl+1+1≠r.pl;omega
theorem Re.like.up {r r':Re} {m n:Nat} (h:r.like r' m) (hn:m≤n):r.like r' n:=⟨h.1,h.2.1,h.2.2.1,h.2.2.2.1,h.2.2.2.2.1,by have:=h.2.2.2.2.2;omega⟩
section
variable {B:Nat} {w w':World} {gb nb cap N:Nat} {kk:Nat→Nat} {tg:Nat→ByteArray} {kd:Nat→Value} {mp:Nat→Nat} {σ:St} {r:Re}
theorem Gro.since (h:Gro B w gb nb cap N kk tg kd mp σ r) (hb:Below w.heap.size w w'):Gro B w' gb nb cap N kk tg kd mp σ r :=
 ⟨h.held.since hb,h.wf,h.kinds,h.its.since hb,h.sound,fun i h1 hN h2=>(h.els i h1 hN h2).since hb⟩
theorem Gro.noEl (h:Gro B w gb nb cap N kk tg kd mp σ r):∀ i cs fr,gset gb nb r.iv i→w.heap[i]?≠some (.cells cs 189 fr):=by
 rintro i cs fr (hi | hi | hi) e
 ·exact h.held.noEl i cs fr (.inl hi) e
 ·exact h.held.noEl i cs fr (.inr hi) e
 ·exact row_apart h.its.row e (by decide) hi
theorem Gro.setB (h:Gro B w gb nb cap N kk tg kd mp σ r):∀ i,gset gb nb r.iv i→B≤i:=by
 rintro i (hi | hi | hi)
 ·exact h.held.gnB i (.inl hi)
 ·exact h.held.gnB i (.inr hi)
 ·exact (h.its.row.lt i hi).1
theorem Gro.N1 (h:Gro B w gb nb cap N kk tg kd mp σ r):N≤300:=by have:=h.held.hL;omega
theorem Gro.els' (h:Gro B w gb nb cap N kk tg kd mp σ r) (hf:Fr (gset gb nb r.iv) w w'):∀ i,1≤i→i≤N→kk i=2→El w' B (kd i) (tg i) (mp i) :=
 fun i h1 hN h2=>(h.els i h1 hN h2).fr hf h.noEl
theorem takeS2 (h:Gro B w gb nb cap N kk tg kd mp σ r) (hpl:0≤r.pl) (hpl2:r.pl≤1000000) (n:Nat) (h1:1≤n) (hn:n≤N) :
  Calls Tryz.prog 49 #[.pointer (some ⟨gb,0,none⟩),.int .i64 n] w fun e w'=>e=.returned (.int .i64 (if σ.s.par n=0 then 8 else 0))∧∃ r',Gro B w' gb nb cap N kk tg kd mp (σ.take N n) r'∧r.like r' 2∧Fr (gset gb nb r.iv) w w'∧(r'.pl=r.pl→σ.take N n=σ):=by
 refine (takeC h.held h.wf h.its h.sound n hpl (by omega)).mono ?_
 rintro e w' ⟨q,rfl,hF,hcase⟩
 rcases hcase with ⟨_,hb,_⟩ | ⟨n',e1,_,_,hcase⟩
 ·rw [hasB_nat h1 hn] at hb;cases hb
 ·obtain rfl:n=n':=by omega
  rcases hcase with ⟨rfl,h0,rfl⟩ | ⟨rfl,h0,hH,hI⟩
  ·refine ⟨by rw [if_pos h0],r,?_,r.like_refl 2,hF,fun _=>by unfold St.take;rw [if_pos h0]⟩
   unfold St.take
   rw [if_pos h0]
   exact h
  ·refine ⟨by rw [if_neg h0],_,?_,(r.like_more).up (by omega),hF,fun e=>absurd e (by show r.pl+1≠r.pl;omega)⟩
   unfold St.take
   rw [if_neg h0]
   have hwf:=out_wf h.wf h1 hn
   have ho:Fo.out σ.s n=σ.s.remove n:=by unfold Fo.out;rw [if_neg h0]
   rw [ho] at hwf
   refine ⟨hH,hwf,h.kinds,hI,fun it hit=>?_,h.els' hF⟩
   obtain ⟨it0,h2,rfl⟩:=List.mem_map.1 hit
   have:=leave_sound h.wf (by omega) (h.sound it0 h2) h1 hn
   rw [ho] at this
   exact this
theorem putS2 (h:Gro B w gb nb cap N kk tg kd mp σ r) (hno:∀ i,kk i≠1) (hpl:0≤r.pl) (hpl2:r.pl≤1000000) (p c b:Nat) (h1:1≤p) (hn:p≤N) (hc1:1≤c) (hcN:c≤N) (hb:b=0∨b∈σ.K p) :
  Calls Tryz.prog 11 #[.pointer (some ⟨gb,0,none⟩),.int .i64 p,.int .i64 c,.int .i64 b] w fun e w'=>∃ (q:Int) (r':Re),e=.returned (.int .i64 q)∧(q=0↔kk p≤2∧withF σ.s N p c=false)∧Gro B w' gb nb cap N kk tg kd mp (σ.put N kk p c b) r'∧r.like r' 2∧Fr (gset gb nb r.iv) w w'∧(r'.pl=r.pl→σ.put N kk p c b=σ):=by
 refine (putC h.held h.wf h.kinds h.its h.sound p c b hpl (by omega)).mono ?_
 rintro e w' ⟨q,rfl,hF,hq,hcase⟩
 have hq':=putErr_leafy h.wf hno h1 hn hc1 hcN hb hq
 have hw:=Gv.within_iff h.wf (n:=p) (t:=c) hn hc1
 rcases hcase with ⟨hq0,hH,hI⟩ | ⟨hq0,p',c',b',e1,e2,e3,hH,hI⟩
 ·have hnot:¬ (kk p≤2∧withF σ.s N p c=false):=by
   rintro ⟨k1,k2⟩
   rcases hq' with ⟨h,_⟩ | ⟨_,h' | h'⟩
   ·exact hq0 h
   ·rw [hw.2 h'] at k2;cases k2
   ·omega
  refine ⟨q,r,rfl,⟨fun h=>absurd h hq0,fun h=>absurd h hnot⟩,?_,r.like_refl 2,hF,fun _=>by unfold St.put;rw [if_neg hnot]⟩
  unfold St.put
  rw [if_neg hnot]
  exact ⟨hH,h.wf,h.kinds,hI,h.sound,h.els' hF⟩
 ·obtain rfl:p=p':=by omega
  obtain rfl:c=c':=by omega
  obtain rfl:b=b':=by omega
  subst hq0
  obtain ⟨p2,c2,b2,f1,f2,f3,_,_,_,_,k1,_,k3,_⟩:=putErr_zero h.wf hq
  obtain rfl:p=p2:=by omega
  obtain rfl:c=c2:=by omega
  have hyes:kk p≤2∧withF σ.s N p c=false:=by
   refine ⟨k1,?_⟩
   cases e:withF σ.s N p c with
   | false=>rfl
   | true=>exact absurd (hw.1 e) k3
  refine ⟨0,_,rfl,⟨fun _=>hyes,fun _=>rfl⟩,?_,r.like_put σ.s c,hF,fun e=>absurd e (Re.put_more r σ.s c)⟩
  unfold St.put
  rw [if_pos hyes]
  have hwf:=put_chK h.wf hc1 hcN h1 hn k3 hb
  have hiv:(r.outed σ.s c).more.iv=r.iv:=by show (r.outed σ.s c).iv=r.iv;exact r.outed_iv σ.s c
  refine ⟨hH,hwf,h.kinds,by rw [hiv];exact hI,fun it hit=>?_,h.els' hF⟩
  have hout:∀ it,it∈itsOut N σ.s c σ.its→it.Sound N (Fo.out σ.s c):=by
   intro it hit
   unfold itsOut at hit
   by_cases h0:σ.s.par c=0
   ·rw [if_pos h0] at hit
    have ho:Fo.out σ.s c=σ.s:=by unfold Fo.out;rw [if_pos h0]
    rw [ho]
    exact h.sound it hit
   ·rw [if_neg h0] at hit
    obtain ⟨it0,h2,rfl⟩:=List.mem_map.1 hit
    exact leave_sound h.wf (by omega) (h.sound it0 h2) hc1 hcN
  obtain ⟨g1,g2,g3,g4,g5⟩:=hout it hit
  exact ⟨g1,g2,g3,g4,insert_within (out_wf h.wf hc1 hcN) (by rw [out_par,up_same]) hc1 g1 g5⟩
theorem putS (h:Gro B w gb nb cap N kk tg kd mp σ r) (hno:∀ i,kk i≠1) (hpl:0≤r.pl) (hpl2:r.pl≤1000000) (p c b:Nat) (h1:1≤p) (hn:p≤N) (hc1:1≤c) (hcN:c≤N) (hb:b=0∨b∈σ.K p) :
  Calls Tryz.prog 11 #[.pointer (some ⟨gb,0,none⟩),.int .i64 p,.int .i64 c,.int .i64 b] w fun e w'=>∃ (q:Int) (r':Re),e=.returned (.int .i64 q)∧(q=0↔kk p≤2∧withF σ.s N p c=false)∧Gro B w' gb nb cap N kk tg kd mp (σ.put N kk p c b) r'∧r.like r' 2∧Fr (gset gb nb r.iv) w w' :=
 (putS2 h hno hpl hpl2 p c b h1 hn hc1 hcN hb).mono fun _ _ ⟨q,r',a,b,c,d,e,_⟩=>⟨q,r',a,b,c,d,e⟩
theorem tdiv3_bounds {c:Int} (h1:-9223372036854775808≤c) (h2:c≤9223372036854775807):-9223372036854775808≤c.tdiv 3∧c.tdiv 3≤9223372036854775807:=by
 by_cases h0:0≤c
 ·rw [Int.tdiv_eq_ediv_of_nonneg h0];omega
 ·have e:c.tdiv 3=-((-c) / 3):=by
   have:=Int.neg_tdiv (-c) 3
   rw [Int.neg_neg] at this
   rw [this,Int.tdiv_eq_ediv_of_nonneg (by omega)]
  rw [e];omega
theorem befF_ok (K:Nat→List Nat) (p:Nat) (c:Int):befF K p c=0∨befF K p c∈K p:=by
 unfold befF
 split
 ·rename_i hh
  right
  have hlt:=pickF_lt (c.tdiv 3) (n:=(K p).length) (by omega)
  rw [List.getD_eq_getElem?_getD,List.getElem?_eq_getElem hlt]
  exact List.getElem_mem _
 ·exact .inl rfl
theorem changeS2 (h:Gro B w gb nb cap N kk tg kd mp σ r) (hno:∀ i,kk i≠1) (hpl:0≤r.pl) (hpl2:r.pl≤1000000) (hN:1≤N) (a b c:Int) (ha:-9223372036854775808≤a∧a≤9223372036854775807) (hb:-9223372036854775808≤b∧b≤9223372036854775807) (hc:-9223372036854775808≤c∧c≤9223372036854775807) :
  Calls Tryz.prog 17 #[.pointer (some ⟨gb,0,none⟩),.int .i64 N,.int .i64 a,.int .i64 b,.int .i64 c] w fun e w'=>e=.returned (.tuple #[])∧∃ r',Gro B w' gb nb cap N kk tg kd mp (σ.change N kk a b c) r'∧r.like r' 2∧Fr (gset gb nb r.iv) w w'∧(r'.pl=r.pl→σ.change N kk a b c=σ):=by
 have HG:Hid (Gro B w gb nb cap N kk tg kd mp σ r):=h
 have HNo:Hid (∀ i,kk i≠1):=hno
 have hN3:=h.N1
 have hfew:(σ.K (1+pickF b N)).length≤N:=h.wf.few _
 have pa:=pickF_lt a (n:=N) hN
 have pb:=pickF_lt b (n:=N) hN
 clear h hno
 go_enter Tryz.func17, Tryz.ntmps17
 go_wp2_with fail
 refine (pickX a N w hN (by omega) ha.1 ha.2).mono ?_
 rintro e w ⟨rfl,rfl⟩
 go_wp2_with fail
 refine (pickX b N w hN (by omega) hb.1 hb.2).mono ?_
 rintro e w ⟨rfl,rfl⟩
 go_wp2_with fail
 have HCH:Hid (σ.change N kk a b c=if pickF c 4=0 then σ.take N (1+pickF a N) else σ.put N kk (1+pickF b N) (1+pickF a N) (befF σ.K (1+pickF b N) c)):=rfl
 rw [show (1+((pickF a N:Nat):Int))=((1+pickF a N:Nat):Int) from by omega,show (1+((pickF b N:Nat):Int))=((1+pickF b N:Nat):Int) from by omega]
 have n1:1≤1+pickF a N∧1+pickF a N≤N:=by omega
 have p1:1≤1+pickF b N∧1+pickF b N≤N:=by omega
 clear pa pb
 generalize 1+pickF a N=n at *
 generalize 1+pickF b N=p at *
 refine (pickX c 4 w (by omega) (by omega) hc.1 hc.2).mono ?_
 rintro e w ⟨rfl,rfl⟩
 by_cases c4:pickF c 4=0
 ·have c4':(((pickF c 4:Nat):Int) == 0)=true:=by simp [c4]
  have HC:Hid (σ.change N kk a b c=σ.take N n):=by show σ.change N kk a b c=_;rw [HCH.out,if_pos c4]
  clear c4 HCH
  go_wp2_with fail
  refine (takeS2 HG.out hpl hpl2 n n1.1 n1.2).mono ?_
  rintro e w1 ⟨rfl,r',G1,L1,F1,X1⟩
  generalize (if σ.s.par n=0 then (8:Int) else 0)=q8
  have G1':Hid _:=G1
  have L1':Hid _:=L1
  have F1':Hid _:=F1
  have X1':Hid _:=X1
  clear G1 L1 F1 X1
  go_wp2_with fail
  (try simp only [Exit.inBlock,Exit.then])
  refine bodyPost_ret (results_none rfl _ _ _) rfl ?_
  exact ⟨rfl,r',by rw [HC.out];exact G1'.out,L1'.out,F1'.out,fun e=>by rw [HC.out];exact X1'.out e⟩
 ·have c4':(((pickF c 4:Nat):Int) == 0)=false:=by simp;omega
  have HC:Hid (σ.change N kk a b c=σ.put N kk p n (befF σ.K p c)):=by show σ.change N kk a b c=_;rw [HCH.out,if_neg c4]
  have HBok:Hid (befF σ.K p c=0∨befF σ.K p c∈σ.K p):=befF_ok σ.K p c
  clear c4 HCH
  go_wp2_with fail
  refine (kidsG HG.out.held HG.out.wf p p1.1 p1.2).mono ?_
  rintro e w1 ⟨kv,rfl,hkown,hkbel⟩
  obtain ⟨_,kao,kcap,hkv,hkc,hkn⟩:=nums_of hkown
  subst hkv
  have HKN:Hid (Nums w1 kao (σ.K p).length (σ.K p)):=hkn
  have G1:Hid (Gro B w1 gb nb cap N kk tg kd mp σ r):=HG.out.since hkbel
  have F1:Hid (Fr (gset gb nb r.iv) w w1):=Fr.of_below hkbel
  clear hkown hkbel hkn
  by_cases hl:0<(σ.K p).length
  ·have hl':(0:Int)<(((σ.K p).length:Nat):Int):=by omega
   go_wp2_with fail
   refine (pickX c 3 w1 (by omega) (by omega) hc.1 hc.2).mono ?_
   rintro e w1 ⟨rfl,rfl⟩
   by_cases c3:0<pickF c 3
   ·have c3':(0:Int)<((pickF c 3:Nat):Int):=by omega
    have HBf:Hid (befF σ.K p c=(σ.K p).getD (pickF (c.tdiv 3) (σ.K p).length) 0):=by show befF σ.K p c=_;unfold befF;rw [if_pos ⟨hl,c3⟩]
    have hd3:=tdiv3_bounds hc.1 hc.2
    clear c3
    go_wp2_with fail
    refine (pickX (c.tdiv 3) (σ.K p).length w1 (by omega) (by omega) hd3.1 hd3.2).mono ?_
    rintro e w1 ⟨rfl,rfl⟩
    have pk:=pickF_lt (c.tdiv 3) (n:=(σ.K p).length) (by omega)
    rcases HKN.out with h0 | ⟨kg,hkg,hkgs,hkc'⟩
    ·omega
    subst hkg
    have hcell:=hkc' _ pk
    clear hkc'
    have HBf2:Hid (befF σ.K p c=(σ.K p).getD (pickF (c.tdiv 3) (σ.K p).length) 0):=HBf.out
    clear HBf
    generalize (σ.K p).getD (pickF (c.tdiv 3) (σ.K p).length) 0=bf at *
    generalize pickF (c.tdiv 3) (σ.K p).length=ix at *
    have ixl:(ix:Int)<(((σ.K p).length:Nat):Int):=by omega
    go_wp2_with fail
    refine (putS2 G1.out HNo.out hpl hpl2 p n bf p1.1 p1.2 n1.1 n1.2 (by rw [← HBf2.out];exact HBok.out)).mono ?_
    rintro e w2 ⟨q,r',rfl,-,G2,L2,F2,X2⟩
    have G2':Hid _:=G2
    have L2':Hid _:=L2
    have F2':Hid _:=F2
    have X2':Hid _:=X2
    clear G2 L2 F2 X2
    go_wp2_with fail
    go_end0
    exact ⟨rfl,r',by rw [HC.out,HBf2.out];exact G2'.out,L2'.out,F1.out.trans F2'.out,fun e=>by rw [HC.out,HBf2.out];exact X2'.out e⟩
   ·have c3':¬ (0:Int)<((pickF c 3:Nat):Int):=by omega
    have HBf:Hid (befF σ.K p c=0):=by show befF σ.K p c=_;unfold befF;rw [if_neg (fun h=>c3 h.2)]
    clear c3
    go_wp2_with fail
    refine (putS2 G1.out HNo.out hpl hpl2 p n 0 p1.1 p1.2 n1.1 n1.2 (.inl rfl)).mono ?_
    rintro e w2 ⟨q,r',rfl,-,G2,L2,F2,X2⟩
    have G2':Hid _:=G2
    have L2':Hid _:=L2
    have F2':Hid _:=F2
    have X2':Hid _:=X2
    clear G2 L2 F2 X2
    go_wp2_with fail
    go_end0
    exact ⟨rfl,r',by rw [HC.out,HBf.out];exact G2'.out,L2'.out,F1.out.trans F2'.out,fun e=>by rw [HC.out,HBf.out];exact X2'.out e⟩
  ·have hl':¬ (0:Int)<(((σ.K p).length:Nat):Int):=by omega
   have HBf:Hid (befF σ.K p c=0):=by show befF σ.K p c=_;unfold befF;rw [if_neg (fun h=>hl h.1)]
   clear hl
   go_wp2_with fail
   refine (putS2 G1.out HNo.out hpl hpl2 p n 0 p1.1 p1.2 n1.1 n1.2 (.inl rfl)).mono ?_
   rintro e w2 ⟨q,r',rfl,-,G2,L2,F2,X2⟩
   have G2':Hid _:=G2
   have L2':Hid _:=L2
   have F2':Hid _:=F2
   have X2':Hid _:=X2
   clear G2 L2 F2 X2
   go_wp2_with fail
   go_end0
   exact ⟨rfl,r',by rw [HC.out,HBf.out];exact G2'.out,L2'.out,F1.out.trans F2'.out,fun e=>by rw [HC.out,HBf.out];exact X2'.out e⟩
end
open Go.RowKit Gv
theorem numC {k:Nat} {v:Value} (hk:KV k v) (w:World):Calls Tryz.prog 128 #[v] w fun e w'=>e=.returned (.int .i64 k)∧w'=w:=by
 have a1:=asRR
 have a2:=asER
 have a3:=asEE
 have a4:=asTR
 have a5:=asTE
 have a6:=asTT
 have a7:=asNR
 have a8:=asNE
 have a9:=asNT
 rcases hk with ⟨rfl,rfl⟩ | ⟨rfl,eb,rfl⟩ | ⟨rfl,t,rfl⟩ | ⟨rfl,t,rfl⟩
 all_goals
  go_enter Tryz.func128, Tryz.ntmps128
  go_wp2
  go_ret
  exact ⟨rfl,rfl⟩
abbrev Rule:=ByteArray × Int
def rrow (x:Rule):List Value:=[.string x.1,.int .i64 x.2]
theorem rrow_len (x:Rule):(rrow x).length=2:=rfl
structure Rls (w:World) (B:Nat) (rv:Value) (rules:List Rule):Prop where
 row:w.ownsRow B 32 2 rv rules.length (rules.flatMap rrow)
 few:rules.length≤10
theorem Rls.since {w w':World} {B:Nat} {rv:Value} {rules:List Rule} (h:Rls w B rv rules) (hb:Below w.heap.size w w'):Rls w' B rv rules:=⟨ownsRow_since h.row hb,h.few⟩
theorem Rls.fr {S:Nat→Prop} {w w':World} {B:Nat} {rv:Value} {rules:List Rule} (h:Rls w B rv rules) (hf:Fr S w w') (hn:∀ g,rv.ownBlock=some g→¬ S g):Rls w' B rv rules:=⟨ownsRow_fr h.row hf hn,h.few⟩
def tagSays:List Rule→ByteArray→Int
 | [],_=>1
 | x :: l,t=>if (x.1.toList == t.toList)=true then x.2 else tagSays l t
def seeB (see:Int) (k:Nat):Bool:=!(bits BinOp.and IntKind.i64 see (IntKind.i64.wrap (2 ^ min k 64)) == 0)
def saysF (see:Int) (rules:List Rule) (k:Nat) (t:ByteArray):Int:=if seeB see k=true then (if k=2 then tagSays rules t else 1) else 3
theorem tagSays_skip {rules:List Rule} {t:ByteArray} {k:Nat} (h:∀ x,x∈rules.take k→(x.1.toList == t.toList)=false):tagSays rules t=tagSays (rules.drop k) t:=by
 induction k generalizing rules with
 | zero=>rfl
 | succ k ih =>
  cases rules with
  | nil=>rfl
  | cons x l =>
   have hx:(x.1.toList == t.toList)=false:=h x (by simp)
   show (if (x.1.toList == t.toList)=true then x.2 else tagSays l t)=_
   rw [if_neg (by rw [hx];simp)]
   exact ih (fun y hy=>h y (by simp [hy]))
theorem saysTagC {w:World} {B:Nat} {rv:Value} {rules:List Rule} (fb fo:Nat) (hc:w.cell? ⟨fb,fo+1,none⟩=some rv) (hR:Rls w B rv rules) (t:ByteArray) :
  Calls Tryz.prog 129 #[.pointer (some ⟨fb,fo,none⟩),.string t] w fun e w'=>e=.returned (.int .i64 (tagSays rules t))∧Below w.heap.size w w':=by
 have hfew:=hR.few
 rcases row_form hR.row with ⟨hv,hn⟩ | ⟨rb,rcap,hv,hrb,hrs,hcur,hrc⟩
 ·subst hv
  have HN:Hid (rules=[]):=List.length_eq_zero_iff.1 hn
  clear hn hR
  go_enter Tryz.func129, Tryz.ntmps129
  go_wp2_with fail
  go_loopw [12] (fun i wr=>i=.int .i64 0∧wr=w) (fun _ _=>0)
  case atStart=>exact ⟨rfl,rfl⟩
  case round =>
   obtain ⟨rfl,rfl⟩:=hrel
   obtain ⟨w,rfl⟩:∃ w:World,w=wr:=⟨_,rfl⟩
   go_wp2_with fail
   go_ret
   exact ⟨by rw [HN.out];rfl,Below.refl _ _⟩
 ·subst hv
  have HR:Hid (Rls w B (.slice (some ⟨rb,0,none⟩) rules.length rcap) rules):=hR
  clear hR hcur
  go_enter Tryz.func129, Tryz.ntmps129
  go_wp2_with fail
  go_loopw [12] (fun i wr=>∃ k:Nat,k≤rules.length∧i=.int .i64 k∧(∀ x,x∈rules.take k→(x.1.toList == t.toList)=false)∧Below w.heap.size w wr) (fun i _=>rules.length-(intOf i).toNat)
  case atStart=>exact ⟨0,Nat.zero_le _,rfl,by simp,Below.refl _ _⟩
  case round =>
   obtain ⟨k,hk,rfl,hno,hbel⟩:=hrel
   have HNo:Hid (∀ x,x∈rules.take k→(x.1.toList == t.toList)=false):=hno
   have HB:Hid (Below w.heap.size w wr):=hbel
   clear hno hbel
   by_cases hlt:k<rules.length
   ·have hget:rules[k]?=some rules[k]:=List.getElem?_eq_getElem hlt
    have hd:rules.drop k=rules[k] :: rules.drop (k+1):=List.drop_eq_getElem_cons hlt
    have htk:rules.take (k+1)=rules.take k++[rules[k]]:=List.take_succ_eq_append_getElem hlt
    have q0:wr.cell? ⟨rb,k*2,none⟩=some (.string rules[k].1):=by
     rw [HB.out.cell (p:=⟨rb,k*2,none⟩) hrs,HR.out.row.cellAt (k*2) (by omega)]
     exact flat_at rrow_len (j:=0) hget (by omega)
    have q1:wr.cell? ⟨rb,k*2+1,none⟩=some (.int .i64 rules[k].2):=by
     rw [HB.out.cell (p:=⟨rb,k*2+1,none⟩) hrs,HR.out.row.cellAt (k*2+1) (by omega)]
     exact flat_at rrow_len (j:=1) hget (by omega)
    have HD:Hid (rules.drop k=rules[k] :: rules.drop (k+1)):=hd
    have HT:Hid (rules.take (k+1)=rules.take k++[rules[k]]):=htk
    clear hget hd htk
    generalize rules[k]=x at *
    cases ht:(x.1.toList == t.toList) with
    | true =>
     have HX:Hid (tagSays rules t=x.2):=by
      show tagSays rules t=x.2
      rw [tagSays_skip HNo.out,HD.out]
      show (if (x.1.toList == t.toList)=true then x.2 else _)=_
      rw [if_pos ht]
     clear HD HT
     go_wp2_with fail
     go_ret
     exact ⟨ret_int (by rw [HX.out]),HB.out.alloc HB.out.size _⟩
    | false =>
     have HX:Hid ((x.1.toList == t.toList)=false):=ht
     go_wp2_with fail
     go_roundw
     case rel =>
      refine ⟨k+1,hlt,by go_num,fun y hy=>?_,HB.out.alloc HB.out.size _⟩
      rw [HT.out] at hy
      rcases List.mem_append.1 hy with hy | hy
      ·exact HNo.out y hy
      ·simp at hy;subst hy;exact HX.out
     case measure=>simp [intOf];omega
   ·have hkk:k=rules.length:=by omega
    subst hkk
    have HX:Hid (tagSays rules t=1):=by
     show tagSays rules t=1
     rw [tagSays_skip HNo.out,List.drop_of_length_le (Nat.le_refl _)]
     rfl
    go_wp2_with fail
    go_ret
    exact ⟨ret_int (by rw [HX.out]),HB.out⟩
theorem below_drewN0 {w w':World} {n:Nat} (h:Below w.heap.size (w.drewN n) w'):Below w.heap.size w w':=⟨h.os,h.tape,h.output,h.size,h.block⟩
theorem saysC {k:Nat} {v:Value} (hk:KV k v) {w:World} {B:Nat} {rv:Value} {rules:List Rule} {t:ByteArray} (fb fo:Nat) (see:Int) (h1:w.cell? ⟨fb,fo,none⟩=some (.int .i64 see)) (h2:w.cell? ⟨fb,fo+1,none⟩=some rv) (hR:Rls w B rv rules) (he:k=2→∃ mb,El w B v t mb) :
  Calls Tryz.prog 83 #[.pointer (some ⟨fb,fo,none⟩),v] w fun e w'=>e=.returned (.int .i64 (saysF see rules k t))∧Below w.heap.size w w':=by
 have HK:Hid (KV k v):=hk
 have HR:Hid (Rls w B rv rules):=hR
 have HE:Hid (k=2→∃ mb,El w B v t mb):=he
 clear he hR
 cases hs:seeB see k with
 | false =>
  have ht:(bits BinOp.and IntKind.i64 see (IntKind.i64.wrap (2 ^ min k 64)) == 0)=true:=by unfold seeB at hs;simpa using hs
  have HS:Hid (saysF see rules k t=3):=by show saysF see rules k t=3;simp [saysF,hs]
  clear hs hk
  go_enter Tryz.func83, Tryz.ntmps83
  go_wp2_with fail
  go_quiet ((go_at_call 128;exact Calls.quiet_of_same (numC HK.out _)))
  go_wp2_with fail
  go_ret
  exact ⟨ret_int (by rw [HS.out]),⟨rfl,rfl,rfl,Nat.le_refl _,fun _ _=>rfl⟩⟩
 | true =>
  have ht:(bits BinOp.and IntKind.i64 see (IntKind.i64.wrap (2 ^ min k 64)) == 0)=false:=by unfold seeB at hs;simpa using hs
  have HS:Hid (saysF see rules k t=if k=2 then tagSays rules t else 1):=by show saysF see rules k t=_;simp [saysF,hs]
  have a1:=asRE
  have a2:=asEE
  have a3:=asTE
  have a4:=asNE
  clear hs
  rcases hk with ⟨rfl,rfl⟩ | ⟨rfl,eb,rfl⟩ | ⟨rfl,t',rfl⟩ | ⟨rfl,t',rfl⟩
  ·rw [show (2 ^ min 1 64:Int)=2 from by decide] at ht
   go_enter Tryz.func83, Tryz.ntmps83
   go_wp2_with fail
   go_quiet ((go_at_call 128;exact Calls.quiet_of_same (numC HK.out _)))
   go_wp2_with fail
   go_ret
   exact ⟨ret_int (by rw [HS.out];rfl),⟨rfl,rfl,rfl,Nat.le_refl _,fun _ _=>rfl⟩⟩
  ·rw [show (2 ^ min 2 64:Int)=4 from by decide] at ht
   obtain ⟨mb,eb',hv,hcells,_⟩:=HE.out rfl
   simp at hv
   subst hv
   have hc0:w.cell? ⟨eb,0,none⟩=some (.string t):=cells_of hcells 0
   clear hcells
   go_enter Tryz.func83, Tryz.ntmps83
   go_wp2_with fail
   go_quiet ((go_at_call 128;exact Calls.quiet_of_same (numC HK.out _)))
   go_wp2_with fail
   refine (saysTagC (w:=w.drewN nq) (B:=B) (rv:=rv) (rules:=rules) fb fo h2 ⟨ownsRow_same HR.out.row (fun _ _=>rfl),HR.out.few⟩ t).mono ?_
   rintro e w2 ⟨rfl,hb2⟩
   have HB2:Hid _:=hb2
   clear hb2
   go_wp2_with fail
   go_ret
   exact ⟨ret_int (by rw [HS.out];rfl),below_drewN0 HB2.out⟩
  ·rw [show (2 ^ min 3 64:Int)=8 from by decide] at ht
   go_enter Tryz.func83, Tryz.ntmps83
   go_wp2_with fail
   go_quiet ((go_at_call 128;exact Calls.quiet_of_same (numC HK.out _)))
   go_wp2_with fail
   go_ret
   exact ⟨ret_int (by rw [HS.out];rfl),⟨rfl,rfl,rfl,Nat.le_refl _,fun _ _=>rfl⟩⟩
  ·rw [show (2 ^ min 4 64:Int)=16 from by decide] at ht
   go_enter Tryz.func83, Tryz.ntmps83
   go_wp2_with fail
   go_quiet ((go_at_call 128;exact Calls.quiet_of_same (numC HK.out _)))
   go_wp2_with fail
   go_ret
   exact ⟨ret_int (by rw [HS.out];rfl),⟨rfl,rfl,rfl,Nat.le_refl _,fun _ _=>rfl⟩⟩
open Go.RowKit Gv
theorem cell_same {w w':World} {b:Nat} (h:w'.heap[b]?=w.heap[b]?) (o:Nat):w'.cell? ⟨b,o,none⟩=w.cell? ⟨b,o,none⟩:=by simp [World.cell?,h]
theorem frozen_same {w w':World} {b:Nat} (h:w'.heap[b]?=w.heap[b]?) (o:Nat):w'.frozen? ⟨b,o,none⟩=w.frozen? ⟨b,o,none⟩:=by simp [World.frozen?,h]
theorem step_calls {P:Program} {ops:Array Oper} {o:Oper} {a:Act} {w:World} {K:Act→World→Prop} {Q:Exit→Act→World→Prop} {E:Prop}
  (hg:o.guard=none) (f:FuncId) (ops2:Array Operand) (tys:Array TypeId) (_:o.op=.call { callee:=.value (.func f),args:=ops2,argTypes:=tys }) (args:Array Value) (hrun:(execOp a.eval o).run P w=.ok (.enter f args) w) (v:Value) (R:World→Prop)
  (hc:Calls P f args w fun e w'=>e=.returned v∧R w') (hK:∀ w',R w'→K (a.put o.dst v) w') :
  if Region.wanted o (yielded ops a.tmps)=true then Oper.wp P o a w K Q else E:=by
 have hw:Region.wanted o (yielded ops a.tmps)=true:=by simp [Region.wanted,hg]
 rw [if_pos hw]
 unfold Oper.wp
 rw [hrun,Oper.upon_enter]
 refine hc.mono ?_
 rintro e w' ⟨rfl,hR⟩
 exact hK w' hR
theorem cloneNil (w:World):Calls Tryz.prog 126 #[.slice none 0 0] w fun e w'=>e=.returned (.slice none 0 0)∧w'=w:=by
 have he:∀ w:World,(binOp BinOp.eql 33 (.slice none 0 0) (.slice none 0 0)).run Tryz.prog w=.ok (.bool true) w:=fun _=>by kernel_rfl
 go_enter Tryz.func126, Tryz.ntmps126
 go_wp2
 go_ret
 exact ⟨rfl,rfl⟩
section
variable {w:World} {B gb nb cap N:Nat} {s:Fo} {kd:Nat→Value} {K:Nat→List Nat} {r:Re}
theorem newIterC (root:Nat) (see:Int) (ro:Option Addr) (rn rc:Nat) (w:World):Calls Tryz.prog 43 #[.int .i64 root,.agg #[.int .i64 see,.slice ro rn rc]] w fun e w'=>e=.returned (.agg #[.int .i64 root,.int .i64 see,.slice ro rn rc,.int .i64 root,.bool true])∧w'=(w.alloc (.cells #[.int .i64 see,.slice ro rn rc] 81)).alloc (.cells #[.int .i64 root,.int .i64 see,.slice ro rn rc,.int .i64 root,.bool true] 85):=by
 go_enter Tryz.func43, Tryz.ntmps43
 go_wp2_with fail
 refine bodyPost_ret (v:=.agg #[.int .i64 root,.int .i64 see,.slice ro rn rc,.int .i64 root,.bool true]) (by simp [results,Tryz.results43,go_sem]) rfl ⟨rfl,rfl⟩
end
theorem Tryz.info85:(Tryz.prog.info? 85).map (fun i=>(i.zero,i.size,i.bytes))=some (some (.agg #[.int .i64 0,.int .i64 0,.slice none 0 0,.int .i64 0,.bool false]),5,56):=by kernel_rfl
def It.new (root:Nat) (see:Int) (rv:Value):It:={ spot:={ root:=root,place:=root,ahead:=true },see:=see,rules:=rv }
def Re.setIv (r:Re) (v:Value):Re:={ r with iv:=v }
theorem iter_end {w w1 w2:World} {B gb nb cap L g ic:Nat} {s:Fo} {kd:Nat→Value} {r:Re} {its:List It} {it:It}
  (h:Held w B gb nb cap L s kd r) (hI:Its w B r.iv its) (h50:its.length<50) (hw1:Fr (fun _=>False) w w1)
  (hown:w2.ownsRow B 85 5 (.slice (some ⟨g,0,none⟩) (its.length+1) ic) (its.length+1) (its.flatMap It.row++it.row))
  (hgrow:w1.grownBy w2 r.iv.ownBlock) (hat:r.iv.ownBlock=some g∨g=w1.heap.size) :
  Held (w2.setCell ⟨gb,4,none⟩ (.slice (some ⟨g,0,none⟩) (its.length+1) ic)) B gb nb cap L s kd (r.setIv (.slice (some ⟨g,0,none⟩) (its.length+1) ic)) ∧
  Its (w2.setCell ⟨gb,4,none⟩ (.slice (some ⟨g,0,none⟩) (its.length+1) ic)) B (.slice (some ⟨g,0,none⟩) (its.length+1) ic) (its++[it]) ∧
  Fr (fun i=>i=gb∨r.iv.ownBlock=some i) w (w2.setCell ⟨gb,4,none⟩ (.slice (some ⟨g,0,none⟩) (its.length+1) ic)):=by
 have f2:Fr (fun i=>r.iv.ownBlock=some i) w w2:=(hw1.mono (fun _ h=>h.elim)).trans (Fr.of_grown hgrow (fun k hk=>hk))
 obtain ⟨cur,hn,_⟩:=h.block
 have n1:r.iv.ownBlock≠some gb:=row_apart hI.row h.g (by decide)
 have n2:r.iv.ownBlock≠some nb:=row_apart hI.row hn (by decide)
 have h2:=h.fr f2 n1 n2
 have hne:g≠gb:=by
  rintro rfl
  rcases hat with e | e
  ·exact n1 e
  ·have:=h.ltg;have:=hw1.size;omega
 refine ⟨⟨cells_setCell h2.g,?_,h.hB,h.hL⟩,⟨?_,by simp;omega⟩,?_⟩
 ·exact ownsRow_setCell_other h2.row (by simp [Value.ownBlock];exact fun e=>h.ne e.symm) _
 ·have:=ownsRow_setCell_other hown (a:=⟨gb,4,none⟩) (by simp [Value.ownBlock];exact hne) (.slice (some ⟨g,0,none⟩) (its.length+1) ic)
  simpa using this
 ·exact (f2.mono (fun i hi=>.inr hi)).setCell (.inl rfl) _
theorem al3 (w:World) (A C D:Obj):Below w.heap.size w (((w.alloc A).alloc C).alloc D).drew :=
 ((((Below.refl _ _).alloc (Nat.le_refl _) _).alloc (by simp) _).alloc (by simp;omega) _).drew
theorem step_iter_append {ops:Array Oper} {o:Oper} {a:Act} {w:World} {K:Act→World→Prop} {Q:Exit→Act→World→Prop} {E:Prop} {A C:Obj} {B n icap:Nat} {iao:Option Addr} {its:List It} {i:It}
  (hgd:o.guard=none) (s x:Operand) (ho:o.op=.call { callee:=.builtin .append,args:=#[s,x],argTypes:=#[69,69] })
  (hs:a.eval s=.slice iao n icap) (hx:a.eval x=.slice (some ⟨w.heap.size+1+1,0,none⟩) 1 1) (hrv:i.rules.oneCell'=true)
  (hown:w.ownsRow B 85 5 (.slice iao n icap) n (its.flatMap It.row)) (h50:n<50) (hB:B≤w.heap.size)
  (hK:∀ g cap w',w'.ownsRow B 85 5 (.slice (some ⟨g,0,none⟩) (n+1) cap) (n+1) (its.flatMap It.row++i.row) →
    World.grownBy (((w.alloc A).alloc C).alloc (.cells i.row.toArray 85)).drew w' (Value.slice iao n icap).ownBlock→((Value.slice iao n icap).ownBlock=some g∨g=w.heap.size+1+1+1)→g<w'.heap.size→K (a.put o.dst (.slice (some ⟨g,0,none⟩) (n+1) cap)) w') :
  if Region.wanted o (yielded ops a.tmps)=true then Oper.wp Tryz.prog o a (((w.alloc A).alloc C).alloc (.cells i.row.toArray 85)).drew K Q else E:=by
 obtain ⟨i0,hi,hz0,hz1,hz2⟩:=info_parts Tryz.info85
 refine step_append_lies _ hgd s x 69 ho B 85 i0 _ 5 56 Tryz.underlying69 hi hz0 hz1 hz2 rfl (by decide) (.slice iao n icap) n (its.flatMap It.row) hs (ownsRow_since hown (al3 w A C _)) ⟨w.heap.size+1+1,0,none⟩ 1 1 i.row hx rfl ?_ ?_ (by omega) (by unfold maxLen;omega) (by omega) (by simp;omega) (w.heap.size+1+1+1) (by simp) hK
 ·intro j u hj
  have e:(⟨w.heap.size+1+1,0,none⟩:Addr).add j=⟨w.heap.size+1+1,j,none⟩:=by unfold Addr.add;split <;> simp_all
  rw [e]
  have hb:(((w.alloc A).alloc C).alloc (.cells i.row.toArray 85)).drew.heap[w.heap.size+1+1]?=some (.cells i.row.toArray 85 (0,0)):=by
   have:=heap_alloc_new ((w.alloc A).alloc C) (.cells i.row.toArray 85)
   rw [World.size_alloc,World.size_alloc] at this
   exact this
  rw [cells_of hb j]
  simpa using hj
 ·intro u hu
  simp only [It.row,List.mem_cons,List.not_mem_nil,or_false] at hu
  rcases hu with rfl | rfl | rfl | rfl | rfl
  ·rfl
  ·rfl
  ·exact hrv
  ·rfl
  ·rfl
section
variable {B:Nat} {w:World} {gb nb cap N:Nat} {kk:Nat→Nat} {tg:Nat→ByteArray} {kd:Nat→Value} {mp:Nat→Nat} {σ:St} {r:Re}
end
end Go.Proofs.YtcedebpoihcbdaaGreatDoor
