/-
  A grove as one thing: all that it holds, where it lies, what is seen of it; blocks that are not its own may turn.
  A grove as one thing: what Put, Take and Make make of it.
  A grove as one thing: its lists: NewList, Watch, Len, Item, Named; ById.
-/
import Derived.Test.YtcedebpoihcbdaaGreatDoorLF
import Derived.Test.YtcedebpoihcbdaaGreatDoorVA
import Derived.Test.YtcedebpoihcbdaaGreatDoorFA
set_option linter.unusedVariables false
set_option maxHeartbeats 1000000
set_option maxRecDepth 100000
namespace Go.Proofs.YtcedebpoihcbdaaGreatDoor
open Go.RowKit Go.Shelf Gv
structure Gx where
 gb:Nat
 nb:Nat
 cap:Nat
 N:Nat
 kk:Nat→Nat
 tg:Nat→ByteArray
 kd:Nat→Value
 mp:Nat→Nat
 σ:St
 r:Re
 A:Nat→ByteArray→Option ByteArray
 ls:List Ls
 ws:List Wk
def Gx.own (g:Gx) (i:Nat):Prop :=
 i=g.gb∨i=g.nb∨g.r.lv.ownBlock=some i∨g.r.iv.ownBlock=some i∨g.r.wv.ownBlock=some i ∨
 (∃ m,1≤m∧m≤g.N∧g.kk m=2∧(i=g.mp m∨g.kd m=.iface 143 (.pointer (some ⟨i,0,none⟩)))) ∨
 (∃ x,x∈g.ls∧x.fv.ownBlock=some i)∨(∃ x,x∈g.σ.its∧x.rules.ownBlock=some i)∨(∃ x,x∈g.ws∧x.rules.ownBlock=some i)
section
variable {g:Gx} {i:Nat}
theorem Gx.own_g:g.own g.gb:=.inl rfl
theorem Gx.own_n:g.own g.nb:=.inr (.inl rfl)
theorem Gx.own_lv (h:g.r.lv.ownBlock=some i):g.own i:=.inr (.inr (.inl h))
theorem Gx.own_iv (h:g.r.iv.ownBlock=some i):g.own i:=.inr (.inr (.inr (.inl h)))
theorem Gx.own_wv (h:g.r.wv.ownBlock=some i):g.own i:=.inr (.inr (.inr (.inr (.inl h))))
theorem Gx.own_mp {m:Nat} (h1:1≤m) (h2:m≤g.N) (h3:g.kk m=2):g.own (g.mp m):=.inr (.inr (.inr (.inr (.inr (.inl ⟨m,h1,h2,h3,.inl rfl⟩)))))
theorem Gx.own_el {m:Nat} (h1:1≤m) (h2:m≤g.N) (h3:g.kk m=2) (h4:g.kd m=.iface 143 (.pointer (some ⟨i,0,none⟩))):g.own i:=.inr (.inr (.inr (.inr (.inr (.inl ⟨m,h1,h2,h3,.inr h4⟩)))))
theorem Gx.own_fv {x:Ls} (hx:x∈g.ls) (h:x.fv.ownBlock=some i):g.own i:=.inr (.inr (.inr (.inr (.inr (.inr (.inl ⟨x,hx,h⟩))))))
theorem Gx.own_ir {x:It} (hx:x∈g.σ.its) (h:x.rules.ownBlock=some i):g.own i:=.inr (.inr (.inr (.inr (.inr (.inr (.inr (.inl ⟨x,hx,h⟩)))))))
theorem Gx.own_wr {x:Wk} (hx:x∈g.ws) (h:x.rules.ownBlock=some i):g.own i:=.inr (.inr (.inr (.inr (.inr (.inr (.inr (.inr ⟨x,hx,h⟩)))))))
theorem Gx.own_gset (h:gset g.gb g.nb g.r.iv i):g.own i:=by
 rcases h with h | h | h
 ·rw [h];exact Gx.own_g
 ·rw [h];exact Gx.own_n
 ·exact Gx.own_iv h
end
structure GOK (B:Nat) (w:World) (g:Gx):Prop where
 grl:Grl B w g.gb g.nb g.cap g.N g.kk g.tg g.kd g.mp g.σ g.r g.A g.ls
 wks:Wks w B g.r.wv g.ws
 lo:Lo g.N g.σ.s
 irs:∀ x,x∈g.σ.its→Rls w B x.rules x.rl
 wrs:∀ x,x∈g.ws→Rls w B x.rules x.rl
 wok:∀ x,x∈g.ws→1≤x.root∧x.root≤g.N∧1≤x.here∧x.here≤g.N
 pl0:0≤g.r.pl
 cl0:0≤g.r.cl
 zero:g.r.pl=0→∀ p,g.σ.K p=[]
section
variable {B:Nat} {w w':World} {g g':Gx}
theorem GOK.gro (h:GOK B w g):Gro B w g.gb g.nb g.cap g.N g.kk g.tg g.kd g.mp g.σ g.r:=h.grl.gro
theorem GOK.held (h:GOK B w g):Held w B g.gb g.nb g.cap (g.N+1) g.σ.s g.kd g.r:=h.grl.gro.held
theorem GOK.wf (h:GOK B w g):WF g.N g.σ.s g.σ.K:=h.grl.gro.wf
theorem GOK.N3 (h:GOK B w g):g.N≤300:=h.grl.gro.N1
theorem GOK.keep (h:GOK B w g) (hk:∀ i,g.own i→w'.heap[i]?=w.heap[i]?):GOK B w' g:=by
 have hg:=h.grl
 refine ⟨⟨⟨hg.gro.held.same (hk _ Gx.own_g) (hk _ Gx.own_n),hg.gro.wf,hg.gro.kinds,hg.gro.its.same (fun i hi=>hk i (Gx.own_iv hi)),hg.gro.sound,fun m h1 h2 h3=>?_⟩,⟨fun m h1 h2 h3=>(hg.ats.at_ m h1 h2 h3).same (hk _ (Gx.own_mp h1 h2 h3)),hg.ats.short,hg.ats.low,hg.ats.inj⟩,⟨ownsRow_same hg.lss.row (fun i hi=>hk i (Gx.own_lv hi)),hg.lss.few,fun x hx=>ownsRow_same (hg.lss.found x hx) (fun i hi=>hk i (Gx.own_fv hx hi))⟩,hg.ok⟩,h.wks.same (fun i hi=>hk i (Gx.own_wv hi)),h.lo,fun x hx=>⟨ownsRow_same (h.irs x hx).row (fun i hi=>hk i (Gx.own_ir hx hi)),(h.irs x hx).few⟩,fun x hx=>⟨ownsRow_same (h.wrs x hx).row (fun i hi=>hk i (Gx.own_wr hx hi)),(h.wrs x hx).few⟩,h.wok,h.pl0,h.cl0,h.zero⟩
 obtain ⟨eb,e1,e2,e3⟩:=hg.gro.els m h1 h2 h3
 exact ⟨eb,e1,(hk eb (Gx.own_el h1 h2 h3 e1)).trans e2,e3⟩
theorem GOK.bounds (h:GOK B w g) {i:Nat} (hi:g.own i):B≤i∧i<w.heap.size:=by
 have hg:=h.grl
 rcases hi with rfl | rfl | hi | hi | hi | ⟨m,h1,h2,h3,rfl | hi⟩ | ⟨x,hx,hi⟩ | ⟨x,hx,hi⟩ | ⟨x,hx,hi⟩
 ·exact ⟨hg.gro.held.hB,hg.gro.held.ltg⟩
 ·exact ⟨hg.gro.held.Bn,hg.gro.held.ltn⟩
 ·exact hg.lss.row.lt i hi
 ·exact hg.gro.its.row.lt i hi
 ·exact h.wks.row.lt i hi
 ·exact ⟨hg.ats.low m h1 h2 h3,(hg.ats.at_ m h1 h2 h3).lt⟩
 ·obtain ⟨eb,e1,e2,e3⟩:=hg.gro.els m h1 h2 h3
  rw [e1] at hi
  simp only [Value.iface.injEq,Value.pointer.injEq,Option.some.injEq,Addr.mk.injEq,and_true,true_and] at hi
  subst hi
  exact ⟨e3,lt_of_block e2⟩
 ·exact (hg.lss.found x hx).lt i hi
 ·exact (h.irs x hx).row.lt i hi
 ·exact (h.wrs x hx).row.lt i hi
theorem GOK.since (h:GOK B w g) (hb:Below w.heap.size w w'):GOK B w' g:=h.keep (fun i hi=>hb.block i (h.bounds hi).2)
theorem GOK.frOther {S:Nat→Prop} (h:GOK B w g) (hf:Fr S w w') (hS:∀ i,g.own i→¬ S i):GOK B w' g:=h.keep (fun i hi=>hf.block i (h.bounds hi).2 (hS i hi))
structure Post (B:Nat) (w w':World) (g g':Gx):Prop where
 ok:GOK B w' g'
 fr:Fr g.own w w'
 own:∀ i,g'.own i→g.own i∨w.heap.size≤i
 at_:g'.gb=g.gb
theorem Post.of_below (h:GOK B w g) (hb:Below w.heap.size w w'):Post B w w' g g:=⟨h.since hb,Fr.of_below hb,fun _ hi=>.inl hi,rfl⟩
theorem Post.refl (h:GOK B w g):Post B w w g g:=Post.of_below h (Below.refl _ _)
theorem Post.trans {w2:World} {g2:Gx} (h:Post B w w' g g') (k:Post B w' w2 g' g2):Post B w w2 g g2:=by
 refine ⟨k.ok,⟨k.fr.os.trans h.fr.os,k.fr.tape.trans h.fr.tape,k.fr.output.trans h.fr.output,Nat.le_trans h.fr.size k.fr.size,fun i hi hn=>?_⟩,fun i hi=>?_,k.at_.trans h.at_⟩
 ·rw [k.fr.block i (Nat.lt_of_lt_of_le hi h.fr.size) (fun e=>?_),h.fr.block i hi hn]
  rcases h.own i e with e | e
  ·exact hn e
  ·omega
 ·rcases k.own i hi with e | e
  ·exact h.own i e
  ·exact .inr (Nat.le_trans h.fr.size e)
theorem Post.below {D:Nat} (h:Post B w w' g g') (hg:GOK B w g) (hD:D≤B) (hs:D≤w.heap.size):Below D w w':=h.fr.below hs (fun _ hi=>Nat.le_trans hD (hg.bounds hi).1)
theorem Post.other {o:Gx} (h:Post B w w' g g') (ho:GOK B w o) (hd:∀ i,g.own i→¬ o.own i):GOK B w' o∧∀ i,g'.own i→¬ o.own i:=by
 refine ⟨ho.frOther h.fr (fun i hi e=>hd i e hi),fun i hi e=>?_⟩
 rcases h.own i hi with e' | e'
 ·exact hd i e' e
 ·have:=(ho.bounds e).2;omega
theorem GOK.rest {S:Nat→Prop} (h:GOK B w g) (hF:Fr S w w') (hS:∀ i cs t fr,S i→w.heap[i]?=some (.cells cs t fr)→t≠88∧t≠32) :
  Wks w' B g.r.wv g.ws∧(∀ x,x∈g.σ.its→Rls w' B x.rules x.rl)∧(∀ x,x∈g.ws→Rls w' B x.rules x.rl) :=
 ⟨⟨row_stays h.wks.row hF (fun i cs fr hi e=>(hS i cs _ fr hi e).1 rfl),h.wks.few⟩,fun x hx=>⟨row_stays (h.irs x hx).row hF (fun i cs fr hi e=>(hS i cs _ fr hi e).2 rfl),(h.irs x hx).few⟩,fun x hx=>⟨row_stays (h.wrs x hx).row hF (fun i cs fr hi e=>(hS i cs _ fr hi e).2 rfl),(h.wrs x hx).few⟩⟩
theorem GOK.tyG (h:GOK B w g) {cs:Array Value} {t:TypeId} {fr:Nat × Nat} (e:w.heap[g.gb]?=some (.cells cs t fr)):t=72:=by
 rw [h.held.g] at e
 simp only [Option.some.injEq,Obj.cells.injEq] at e
 exact e.2.1.symm
theorem GOK.tyN (h:GOK B w g) {cs:Array Value} {t:TypeId} {fr:Nat × Nat} (e:w.heap[g.nb]?=some (.cells cs t fr)):t=133:=by
 obtain ⟨cur,hn,_⟩:=h.held.block
 rw [hn] at e
 simp only [Option.some.injEq,Obj.cells.injEq] at e
 exact e.2.1.symm
theorem row_ty {D n t t' size:Nat} {v:Value} {xs:List Value} {cs:Array Value} {fr:Nat × Nat} {i:Nat} (h:w.ownsRow D t size v n xs) (hi:v.ownBlock=some i) (e:w.heap[i]?=some (.cells cs t' fr)):t'=t:=by
 by_cases ht:t'=t
 ·exact ht
 ·exact absurd hi (row_apart h e (fun e'=>ht e'.symm))
theorem GOK.gset_ty (h:GOK B w g):∀ i cs t fr,gset g.gb g.nb g.r.iv i→w.heap[i]?=some (.cells cs t fr)→t≠88∧t≠32:=by
 rintro i cs t fr (rfl | rfl | hi) e
 ·rw [h.tyG e];decide
 ·rw [h.tyN e];decide
 ·rw [row_ty h.gro.its.row hi e];decide
theorem out_rules {N:Nat} {s:Fo} {c:Nat} {its:List It} {x:It} (hx:x∈itsOut N s c its):∃ y,y∈its∧y.rules=x.rules∧y.rl=x.rl:=by
 unfold itsOut at hx
 split at hx
 ·exact ⟨x,hx,rfl,rfl⟩
 ·obtain ⟨y,hy,rfl⟩:=List.mem_map.1 hx
  exact ⟨y,hy,rfl,rfl⟩
end
open Go.RowKit Go.Shelf Gv
theorem mark_in {N:Nat} {s:Fo} {K:Nat→List Nat} (hwf:WF N s K) {p c b:Nat} (hc1:1≤c) (hcN:c≤N) (hb:b=0∨b∈K p):markOf s c b=0∨markOf s c b∈dropK K c p:=by
 unfold markOf
 by_cases e:b=c
 ·subst e
  rw [if_pos rfl]
  rcases hb with rfl | hb
  ·omega
  ·obtain ⟨xs,ys,hK⟩:=split_of_mem hb
   have hn:=hwf.nd p
   rw [hK] at hn
   rw [(hwf.sides hK).2]
   by_cases hy:ys=[]
   ·subst hy;exact .inl rfl
   ·right
    simp only [dropK,hK]
    rw [filter_split (split_nodup hn).1 (split_nodup hn).2]
    exact List.mem_append.2 (.inr (head_mem hy 0))
 ·rw [if_neg e]
  rcases hb with rfl | hb
  ·exact .inl rfl
  ·right
   simp only [dropK,List.mem_filter]
   exact ⟨hb,by simp [e]⟩
section
variable {B:Nat} {w w':World} {g g':Gx}
theorem GOK.moved (h:GOK B w g) {σ':St} {r':Re} (hG:Gro B w' g.gb g.nb g.cap g.N g.kk g.tg g.kd g.mp σ' r') (hF:Fr (gset g.gb g.nb g.r.iv) w w') {m:Nat} (hl:g.r.like r' m) (hs:r'.pl=g.r.pl→σ'.K=g.σ.K) (hlo:Lo g.N σ'.s) (hit:∀ x,x∈σ'.its→∃ y,y∈g.σ.its∧y.rules=x.rules∧y.rl=x.rl) :
  Post B w w' g { g with σ:=σ',r:=r' }:=by
 have hR:=h.rest hF h.gset_ty
 obtain ⟨cur,hn,_⟩:=h.held.block
 have hmaps:∀ i es c,gset g.gb g.nb g.r.iv i→w.heap[i]?≠some (.map es c):=by
  rintro i es c (rfl | rfl | hi) e
  ·rw [h.held.g] at e;cases e
  ·rw [hn] at e;cases e
  ·rcases row_form h.gro.its.row with ⟨e',_⟩ | ⟨g',c',e',_,_,⟨cur,hc⟩,_⟩
   ·rw [e'] at hi;simp [Value.ownBlock] at hi
   ·rw [e'] at hi
    simp only [Value.ownBlock,Option.some.injEq] at hi
    subst hi
    rw [hc] at e;cases e
 have hty:∀ i cs t fr,gset g.gb g.nb g.r.iv i→w.heap[i]?=some (.cells cs t fr)→t≠3∧t≠77:=by
  rintro i cs t fr (rfl | rfl | hi) e
  ·rw [h.tyG e];decide
  ·rw [h.tyN e];decide
  ·rw [row_ty h.gro.its.row hi e];decide
 obtain ⟨l1,l2,l3,l4,l5,l6⟩:=hl
 refine ⟨⟨⟨hG,h.grl.ats.fr hF hmaps,by show Lss w' B r'.lv g.ls;rw [l2];exact h.grl.lss.fr hF hty,fun x hx=>?_⟩,by show Wks w' B r'.wv g.ws;rw [l4];exact hR.1,hlo,fun x hx=>?_,hR.2.2,h.wok,?_,?_,fun e=>?_⟩,hF.mono (fun i hi=>Gx.own_gset hi),fun i hi=>.inl ?_,rfl⟩
 ·obtain ⟨a1,a2,a3,a4,a5⟩:=h.grl.ok x hx
  have hnow:nowCl x.how r'=nowCl x.how g.r:=by unfold nowCl;rw [l1]
  refine ⟨a1,a2,by show x.pl≤r'.pl;omega,fun e=>by have:=a4 e;show x.cl≤r'.cl;rw [l1];exact this,fun e1 e2=>?_⟩
  have e1':x.pl=r'.pl:=e1
  have e3:r'.pl=g.r.pl:=by omega
  show x.fd=lookF g.N g.kk g.tg g.A σ'.K x.root x.how x.what
  rw [hs e3]
  exact a5 (by omega) (by rw [← hnow];exact e2)
 ·obtain ⟨y,hy,e1,e2⟩:=hit x hx
  rw [← e1,← e2]
  exact hR.2.1 y hy
 ·show 0≤r'.pl;have:=h.pl0;omega
 ·show 0≤r'.cl;rw [l1];exact h.cl0
 ·have e':r'.pl=0:=e
  have hp:=h.pl0
  have e0:g.r.pl=0:=by omega
  show ∀ p,σ'.K p=[]
  rw [hs (by omega)]
  exact h.zero e0
 ·rcases hi with hi | hi | hi | hi | hi | hi | hi | ⟨x,hx,hi⟩ | hi
  ·exact .inl hi
  ·exact .inr (.inl hi)
  ·exact Gx.own_lv (by rw [← l2];exact hi)
  ·exact Gx.own_iv (by rw [← l3];exact hi)
  ·exact Gx.own_wv (by rw [← l4];exact hi)
  ·exact .inr (.inr (.inr (.inr (.inr (.inl hi)))))
  ·exact .inr (.inr (.inr (.inr (.inr (.inr (.inl hi))))))
  ·obtain ⟨y,hy,e1,_⟩:=hit x hx
   exact Gx.own_ir hy (by rw [e1];exact hi)
  ·exact .inr (.inr (.inr (.inr (.inr (.inr (.inr (.inr hi)))))))
def Gx.tookS (g:Gx) (n:Nat):St:={ s:=g.σ.s.remove n,K:=dropK g.σ.K n,its:=g.σ.its.map (It.leave g.N g.σ.s n) }
def Gx.putS (g:Gx) (p c b:Nat):St:={ s:=(Fo.out g.σ.s c).insert p c (markOf g.σ.s c b),K:=chK g.σ.K p c (markOf g.σ.s c b),its:=itsOut g.N g.σ.s c g.σ.its }
theorem takeX (h:GOK B w g) (c:Int) (hpl:g.r.pl≤4611686018427387903) :
  Calls Tryz.prog 49 #[.pointer (some ⟨g.gb,0,none⟩),.int .i64 c] w fun e w' =>
   (e=.returned (.int .i64 5)∧hasB (g.N+1) c=false∧Post B w w' g g)∨∃ n:Nat,c=n∧1≤n∧n≤g.N ∧
     ((e=.returned (.int .i64 8)∧g.σ.s.par n=0∧Post B w w' g g)∨(e=.returned (.int .i64 0)∧g.σ.s.par n≠0∧Post B w w' g { g with σ:=g.tookS n,r:=g.r.more })):=by
 refine (takeC h.held h.wf h.gro.its h.gro.sound c h.pl0 (by omega)).mono ?_
 rintro e w' ⟨q,rfl,hF,hcase⟩
 rcases hcase with ⟨rfl,hb,rfl⟩ | ⟨n,rfl,h1,hn,hcase⟩
 ·exact .inl ⟨rfl,hb,Post.refl h⟩
 ·refine .inr ⟨n,rfl,h1,hn,?_⟩
  rcases hcase with ⟨rfl,h0,rfl⟩ | ⟨rfl,h0,hH,hI⟩
  ·exact .inl ⟨rfl,h0,Post.refl h⟩
  ·right
   have hwf:=out_wf h.wf h1 hn
   have ho:Fo.out g.σ.s n=g.σ.s.remove n:=by unfold Fo.out;rw [if_neg h0]
   rw [ho] at hwf
   refine ⟨rfl,h0,h.moved (m:=1) ⟨hH,hwf,h.gro.kinds,hI,fun it hit=>?_,h.gro.els' hF⟩ hF (g.r.like_more) (fun e=>absurd e (by show g.r.pl+1≠g.r.pl;omega)) (h.lo.remove h.wf h1 hn h0) (fun x hx=>?_)⟩
   ·obtain ⟨it0,h2,rfl⟩:=List.mem_map.1 hit
    have:=leave_sound h.wf (by omega) (h.gro.sound it0 h2) h1 hn
    rw [ho] at this
    exact this
   ·obtain ⟨y,hy,rfl⟩:=List.mem_map.1 hx
    exact ⟨y,hy,rfl,rfl⟩
theorem putX (h:GOK B w g) (p c b:Int) (hpl:g.r.pl≤4611686018427387903) :
  Calls Tryz.prog 11 #[.pointer (some ⟨g.gb,0,none⟩),.int .i64 p,.int .i64 c,.int .i64 b] w fun e w'=>∃ q:Int,e=.returned (.int .i64 q)∧PutErr g.N g.σ.s g.σ.K g.kk p c b q ∧
   ((q≠0∧Post B w w' g g)∨(q=0∧∃ p' c' b':Nat,p=p'∧c=c'∧b=b'∧1≤p'∧p'≤g.N∧1≤c'∧c'≤g.N∧(b'=0∨b'∈g.σ.K p')∧¬ Desc g.σ.s.par p' c'∧Post B w w' g { g with σ:=g.putS p' c' b',r:=(g.r.outed g.σ.s c').more })):=by
 refine (putC h.held h.wf h.gro.kinds h.gro.its h.gro.sound p c b h.pl0 (by omega)).mono ?_
 rintro e w' ⟨q,rfl,hF,hq,hcase⟩
 refine ⟨q,rfl,hq,?_⟩
 rcases hcase with ⟨hq0,hH,hI⟩ | ⟨rfl,p',c',b',rfl,rfl,rfl,hH,hI⟩
 ·left
  refine ⟨hq0,?_⟩
  have:=h.moved (m:=0) (σ':=g.σ) (r':=g.r) ⟨hH,h.wf,h.gro.kinds,hI,h.gro.sound,h.gro.els' hF⟩ hF (g.r.like_refl 0) (fun _=>rfl) h.lo (fun x hx=>⟨x,hx,rfl,rfl⟩)
  exact this
 ·right
  obtain ⟨p2,c2,b2,f1,f2,f3,hp1,hpN,hc1,hcN,k1,k2,k3,hb,_⟩:=putErr_zero h.wf hq
  obtain rfl:p'=p2:=by omega
  obtain rfl:c'=c2:=by omega
  obtain rfl:b'=b2:=by omega
  refine ⟨rfl,p',c',b',rfl,rfl,rfl,hp1,hpN,hc1,hcN,hb,k3,?_⟩
  have hwf:=put_chK h.wf hc1 hcN hp1 hpN k3 hb
  have hiv:(g.r.outed g.σ.s c').more.iv=g.r.iv:=by show (g.r.outed g.σ.s c').iv=g.r.iv;exact g.r.outed_iv g.σ.s c'
  have hout:∀ it,it∈itsOut g.N g.σ.s c' g.σ.its→it.Sound g.N (Fo.out g.σ.s c'):=by
   intro it hit
   unfold itsOut at hit
   by_cases h0:g.σ.s.par c'=0
   ·rw [if_pos h0] at hit
    have ho:Fo.out g.σ.s c'=g.σ.s:=by unfold Fo.out;rw [if_pos h0]
    rw [ho]
    exact h.gro.sound it hit
   ·rw [if_neg h0] at hit
    obtain ⟨it0,h2,rfl⟩:=List.mem_map.1 hit
    exact leave_sound h.wf (by omega) (h.gro.sound it0 h2) hc1 hcN
  have hmk:=mark_in h.wf hc1 hcN hb
  refine h.moved (m:=2) ⟨hH,hwf,h.gro.kinds,by rw [hiv];exact hI,fun it hit=>?_,h.gro.els' hF⟩ hF (g.r.like_put g.σ.s c') (fun e=>absurd e (Re.put_more g.r g.σ.s c')) ((h.lo.out h.wf hc1 hcN).insert (out_wf h.wf hc1 hcN) hc1 hp1 hpN hmk) (fun x hx=>out_rules hx)
  obtain ⟨g1,g2,g3,g4,g5⟩:=hout it hit
  exact ⟨g1,g2,g3,g4,insert_within (out_wf h.wf hc1 hcN) (by rw [out_par,up_same]) hc1 g1 g5⟩
theorem kidsX (h:GOK B w g) (n:Int) :
  Calls Tryz.prog 50 #[.pointer (some ⟨g.gb,0,none⟩),.int .i64 n] w fun e w'=>Below w.heap.size w w' ∧
   ((hasB (g.N+1) n=false∧e=.returned (.tuple #[.slice none 0 0,.int .i64 5]))∨∃ m:Nat,n=m∧1≤m∧m≤g.N∧∃ v,e=.returned (.tuple #[v,.int .i64 0])∧w'.ownsRow w.heap.size 3 1 v (g.σ.K m).length (ints (g.σ.K m))):=by
 cases hb:hasB (g.N+1) n with
 | true =>
  obtain ⟨m,rfl,h1,hN⟩:=has_nat hb
  refine (kidsG h.held h.wf m h1 hN).mono ?_
  rintro e w' ⟨v,rfl,ho,hbel⟩
  exact ⟨hbel,.inr ⟨m,rfl,h1,hN,v,rfl,ho⟩⟩
 | false =>
  have HH:Hid (Held w B g.gb g.nb g.cap (g.N+1) g.σ.s g.kd g.r):=h.held
  clear h
  go_enter Tryz.func50, Tryz.ntmps50
  go_wp2_with fail
  refine (hasF HH.out n).mono ?_
  rintro e w ⟨rfl,rfl⟩
  rw [hb]
  go_wp2_with fail
  go_ret2
  exact ⟨Below.refl _ _,.inl ⟨trivial,rfl⟩⟩
theorem parentX (h:GOK B w g) (n:Int) :
  Calls Tryz.prog 25 #[.pointer (some ⟨g.gb,0,none⟩),.int .i64 n] w fun e w'=>w'=w ∧
   ((hasB (g.N+1) n=false∧e=.returned (.tuple #[.int .i64 0,.int .i64 5]))∨∃ m:Nat,n=m∧1≤m∧m≤g.N∧e=.returned (.tuple #[.int .i64 (g.σ.s.par m),.int .i64 0])):=by
 cases hb:hasB (g.N+1) n with
 | true =>
  obtain ⟨m,rfl,h1,hN⟩:=has_nat hb
  refine (parentG h.held m h1 hN).mono ?_
  rintro e w' ⟨rfl,rfl⟩
  exact ⟨rfl,.inr ⟨m,rfl,h1,hN,rfl⟩⟩
 | false =>
  have HH:Hid (Held w B g.gb g.nb g.cap (g.N+1) g.σ.s g.kd g.r):=h.held
  clear h
  go_enter Tryz.func25, Tryz.ntmps25
  go_wp2_with fail
  refine (hasF HH.out n).mono ?_
  rintro e w ⟨rfl,rfl⟩
  rw [hb]
  go_wp2_with fail
  go_ret2
  exact ⟨rfl,.inl ⟨trivial,rfl⟩⟩
theorem withinX (h:GOK B w g) (n:Nat) (h1:1≤n) (hn:n≤g.N) :
  Calls Tryz.prog 24 #[.pointer (some ⟨g.gb,0,none⟩),.int .i64 n,.int .i64 g.N] w fun e w'=>∃ v,e=.returned v∧w'.ownsRow w.heap.size 3 1 v (P g.N g.σ.K n).length (ints (P g.N g.σ.K n))∧Below w.heap.size w w':=by
 have hN:=h.N3
 have:=withinL (B:=B) (gb:=g.gb) (nb:=g.nb) (cap:=g.cap) (N:=g.N) (s:=g.σ.s) (kd:=g.kd) (r:=g.r) h.wf g.N w n g.N h.held h1 hn (by omega) (by omega)
 rwa [wi_P h.wf (by omega) h1 hn] at this
theorem changeX (h:GOK B w g) (hno:∀ i,g.kk i≠1) (hpl2:g.r.pl≤1000000) (hN:1≤g.N) (a b c:Int) (ha:-9223372036854775808≤a∧a≤9223372036854775807) (hb:-9223372036854775808≤b∧b≤9223372036854775807) (hc:-9223372036854775808≤c∧c≤9223372036854775807) :
  Calls Tryz.prog 17 #[.pointer (some ⟨g.gb,0,none⟩),.int .i64 g.N,.int .i64 a,.int .i64 b,.int .i64 c] w fun e w'=>e=.returned (.tuple #[])∧∃ r',r'.pl≤g.r.pl+2∧Post B w w' g { g with σ:=g.σ.change g.N g.kk a b c,r:=r' }:=by
 refine (changeS2 h.gro hno h.pl0 hpl2 hN a b c ha hb hc).mono ?_
 rintro e w' ⟨rfl,r',hG,hl,hF,hs⟩
 refine ⟨rfl,r',hl.2.2.2.2.2,h.moved hG hF hl (fun e=>congrArg St.K (hs e)) ?_ (fun x hx=>?_)⟩
 ·have pa:=pickF_lt a (n:=g.N) hN
  have pb:=pickF_lt b (n:=g.N) hN
  unfold St.change
  split
  ·unfold St.take
   split
   ·exact h.lo
   ·rename_i hp
    exact h.lo.remove h.wf (by omega) (by omega) hp
  ·unfold St.put
   split
   ·rename_i hk
    have hbf:=befF_ok g.σ.K (1+pickF b g.N) c
    exact (h.lo.out h.wf (by omega) (by omega)).insert (out_wf h.wf (by omega) (by omega)) (by omega) (by omega) (by omega) (mark_in h.wf (by omega) (by omega) hbf)
   ·exact h.lo
 ·unfold St.change at hx
  split at hx
  ·unfold St.take at hx
   split at hx
   ·exact ⟨x,hx,rfl,rfl⟩
   ·obtain ⟨y,hy,rfl⟩:=List.mem_map.1 hx
    exact ⟨y,hy,rfl,rfl⟩
  ·unfold St.put at hx
   split at hx
   ·exact out_rules hx
   ·exact ⟨x,hx,rfl,rfl⟩
end
open Go.RowKit Go.Shelf Gv
def nameErr (how:Int) (what:ByteArray):Bool :=
 (decide (how=1) && (!(what.toList == [42]) && !nameB what.data.toList)) || (decide (how=2) && (what.toList.isEmpty || decide (0≤Lib.indexByte what.data.toList 32)))
def listErr (how:Int) (what:ByteArray):Int:=if how<1∨4<how then 1 else if nameErr how what=true then 2 else if 40<what.size then 3 else 0
theorem list_ask {how:Int} {what:ByteArray} (h:listErr how what=0):∃ k:Nat,how=k∧mayAsk k what:=by
 unfold listErr at h
 split at h
 ·cases h
 ·rename_i h1
  split at h
  ·cases h
  ·rename_i h2
   split at h
   ·cases h
   ·rename_i h3
    obtain ⟨k,rfl⟩:=Int.eq_ofNat_of_zero_le (show 0≤how by omega)
    refine ⟨k,rfl,by omega,?_⟩
    obtain rfl | rfl | rfl | rfl:k=1∨k=2∨k=3∨k=4:=by omega
    ·left
     refine ⟨rfl,?_⟩
     cases e:(what.toList == [42]) with
     | true=>exact .inl rfl
     | false =>
      cases e2:nameB what.data.toList with
      | true=>exact .inr ⟨rfl,rfl⟩
      | false=>exact absurd (by simp [nameErr,e,e2]) h2
    ·right;left
     cases e:what.toList.isEmpty with
     | true=>exact absurd (by simp [nameErr,e]) h2
     | false =>
      cases e2:decide (0≤Lib.indexByte what.data.toList 32) with
      | true=>exact absurd (by unfold nameErr;rw [e2];simp) h2
      | false=>exact ⟨rfl,rfl,rfl⟩
    ·exact .inr (.inr (.inl rfl))
    ·exact .inr (.inr (.inr rfl))
theorem listErr_is {how:Int} {what:ByteArray} (h1:1≤how) (h4:how≤4):listErr how what=if nameErr how what=true then 2 else if 40<what.size then 3 else 0:=by unfold listErr;rw [if_neg (by omega)]
theorem newListE (root how:Int) (what:ByteArray) (w:World) (hs:what.size≤maxLen) (hne:listErr how what≠0) :
  Calls Tryz.prog 41 #[.int .i64 root,.int .i64 how,.string what] w fun e w'=>e=.returned (.tuple #[.agg #[.int .i64 0,.int .i64 0,.string ByteArray.empty,.slice none 0 0,.int .i64 0,.int .i64 0],.int .i64 (listErr how what)])∧Below w.heap.size w w':=by
 have HS:Hid (what.size≤maxLen):=hs
 have hsz:(what.size:Int)≤9223372036854775807:=by unfold maxLen at hs;omega
 clear hs
 have fin:∀ {w1:World} {q:Int},Below w.heap.size w w1→q=listErr how what→(Ending.returned (.tuple #[.agg #[.int .i64 0,.int .i64 0,.string ByteArray.empty,.slice none 0 0,.int .i64 0,.int .i64 0],.int .i64 q])=.returned (.tuple #[.agg #[.int .i64 0,.int .i64 0,.string ByteArray.empty,.slice none 0 0,.int .i64 0,.int .i64 0],.int .i64 (listErr how what)])∧Below w.heap.size w w1):=fun hb e=>⟨by rw [e],hb⟩
 have FIN:Hid _:=@fin
 clear fin
 by_cases h1:how=1
 ·subst h1
  cases e1:(what.toList == [42]) with
  | true =>
   by_cases h40:40<what.size
   ·have HE:Hid ((3:Int)=listErr 1 what):=by show (3:Int)=_;rw [listErr_is (by decide) (by decide),show nameErr 1 what=false from by simp [nameErr,e1],if_neg (by decide),if_pos h40]
    have d:(40:Int)<(what.size:Int):=by omega
    go_enter Tryz.func41, Tryz.ntmps41
    go_wp2_with fail
    exact bodyPost_ret (v:=.tuple #[.agg #[.int .i64 0,.int .i64 0,.string ByteArray.empty,.slice none 0 0,.int .i64 0,.int .i64 0],.int .i64 3]) (by simp [results,Tryz.results41,go_sem];rfl) rfl (FIN.out ((Below.refl _ _).alloc (Nat.le_refl _) _) HE.out)
   ·exfalso
    apply hne
    rw [listErr_is (by decide) (by decide),show nameErr 1 what=false from by simp [nameErr,e1],if_neg (by decide),if_neg h40]
  | false =>
   cases e2:nameB what.data.toList with
   | false =>
    have HE:Hid ((2:Int)=listErr 1 what):=by show (2:Int)=_;rw [listErr_is (by decide) (by decide),show nameErr 1 what=true from by simp [nameErr,e1,e2],if_pos rfl]
    have HN:Hid (nameB what.data.toList=false):=e2
    clear e2
    go_enter Tryz.func41, Tryz.ntmps41
    go_wp2_with fail
    refine (isName what _ HS.out).mono ?_
    rintro e w1 ⟨rfl,rfl⟩
    rw [HN.out]
    go_wp2_with fail
    exact bodyPost_ret (v:=.tuple #[.agg #[.int .i64 0,.int .i64 0,.string ByteArray.empty,.slice none 0 0,.int .i64 0,.int .i64 0],.int .i64 2]) (by simp [results,Tryz.results41,go_sem];rfl) rfl (FIN.out ((Below.refl _ _).alloc (Nat.le_refl _) _) HE.out)
   | true =>
    exfalso
    apply hne
    have h8:¬ 40<what.size:=by
     have h:=e2
     unfold nameB at h
     simp only [Bool.and_eq_true,decide_eq_true_eq] at h
     have:=h.1.2
     simp at this
     omega
    rw [listErr_is (by decide) (by decide),show nameErr 1 what=false from by simp [nameErr,e2],if_neg (by decide),if_neg h8]
 ·by_cases h2:how=2
  ·subst h2
   cases e1:what.toList.isEmpty with
   | true =>
    have HE:Hid ((2:Int)=listErr 2 what):=by show (2:Int)=_;rw [listErr_is (by decide) (by decide),show nameErr 2 what=true from by simp [nameErr,e1],if_pos rfl]
    go_enter Tryz.func41, Tryz.ntmps41
    go_wp2_with fail
    exact bodyPost_ret (v:=.tuple #[.agg #[.int .i64 0,.int .i64 0,.string ByteArray.empty,.slice none 0 0,.int .i64 0,.int .i64 0],.int .i64 2]) (by simp [results,Tryz.results41,go_sem];rfl) rfl (FIN.out ((Below.refl _ _).alloc (Nat.le_refl _) _) HE.out)
   | false =>
    cases e2:decide (0≤Lib.indexByte what.data.toList 32) with
    | true =>
     have HE:Hid ((2:Int)=listErr 2 what):=by show (2:Int)=_;rw [listErr_is (by decide) (by decide),show nameErr 2 what=true from by unfold nameErr;rw [e2];simp,if_pos rfl]
     have HD:Hid (decide (0≤Lib.indexByte what.data.toList 32)=true):=e2
     clear e2
     go_enter Tryz.func41, Tryz.ntmps41
     go_wp2_with fail
     refine (hasBlank what _).mono ?_
     rintro e w1 ⟨rfl,rfl⟩
     rw [HD.out]
     go_wp2_with fail
     exact bodyPost_ret (v:=.tuple #[.agg #[.int .i64 0,.int .i64 0,.string ByteArray.empty,.slice none 0 0,.int .i64 0,.int .i64 0],.int .i64 2]) (by simp [results,Tryz.results41,go_sem];rfl) rfl (FIN.out ((Below.refl _ _).alloc (Nat.le_refl _) _) HE.out)
    | false =>
     by_cases h40:40<what.size
     ·have HE:Hid ((3:Int)=listErr 2 what):=by show (3:Int)=_;rw [listErr_is (by decide) (by decide),show nameErr 2 what=false from by unfold nameErr;rw [e1,e2];rfl,if_neg (by decide),if_pos h40]
      have d:(40:Int)<(what.size:Int):=by omega
      have HD:Hid (decide (0≤Lib.indexByte what.data.toList 32)=false):=e2
      clear e2
      go_enter Tryz.func41, Tryz.ntmps41
      go_wp2_with fail
      refine (hasBlank what _).mono ?_
      rintro e w1 ⟨rfl,rfl⟩
      rw [HD.out]
      go_wp2_with fail
      exact bodyPost_ret (v:=.tuple #[.agg #[.int .i64 0,.int .i64 0,.string ByteArray.empty,.slice none 0 0,.int .i64 0,.int .i64 0],.int .i64 3]) (by simp [results,Tryz.results41,go_sem];rfl) rfl (FIN.out ((Below.refl _ _).alloc (Nat.le_refl _) _) HE.out)
     ·exfalso
      apply hne
      rw [listErr_is (by decide) (by decide),show nameErr 2 what=false from by unfold nameErr;rw [e1,e2];rfl,if_neg (by decide),if_neg h40]
  ·by_cases h34:how=3∨how=4
   ·have hno:nameErr how what=false:=by simp [nameErr,h1,h2]
    by_cases h40:40<what.size
    ·have HE:Hid ((3:Int)=listErr how what):=by show (3:Int)=_;rw [listErr_is (by omega) (by omega),hno,if_neg (by decide),if_pos h40]
     have d:(40:Int)<(what.size:Int):=by omega
     clear hno hne h1 h2
     rcases h34 with rfl | rfl
     all_goals
      go_enter Tryz.func41, Tryz.ntmps41
      go_wp2_with fail
      exact bodyPost_ret (v:=.tuple #[.agg #[.int .i64 0,.int .i64 0,.string ByteArray.empty,.slice none 0 0,.int .i64 0,.int .i64 0],.int .i64 3]) (by simp [results,Tryz.results41,go_sem];rfl) rfl (FIN.out ((Below.refl _ _).alloc (Nat.le_refl _) _) HE.out)
    ·exfalso
     apply hne
     rw [listErr_is (by omega) (by omega),hno,if_neg (by decide),if_neg h40]
   ·have HE:Hid ((1:Int)=listErr how what):=by show (1:Int)=_;unfold listErr;rw [if_pos (by omega)]
    have b1:(how == 1)=false:=by simpa using h1
    have b2:(how == 2)=false:=by simpa using h2
    have b3:(how == 3)=false:=by simp;omega
    have b4:(how == 4)=false:=by simp;omega
    clear h1 h2 h34 hne
    go_enter Tryz.func41, Tryz.ntmps41
    go_wp2_with fail
    exact bodyPost_ret (v:=.tuple #[.agg #[.int .i64 0,.int .i64 0,.string ByteArray.empty,.slice none 0 0,.int .i64 0,.int .i64 0],.int .i64 1]) (by simp [results,Tryz.results41,go_sem];rfl) rfl (FIN.out ((Below.refl _ _).alloc (Nat.le_refl _) _) HE.out)
end Go.Proofs.YtcedebpoihcbdaaGreatDoor
