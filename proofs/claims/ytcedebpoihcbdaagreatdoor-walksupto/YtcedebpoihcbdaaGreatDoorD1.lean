/-
  The law's world: the groves, beside each the document's, the lists that are held; who owns which block.
-/
import Derived.Test.YtcedebpoihcbdaaGreatDoorG8
import Derived.Test.YtcedebpoihcbdaaGreatDoorR11
set_option linter.unusedVariables false
namespace Go.Proofs.YtcedebpoihcbdaaGreatDoor
open Go.RowKit Go.Shelf Gv
def It.seen (x:It):Spot × Int × List (ByteArray × Int):=(x.spot,x.see,x.rl)
def Wk.seen (x:Wk):Nat × Int × Nat × List (ByteArray × Int):=(x.root,x.see,x.here,x.rl)
structure Twin (W:World) (D c:Nat) (g:Gx) (r:Rx):Prop where
 gok:GOK D W g
 rok:RefOK W r
 low:∀ i,r.own i→D≤i
 N:r.N=g.N
 par:r.par=g.σ.s.par
 K:r.K=g.σ.K
 kn:∀ i,1≤i→i≤g.N→r.kn i=g.kk i
 tag:∀ i,1≤i→i≤g.N→g.kk i=2→r.tag i=g.tg i
 att:∀ i,1≤i→i≤g.N→g.kk i=2→∀ k,atOf (r.ats i) k=g.A i k
 nod:∀ i,1≤i→i≤g.N→((r.ats i).map (·.1)).Nodup
 non:∀ i,1≤i→i≤g.N→g.kk i≠2→r.ats i=[]
 wat:r.wl=g.ls.map (fun x=>(x.root,x.how,x.what))
 its:r.il.map It.seen=g.σ.its.map It.seen
 wks:r.ql.map Wk.seen=g.ws.map Wk.seen
 pl:g.r.pl≤c
 cl:g.r.cl≤c
 top:r.top≤c
 sit:∀ x,x∈r.il→0≤x.see∧x.see≤30
 swk:∀ x,x∈r.ql→0≤x.see∧x.see≤30
structure La where
 gsv:Value × Value
 rsv:Value
 n:Nat
 iv:Value
 wv:Value
 ev:Value
 es:List Ent
 ws:List Wait
 qs:List Ent
 gs:List Gx
 rs:List Rx
 col:Nat→Nat
def La.own (wb:Nat) (l:La) (b:Nat):Prop:=LOwn wb l.iv l.wv l.ev l.es l.ws b∨QOwn l.gsv.2 l.qs b∨l.gsv.1.ownBlock=some b∨l.rsv.ownBlock=some b
def gptr (g:Gx):Value:=.pointer (some ⟨g.gb,0,none⟩)
def rptr (r:Rx):Value:=.pointer (some ⟨r.rb,0,none⟩)
def Rx.bare (last:Nat) (r:Rx):Prop:=(last<10→r.wl=[])∧(last<14→r.il=[])∧(last<17→r.ql=[])
structure LInv (W:World) (D wb last c:Nat) (l:La):Prop where
 h:HInv W D wb l.gsv l.rsv l.n l.iv l.wv l.ev l.es l.ws
 q:QInv W D l.gsv.2 l.qs
 gr:W.ownsRow D 27 1 l.gsv.1 l.gs.length (l.gs.map gptr)
 rr:W.ownsRow D 109 1 l.rsv l.gs.length (l.rs.map rptr)
 len:l.rs.length=l.gs.length
 tw:∀ (k:Nat) (g:Gx) (r:Rx),l.gs[k]?=some g→l.rs[k]?=some r→Twin W D c g r
 c0:∀ b,l.own wb b→l.col b=0
 cg:∀ (k:Nat) (g:Gx),l.gs[k]?=some g→∀ b,g.own b→l.col b=2*k+1
 cr:∀ (k:Nat) (r:Rx),l.rs[k]?=some r→∀ b,r.own b→l.col b=2*k+2
 bare:∀ r,r∈l.rs→r.bare last
 few:l.n+l.ws.length≤2*c
 gfew:l.gs.length≤c
 qf:l.qs.length≤4*c
 qa:∀ x,x∈l.qs→∀ b,x.1.ownBlock=some b→∃ cs,W.heap[b]?=some (.cells cs 32 (0,0))
def recol (W:World) (col:Nat→Nat) (x:Nat):Nat→Nat:=fun b=>if b<W.heap.size then col b else x
theorem recol_old {W:World} {col:Nat→Nat} {x b:Nat} (h:b<W.heap.size):recol W col x b=col b:=by unfold recol;rw [if_pos h]
theorem recol_new {W:World} {col:Nat→Nat} {x b:Nat} (h:W.heap.size≤b):recol W col x b=x:=by unfold recol;rw [if_neg (by omega)]
section
variable {W W' W1 W2:World} {D wb last c c':Nat} {l:La} {g g':Gx} {r r':Rx} {k:Nat}
theorem Twin.keep (h:Twin W D c g r) (hg:∀ i,g.own i→W'.heap[i]?=W.heap[i]?) (hr:∀ i,r.own i→W'.heap[i]?=W.heap[i]?) (hc:c≤c'):Twin W' D c' g r :=
 ⟨h.gok.keep hg,h.rok.keep hr,h.low,h.N,h.par,h.K,h.kn,h.tag,h.att,h.nod,h.non,h.wat,h.its,h.wks,by have:=h.pl;omega,by have:=h.cl;omega,by have:=h.top;omega,h.sit,h.swk⟩
theorem QInv.lt {qv:Value} {qs:List Ent} (h:QInv W D qv qs) {b:Nat} (hb:QOwn qv qs b):b<W.heap.size:=by
 obtain ⟨cs,t,hc,_⟩:=h.blk b hb
 exact lt_of_block hc
theorem LInv.ownlt (h:LInv W D wb last c l) {b:Nat} (hb:l.own wb b):b<W.heap.size:=by
 rcases hb with hb | hb | hb | hb
 ·exact h.h.bounds hb
 ·exact h.q.lt hb
 ·exact (h.gr.lt b hb).2
 ·exact (h.rr.lt b hb).2
theorem LInv.rget (h:LInv W D wb last c l) (hk:l.gs[k]?=some g):∃ r,l.rs[k]?=some r:=by
 have:=(List.getElem?_eq_some_iff.1 hk).1
 exact ⟨_,List.getElem?_eq_getElem (by rw [h.len];exact this)⟩
theorem LInv.gget (h:LInv W D wb last c l) (hk:l.rs[k]?=some r):∃ g,l.gs[k]?=some g:=by
 have:=(List.getElem?_eq_some_iff.1 hk).1
 exact ⟨_,List.getElem?_eq_getElem (by rw [← h.len];exact this)⟩
theorem LInv.glt (h:LInv W D wb last c l) (hk:l.gs[k]?=some g) {b:Nat} (hb:g.own b):b<W.heap.size:=by
 obtain ⟨r,hr⟩:=h.rget hk
 exact ((h.tw k g r hk hr).gok.bounds hb).2
theorem LInv.rlt (h:LInv W D wb last c l) (hk:l.rs[k]?=some r) {b:Nat} (hb:r.own b):b<W.heap.size:=by
 obtain ⟨g,hg⟩:=h.gget hk
 exact (h.tw k g r hg hk).rok.bounds hb
theorem LInv.keep (h:LInv W D wb last c l) (hk:∀ b,b<W.heap.size→W'.heap[b]?=W.heap[b]?) (hs:W.heap.size≤W'.heap.size) (hc:c≤c'):LInv W' D wb last c' l :=
 ⟨h.h.stays (fun b hb=>hk b (h.h.bounds hb)) hs,h.q.keep (fun b _ hl=>hk b hl) hs,row_keep h.gr (fun b hb=>hk b (h.gr.lt b hb).2),row_keep h.rr (fun b hb=>hk b (h.rr.lt b hb).2),h.len,
  fun k g r hg hr=>(h.tw k g r hg hr).keep (fun i hi=>hk i (h.glt hg hi)) (fun i hi=>hk i (h.rlt hr hi)) hc,h.c0,h.cg,h.cr,h.bare,by have:=h.few;omega,by have:=h.gfew;omega,by have:=h.qf;omega,fun x hx b hb=>by
   obtain ⟨cs,hcs⟩:=h.qa x hx b hb
   exact ⟨cs,(hk b (lt_of_block hcs)).trans hcs⟩⟩
theorem LInv.since (h:LInv W D wb last c l) (hb:Below W.heap.size W W'):LInv W' D wb last c l:=h.keep (fun b hl=>hb.block b hl) hb.size (Nat.le_refl _)
theorem LInv.more (h:LInv W D wb last c l) (hc:c≤c'):LInv W D wb last c' l:=h.keep (fun _ _=>rfl) (Nat.le_refl _) hc
theorem LInv.recol (h:LInv W1 D wb last c l) (hb:∀ b,l.own wb b→b<W.heap.size) (hg:∀ (k:Nat) (g:Gx),l.gs[k]?=some g→∀ b,g.own b→b<W.heap.size) (hr:∀ (k:Nat) (r:Rx),l.rs[k]?=some r→∀ b,r.own b→b<W.heap.size) (x:Nat):LInv W1 D wb last c { l with col:=Go.Proofs.YtcedebpoihcbdaaGreatDoor.recol W l.col x } :=
 ⟨h.h,h.q,h.gr,h.rr,h.len,h.tw,fun b hbb=>(recol_old (hb b hbb)).trans (h.c0 b hbb),fun k g hk b hbb=>(recol_old (hg k g hk b hbb)).trans (h.cg k g hk b hbb),fun k r hk b hbb=>(recol_old (hr k r hk b hbb)).trans (h.cr k r hk b hbb),h.bare,h.few,h.gfew,h.qf,h.qa⟩
theorem LInv.made (h:LInv W D wb last c l) (hb:Below W.heap.size W W'):LInv W' D wb last c { l with col:=Go.Proofs.YtcedebpoihcbdaaGreatDoor.recol W l.col 0 } :=
 (h.since hb).recol (fun _ hb=>h.ownlt hb) (fun _ _ hk _ hb=>h.glt hk hb) (fun _ _ hk _ hb=>h.rlt hk hb) 0
theorem LInv.apart (h:LInv W D wb last c l) (hg:l.gs[k]?=some g) (hr:l.rs[k]?=some r):∀ i,r.own i→¬ g.own i:=fun i hi e=>by
 have h1:=h.cr k r hr i hi
 have h2:=h.cg k g hg i e
 omega
theorem LInv.refStays (h:LInv W D wb last c l) (hg:l.gs[k]?=some g) (hr:l.rs[k]?=some r) (hP:Post D W W1 g g'):RefOK W1 r :=
 (h.tw k g r hg hr).rok.frOther hP.fr (h.apart hg hr)
theorem set_get {α:Type} {l:List α} {k j:Nat} {x y z:α} (h:l[k]?=some z) (hj:(l.set k x)[j]?=some y):(j=k∧y=x)∨(j≠k∧l[j]?=some y):=by
 have hk:=(List.getElem?_eq_some_iff.1 h).1
 by_cases e:j=k
 ·subst e
  rw [List.getElem?_set_self hk] at hj
  exact .inl ⟨rfl,(Option.some.inj hj).symm⟩
 ·rw [List.getElem?_set_ne (fun e'=>e e'.symm)] at hj
  exact .inr ⟨e,hj⟩
theorem map_set_same {α β:Type} {l:List α} {k:Nat} {x z:α} (f:α→β) (h:l[k]?=some z) (hf:f x=f z):(l.set k x).map f=l.map f:=by
 rw [List.map_set,hf]
 have hk:=(List.getElem?_eq_some_iff.1 h)
 refine List.ext_getElem? (fun i=>?_)
 by_cases e:k=i
 ·subst e
  rw [List.getElem?_set_self (by simpa using hk.1),List.getElem?_map,h];rfl
 ·rw [List.getElem?_set_ne e]
theorem LInv.both (h:LInv W D wb last c l) (hg:l.gs[k]?=some g) (hr:l.rs[k]?=some r) (hP:Post D W W1 g g') (hR:RPost W1 W2 r r') (hc:c≤c') (hbare:r'.bare last)
  (hT:GOK D W2 g'→RefOK W2 r'→(∀ i,r'.own i→D≤i)→Twin W2 D c' g' r') :
  LInv W2 D wb last c' { l with gs:=l.gs.set k g',rs:=l.rs.set k r',col:=Go.Proofs.YtcedebpoihcbdaaGreatDoor.recol W1 (Go.Proofs.YtcedebpoihcbdaaGreatDoor.recol W l.col (2*k+1)) (2*k+2) }∧Below D W W2:=by
 have hT0:=h.tw k g r hg hr
 have hDW:D≤W.heap.size:=by have:=(hT0.gok.bounds Gx.own_g);omega
 have s1:=hP.fr.size
 have s2:=hR.fr.size
 have hgB:∀ i,g'.own i→i<W1.heap.size:=fun i hi=>(hP.ok.bounds hi).2
 have hap:∀ i,g'.own i→¬ r.own i:=fun i hi e=>by
  rcases hP.own i hi with e' | e'
  ·exact h.apart hg hr i e e'
  ·have:=hT0.rok.bounds e;omega
 have other:∀ b,b<W.heap.size→¬ g.own b→¬ r.own b→W2.heap[b]?=W.heap[b]?:=fun b hb n1 n2=>(hR.fr.block b (by omega) n2).trans (hP.fr.block b hb n1)
 have col0:∀ b,b<W.heap.size→l.col b≠2*k+1→l.col b≠2*k+2→W2.heap[b]?=W.heap[b]?:=fun b hb n1 n2=>other b hb (fun e=>n1 (h.cg k g hg b e)) (fun e=>n2 (h.cr k r hr b e))
 have own0:∀ b,l.own wb b→W2.heap[b]?=W.heap[b]?:=fun b hb=>by
  have:=h.c0 b hb
  exact col0 b (h.ownlt hb) (by omega) (by omega)
 have old:∀ b,b<W.heap.size→Go.Proofs.YtcedebpoihcbdaaGreatDoor.recol W1 (Go.Proofs.YtcedebpoihcbdaaGreatDoor.recol W l.col (2*k+1)) (2*k+2) b=l.col b:=fun b hb=>by rw [recol_old (by omega),recol_old hb]
 have lowr:∀ i,r'.own i→D≤i:=fun i hi=>by
  rcases hR.own i hi with e | e
  ·exact hT0.low i e
  ·omega
 have gk2:GOK D W2 g':=hP.ok.keep (fun i hi=>hR.fr.block i (hgB i hi) (hap i hi))
 refine ⟨⟨h.h.stays (fun b hb=>own0 b (.inl hb)) (by omega),h.q.keep (fun b hb _=>own0 b (.inr (.inl hb))) (by omega),?_,?_,?_,?_,fun b hb=>?_,?_,?_,?_,?_,?_,?_,fun x hx b hb=>?_⟩,?_⟩
 ·show W2.ownsRow D _ 1 l.gsv.1 (l.gs.set k g').length ((l.gs.set k g').map gptr)
  rw [List.length_set,map_set_same gptr hg (by unfold gptr;rw [hP.at_])]
  exact row_keep h.gr (fun b hb=>own0 b (.inr (.inr (.inl hb))))
 ·show W2.ownsRow D _ 1 l.rsv (l.gs.set k g').length ((l.rs.set k r').map rptr)
  rw [List.length_set,map_set_same rptr hr (by unfold rptr;rw [hR.at_])]
  exact row_keep h.rr (fun b hb=>own0 b (.inr (.inr (.inr hb))))
 ·show (l.rs.set k r').length=(l.gs.set k g').length
  rw [List.length_set,List.length_set];exact h.len
 ·intro j g2 r2 hg2 hr2
  rcases set_get hg hg2 with ⟨rfl,rfl⟩ | ⟨e,hg2⟩
  ·rcases set_get hr hr2 with ⟨_,rfl⟩ | ⟨e,_⟩
   ·exact hT gk2 hR.ok lowr
   ·exact absurd rfl e
  ·rcases set_get hr hr2 with ⟨e',_⟩ | ⟨_,hr2⟩
   ·exact absurd e' e
   ·refine (h.tw j g2 r2 hg2 hr2).keep (fun i hi=>?_) (fun i hi=>?_) hc
    ·have:=h.cg j g2 hg2 i hi
     exact col0 i (h.glt hg2 hi) (by omega) (by omega)
    ·have:=h.cr j r2 hr2 i hi
     exact col0 i (h.rlt hr2 hi) (by omega) (by omega)
 ·show Go.Proofs.YtcedebpoihcbdaaGreatDoor.recol W1 (Go.Proofs.YtcedebpoihcbdaaGreatDoor.recol W l.col (2*k+1)) (2*k+2) b=0
  rw [old b (h.ownlt hb)];exact h.c0 b hb
 ·intro j g2 hg2 b hb
  show Go.Proofs.YtcedebpoihcbdaaGreatDoor.recol W1 (Go.Proofs.YtcedebpoihcbdaaGreatDoor.recol W l.col (2*k+1)) (2*k+2) b=2*j+1
  rcases set_get hg hg2 with ⟨rfl,rfl⟩ | ⟨e,hg2⟩
  ·rw [recol_old (hgB b hb)]
   rcases hP.own b hb with e' | e'
   ·rw [recol_old (h.glt hg e')];exact h.cg _ g hg b e'
   ·rw [recol_new e']
  ·rw [old b (h.glt hg2 hb)];exact h.cg j g2 hg2 b hb
 ·intro j r2 hr2 b hb
  show Go.Proofs.YtcedebpoihcbdaaGreatDoor.recol W1 (Go.Proofs.YtcedebpoihcbdaaGreatDoor.recol W l.col (2*k+1)) (2*k+2) b=2*j+2
  rcases set_get hr hr2 with ⟨rfl,rfl⟩ | ⟨e,hr2⟩
  ·rcases hR.own b hb with e' | e'
   ·rw [old b (h.rlt hr e')];exact h.cr _ r hr b e'
   ·rw [recol_new e']
  ·rw [old b (h.rlt hr2 hb)];exact h.cr j r2 hr2 b hb
 ·intro r2 hr2
  rcases List.mem_or_eq_of_mem_set hr2 with h' | rfl
  ·exact h.bare r2 h'
  ·exact hbare
 ·show l.n+l.ws.length≤2*c'
  have:=h.few;omega
 ·show (l.gs.set k g').length≤c'
  rw [List.length_set]
  have:=h.gfew;omega
 ·show l.qs.length≤4*c'
  have:=h.qf;omega
 ·obtain ⟨cs,hcs⟩:=h.qa x hx b hb
  exact ⟨cs,(own0 b (.inr (.inl (.inr ⟨x,hx,hb⟩)))).trans hcs⟩
 ·exact (hP.fr.below hDW (fun i hi=>(hT0.gok.bounds hi).1)).trans (hR.fr.below (by omega) hT0.low)
theorem LInv.law {n':Nat} {iv' wv' ev':Value} {es':List Ent} {ws':List Wait} (h:LInv W D wb last c l) (hH:HInv W' D wb l.gsv l.rsv n' iv' wv' ev' es' ws') (hq:QInv W' D l.gsv.2 l.qs) (hF:Fr (LW wb l.iv l.wv l.ev l.ws) W W') (hO:∀ b,LOwn wb iv' wv' ev' es' ws' b→l.own wb b∨l.col b=0∧b<W.heap.size∨W.heap.size≤b) (hf:n'+ws'.length≤2*c') (hc:c≤c') :
  LInv W' D wb last c' { l with n:=n',iv:=iv',wv:=wv',ev:=ev',es:=es',ws:=ws',col:=Go.Proofs.YtcedebpoihcbdaaGreatDoor.recol W l.col 0 }∧Below D W W':=by
 have hlow:D≤W.heap.size:=by have:=h.h.hD;have:=lt_of_block h.h.w;omega
 have own0:∀ b,LW wb l.iv l.wv l.ev l.ws b→l.col b=0:=fun b hb=>h.c0 b (.inl (.inl hb))
 have keep:∀ b,b<W.heap.size→l.col b≠0→W'.heap[b]?=W.heap[b]?:=fun b hb hn=>hF.block b hb (fun e=>hn (own0 b e))
 have ptr:∀ {e:TypeId} {v:Value} {n:Nat} {xs:List Value},W.ownsRow D e 1 v n xs→e≠55→e≠172→e≠25→e≠3→W'.ownsRow D e 1 v n xs:=by
  intro e v n xs hv e1 e2 e3 e4
  refine row_keep hv (fun b hb=>hF.block b (hv.lt b hb).2 ?_)
  obtain ⟨cs,hcs⟩:=row_block hv hb
  rintro (rfl | e' | e' | e' | ⟨x,hx,e'⟩)
  ·rw [h.h.w] at hcs
   simp only [Option.some.injEq,Obj.cells.injEq] at hcs
   exact e1 hcs.2.1.symm
  ·exact row_ne h.h.i hcs e2 e'
  ·exact row_ne h.h.t hcs e3 e'
  ·exact row_ne h.h.e hcs e3 e'
  ·exact row_ne (h.h.wl x hx).1 hcs e4 e'
 refine ⟨⟨hH,hq,ptr h.gr (by decide) (by decide) (by decide) (by decide),ptr h.rr (by decide) (by decide) (by decide) (by decide),h.len,fun k g r hg hr=>(h.tw k g r hg hr).keep (fun i hi=>?_) (fun i hi=>?_) hc,fun b hb=>?_,fun k g hg b hb=>?_,fun k r hr b hb=>?_,h.bare,hf,by have:=h.gfew;show l.gs.length≤c';omega,by have:=h.qf;show l.qs.length≤4*c';omega,fun x hx b hb=>?_⟩,hF.below hlow (fun b hb=>h.h.low hb)⟩
 ·have:=h.cg k g hg i hi
  exact keep i (h.glt hg hi) (by omega)
 ·have:=h.cr k r hr i hi
  exact keep i (h.rlt hr hi) (by omega)
 ·show Go.Proofs.YtcedebpoihcbdaaGreatDoor.recol W l.col 0 b=0
  have key:l.own wb b∨l.col b=0∧b<W.heap.size∨W.heap.size≤b:=by
   rcases hb with hb | hb
   ·exact hO b hb
   ·exact .inl (.inr hb)
  rcases key with e | ⟨e1,e2⟩ | e
  ·rw [recol_old (h.ownlt e)];exact h.c0 b e
  ·rw [recol_old e2];exact e1
  ·exact recol_new e
 ·show Go.Proofs.YtcedebpoihcbdaaGreatDoor.recol W l.col 0 b=2*k+1
  rw [recol_old (h.glt hg hb)];exact h.cg k g hg b hb
 ·show Go.Proofs.YtcedebpoihcbdaaGreatDoor.recol W l.col 0 b=2*k+2
  rw [recol_old (h.rlt hr hb)];exact h.cr k r hr b hb
 ·obtain ⟨cs,hcs⟩:=h.qa x hx b hb
  refine ⟨cs,(hF.block b (lt_of_block hcs) ?_).trans hcs⟩
  rintro (rfl | e' | e' | e' | ⟨x,hx,e'⟩)
  ·rw [h.h.w] at hcs
   simp only [Option.some.injEq,Obj.cells.injEq] at hcs
   exact absurd hcs.2.1 (by decide)
  ·exact row_ne h.h.i hcs (by decide) e'
  ·exact row_ne h.h.t hcs (by decide) e'
  ·exact row_ne h.h.e hcs (by decide) e'
  ·exact row_ne (h.h.wl x hx).1 hcs (by decide) e'
theorem Twin.sound (h:Twin W D c g r):∀ x,x∈r.il→x.Sound r.N g.σ.s:=fun x hx=>by
 have hm:x.seen∈g.σ.its.map It.seen:=by rw [← h.its];exact List.mem_map.2 ⟨x,hx,rfl⟩
 obtain ⟨y,hy,e⟩:=List.mem_map.1 hm
 have hs:=h.gok.gro.sound y hy
 have e1:y.spot=x.spot:=congrArg Prod.fst e
 unfold It.Sound at hs ⊢
 rw [e1] at hs
 rw [h.N]
 exact hs
theorem Twin.wf (h:Twin W D c g r):WF r.N g.σ.s g.σ.K:=by rw [h.N];exact h.gok.wf
theorem seen_leave {N:Nat} {s:Fo} {n:Nat} {xs ys:List It} (h:xs.map It.seen=ys.map It.seen):(xs.map (It.leave N s n)).map It.seen=(ys.map (It.leave N s n)).map It.seen:=by
 have e:∀ l:List It,(l.map (It.leave N s n)).map It.seen=(l.map It.seen).map (fun x=>(x.1.leave N s n,x.2.1,x.2.2)):=fun l=>by
  rw [List.map_map,List.map_map];rfl
 rw [e,e,h]
theorem seen_out {N:Nat} {s:Fo} {n:Nat} {xs ys:List It} (h:xs.map It.seen=ys.map It.seen):(itsOut N s n xs).map It.seen=(itsOut N s n ys).map It.seen:=by
 unfold itsOut
 split
 ·exact h
 ·exact seen_leave h
end
end Go.Proofs.YtcedebpoihcbdaaGreatDoor
