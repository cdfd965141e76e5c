/-
  A grove as one thing: what New and Make make of it.
-/
import Derived.Test.YtcedebpoihcbdaaGreatDoorGC
namespace Go.Proofs.YtcedebpoihcbdaaGreatDoor
open Go.RowKit Go.Shelf Gv
def Gx.made (g:Gx) (k:Nat) (t:ByteArray) (v:Value) (mb nb cap:Nat):Gx :=
 { g with nb:=nb,cap:=cap,N:=g.N+1,kk:=up g.kk (g.N+1) k,tg:=up g.tg (g.N+1) t,kd:=up g.kd (g.N+1) v,mp:=up g.mp (g.N+1) mb,σ:={ g.σ with s:=g.σ.s.lift (g.N+1) 0 0 },A:=up g.A (g.N+1) noAtt }
def Gx.first (gb nb:Nat):Gx :=
 { gb:=gb,nb:=nb,cap:=1,N:=0,kk:=fun _=>0,tg:=fun _=>ByteArray.empty,kd:=noKind,mp:=fun _=>0,σ:={ s:=zeroF,K:=fun _=>[],its:=[] },r:=re0,A:=fun _=>noAtt,ls:=[],ws:=[] }
theorem wantsF_more {kk:Nat→Nat} {tg:Nat→ByteArray} {A:Nat→ByteArray→Option ByteArray} {N k how:Nat} {t what:ByteArray} {a:ByteArray→Option ByteArray} {n:Nat} (hn:n≤N) :
  wantsF (up kk (N+1) k) (up tg (N+1) t) (up A (N+1) a) how what n=wantsF kk tg A how what n:=by
 have e:n≠N+1:=by omega
 unfold wantsF
 rw [up_other _ _ _ e,up_other _ _ _ e,up_other _ _ _ e]
theorem lookF_more {kk:Nat→Nat} {tg:Nat→ByteArray} {A:Nat→ByteArray→Option ByteArray} {N k how root:Nat} {t what:ByteArray} {a:ByteArray→Option ByteArray} {s:Fo} {K:Nat→List Nat} (h:WF N s K) (h1:1≤root) (hn:root≤N) :
  lookF (N+1) (up kk (N+1) k) (up tg (N+1) t) (up A (N+1) a) K root how what=lookF N kk tg A K root how what:=by
 have e:P (N+1) K root=P N K root:=P_succ h h1 (by omega)
 unfold lookF
 rw [e]
 refine List.filter_congr (fun x hx=>wantsF_more ?_)
 split at hx
 ·exact (tail_in h h1 hn hx).2
 ·exact (h.kid root x hx).2.2.2.1
section
variable {B:Nat} {w w':World} {g g':Gx}
theorem made_ok2 {nb' cap' k mb:Nat} {t:ByteArray} {v:Value} (h:GOK B w g) (hH:Held w' B g.gb nb' cap' (g.N+1+1) (g.σ.s.lift (g.N+1) 0 0) (up g.kd (g.N+1) v) g.r) (hF:Fr (gn g.gb g.nb) w w') (hnb:nb'=g.nb∨w.heap.size≤nb') (hv:NewVal w w' k t v)
  (hmb:k=2→El w' w.heap.size v t mb∧w.heap.size≤mb∧w'.heap[mb]?=some (.map #[] 0)):Post B w w' g (g.made k t v mb nb' cap'):=by
 have hBs:B≤w.heap.size:=by have:=(h.bounds (Gx.own_g)).1;have:=(h.bounds (Gx.own_g)).2;omega
 obtain ⟨cur,hn,_⟩:=h.held.block
 have hF2:Fr (gset g.gb g.nb g.r.iv) w w':=hF.mono (fun i hi=>by rcases hi with e | e;exact .inl e;exact .inr (.inl e))
 have hty:∀ i cs t fr,gn g.gb g.nb i→w.heap[i]?=some (.cells cs t fr)→t=72∨t=133:=by
  rintro i cs t fr (rfl | rfl) e
  ·exact .inl (h.tyG e)
  ·exact .inr (h.tyN e)
 have hmaps:∀ i es c,gn g.gb g.nb i→w.heap[i]?≠some (.map es c):=by
  rintro i es c (rfl | rfl) e
  ·rw [h.held.g] at e;cases e
  ·rw [hn] at e;cases e
 have hR:=h.rest hF (fun i cs t fr hi e=>by rcases hty i cs t fr hi e with rfl | rfl <;> decide)
 have hits:Its w' B g.r.iv g.σ.its:=h.gro.its.fr hF (fun i hi e=>by
  rcases row_form h.gro.its.row with ⟨e',_⟩ | ⟨g',c',e',_,_,⟨cur,hc⟩,_⟩
  ·rw [e'] at hi;simp [Value.ownBlock] at hi
  ·rw [e'] at hi
   simp only [Value.ownBlock,Option.some.injEq] at hi
   subst hi
   rcases hty _ _ _ _ e hc with h' | h' <;> exact absurd h' (by decide))
 have hlss:=h.grl.lss.fr hF (fun i cs t fr hi e=>by rcases hty i cs t fr hi e with rfl | rfl <;> decide)
 have hats:=h.grl.ats.fr hF hmaps
 have hels:=h.gro.els' hF2
 have hlt:∀ m,1≤m→m≤g.N→g.kk m=2→g.mp m<w.heap.size:=fun m h1 h2 h3=>(h.grl.ats.at_ m h1 h2 h3).lt
 refine ⟨⟨⟨⟨hH,lift_wf h.wf,fun i h1 hi=>?_,hits,fun it hit=>?_,fun i h1 hi h2=>?_⟩,⟨fun i h1 hi h2=>?_,fun i k' v' e=>?_,fun i h1 hi h2=>?_,fun i j i1 ik j1 jk hi hj he=>?_⟩,hlss,fun x hx=>?_⟩,hR.1,h.lo.lift,hR.2.1,hR.2.2,fun x hx=>?_,h.pl0,h.cl0,h.zero⟩,hF.mono (fun i hi=>?_),fun i hi=>?_,rfl⟩
 ·show KV (up g.kk (g.N+1) k i) (up g.kd (g.N+1) v i)
  have hi':i≤g.N+1:=hi
  by_cases e:i=g.N+1
  ·subst e;rw [up_same,up_same];exact hv.1
  ·rw [up_other _ _ _ e,up_other _ _ _ e];exact h.gro.kinds i h1 (by omega)
 ·obtain ⟨a1,a2,a3,a4,a5⟩:=h.gro.sound it hit
  exact ⟨a1,by show it.spot.root≤g.N+1;omega,a3,by show it.spot.place≤g.N+1;omega,(desc_lift h.wf a4).2 a5⟩
 ·have hi':i≤g.N+1:=hi
  have h2':up g.kk (g.N+1) k i=2:=h2
  show El w' B (up g.kd (g.N+1) v i) (up g.tg (g.N+1) t i) (up g.mp (g.N+1) mb i)
  by_cases e:i=g.N+1
  ·subst e
   rw [up_same] at h2' ⊢
   rw [up_same,up_same]
   obtain ⟨⟨eb,a1,a2,a3⟩,_⟩:=hmb h2'
   exact ⟨eb,a1,a2,Nat.le_trans hBs a3⟩
  ·rw [up_other _ _ _ e] at h2' ⊢
   rw [up_other _ _ _ e,up_other _ _ _ e]
   exact hels i h1 (by omega) h2'
 ·have hi':i≤g.N+1:=hi
  have h2':up g.kk (g.N+1) k i=2:=h2
  show Att w' (up g.mp (g.N+1) mb i) (up g.A (g.N+1) noAtt i)
  by_cases e:i=g.N+1
  ·subst e
   rw [up_same] at h2' ⊢
   rw [up_same]
   exact att_new (hmb h2').2.2
  ·rw [up_other _ _ _ e] at h2' ⊢
   rw [up_other _ _ _ e]
   exact hats.at_ i h1 (by omega) h2'
 ·have e0:up g.A (g.N+1) noAtt i k'=some v':=e
  by_cases ei:i=g.N+1
  ·subst ei;rw [up_same] at e0;cases e0
  ·rw [up_other _ _ _ ei] at e0;exact h.grl.ats.short i k' v' e0
 ·have hi':i≤g.N+1:=hi
  have h2':up g.kk (g.N+1) k i=2:=h2
  show B≤up g.mp (g.N+1) mb i
  by_cases e:i=g.N+1
  ·subst e
   rw [up_same] at h2' ⊢
   exact Nat.le_trans hBs (hmb h2').2.1
  ·rw [up_other _ _ _ e] at h2' ⊢
   exact h.grl.ats.low i h1 (by omega) h2'
 ·have ik':i≤g.N+1:=ik
  have jk':j≤g.N+1:=jk
  have hi':up g.kk (g.N+1) k i=2:=hi
  have hj':up g.kk (g.N+1) k j=2:=hj
  have he':up g.mp (g.N+1) mb i=up g.mp (g.N+1) mb j:=he
  by_cases e:i=g.N+1
  ·by_cases e':j=g.N+1
   ·omega
   ·rw [up_other _ _ _ e'] at hj' he'
    rw [e,up_same] at hi' he'
    have:=hlt j j1 (by omega) hj'
    have:=(hmb hi').2.1
    omega
  ·rw [up_other _ _ _ e] at hi' he'
   by_cases e':j=g.N+1
   ·rw [e',up_same] at hj' he'
    have:=hlt i i1 (by omega) hi'
    have:=(hmb hj').2.1
    omega
   ·rw [up_other _ _ _ e'] at hj' he'
    exact h.grl.ats.inj i j i1 (by omega) j1 (by omega) hi' hj' he'
 ·obtain ⟨a1,a2,a3,a4,a5⟩:=h.grl.ok x hx
  refine ⟨⟨a1.1,by show x.root≤g.N+1;omega⟩,a2,a3,a4,fun e1 e2=>?_⟩
  show x.fd=lookF (g.N+1) (up g.kk (g.N+1) k) (up g.tg (g.N+1) t) (up g.A (g.N+1) noAtt) g.σ.K x.root x.how x.what
  rw [lookF_more h.wf a1.1 a1.2]
  exact a5 e1 e2
 ·obtain ⟨a1,a2,a3,a4⟩:=h.wok x hx
  exact ⟨a1,by show x.root≤g.N+1;omega,a3,by show x.here≤g.N+1;omega⟩
 ·rcases hi with rfl | rfl
  ·exact Gx.own_g
  ·exact Gx.own_n
 ·rcases hi with hi | hi | hi | hi | hi | ⟨m,h1,h2,h3,hi⟩ | hi | hi | hi
  ·exact .inl (.inl hi)
  ·have hi':i=nb':=hi
   rcases hnb with e | e
   ·exact .inl (by rw [hi',e];exact Gx.own_n)
   ·exact .inr (by omega)
  ·exact .inl (Gx.own_lv hi)
  ·exact .inl (Gx.own_iv hi)
  ·exact .inl (Gx.own_wv hi)
  ·have h2':m≤g.N+1:=h2
   have h3':up g.kk (g.N+1) k m=2:=h3
   have hi':i=up g.mp (g.N+1) mb m∨up g.kd (g.N+1) v m=.iface 143 (.pointer (some ⟨i,0,none⟩)):=hi
   by_cases e:m=g.N+1
   ·subst e
    rw [up_same] at h3'
    rw [up_same,up_same] at hi'
    obtain ⟨⟨eb,b1,b2,b3⟩,b4,_⟩:=hmb h3'
    rcases hi' with hi' | hi'
    ·exact .inr (by omega)
    ·rw [b1] at hi'
     simp only [Value.iface.injEq,Value.pointer.injEq,Option.some.injEq,Addr.mk.injEq,and_true,true_and] at hi'
     exact .inr (by omega)
   ·rw [up_other _ _ _ e] at h3'
    rw [up_other _ _ _ e,up_other _ _ _ e] at hi'
    exact .inl (.inr (.inr (.inr (.inr (.inr (.inl ⟨m,h1,by omega,h3',hi'⟩))))))
  ·exact .inl (.inr (.inr (.inr (.inr (.inr (.inr (.inl hi)))))))
  ·exact .inl (.inr (.inr (.inr (.inr (.inr (.inr (.inr (.inl hi))))))))
  ·exact .inl (.inr (.inr (.inr (.inr (.inr (.inr (.inr (.inr hi))))))))
def MadeX (B:Nat) (w:World) (g:Gx) (kind:Int) (t:ByteArray) (e:Ending) (w':World):Prop :=
 (kindErr kind t≠0∧w'=w∧e=.returned (.tuple #[.int .i64 0,.int .i64 (kindErr kind t)])) ∨
 (kindErr kind t=0∧g.N=300∧Below w.heap.size w w'∧e=.returned (.tuple #[.int .i64 0,.int .i64 4])) ∨
 (kindErr kind t=0∧g.N<300∧e=.returned (.tuple #[.int .i64 (g.N+1:Nat),.int .i64 0])∧∃ (k nb cap mb:Nat) (v:Value),kind=k∧Post B w w' g (g.made k t v mb nb cap))
theorem makeX (h:GOK B w g) (kind:Int) (t:ByteArray) (hs:t.size≤maxLen) :
  Calls Tryz.prog 33 #[.pointer (some ⟨g.gb,0,none⟩),.int .i64 kind,.string t] w (MadeX B w g kind t):=by
 refine (makeC h.held (by omega) kind t hs).mono ?_
 rintro e w' (⟨h1,h2,h3⟩ | ⟨h1,h2,h3,h4⟩ | ⟨h1,h2,h3,k,nb',cap',v,h4,h5,h6,h7,h8⟩)
 ·exact .inl ⟨h1,h2,h3⟩
 ·exact .inr (.inl ⟨h1,by omega,h3,h4⟩)
 ·refine .inr (.inr ⟨h1,by omega,h3,?_⟩)
  by_cases k2:k=2
  ·obtain ⟨mb,hm⟩:=h8.2 k2
   exact ⟨k,nb',cap',mb,v,h4,made_ok2 h h5 h6 h7 h8 (fun _=>hm)⟩
  ·exact ⟨k,nb',cap',0,v,h4,made_ok2 h h5 h6 h7 h8 (fun e=>absurd e k2)⟩
theorem Gx.first_own {gb nb i:Nat} (h:(Gx.first gb nb).own i):i=gb∨i=nb:=by
 rcases h with h | h | h | h | h | ⟨m,h1,h2,_⟩ | ⟨x,hx,h⟩ | ⟨x,hx,h⟩ | ⟨x,hx,h⟩
 ·exact .inl h
 ·exact .inr h
 ·simp [Gx.first,re0,Value.ownBlock] at h
 ·simp [Gx.first,re0,Value.ownBlock] at h
 ·simp [Gx.first,re0,Value.ownBlock] at h
 ·have h2':m≤0:=h2
  omega
 ·simp [Gx.first] at hx
 ·simp [Gx.first] at hx
 ·simp [Gx.first] at hx
theorem first_gok {gb nb:Nat} (hH:Held w' B gb nb 1 1 zeroF noKind re0):GOK B w' (Gx.first gb nb):=by
 refine ⟨⟨⟨hH,loose_wf 0,fun i h1 hi=>?_,its_none _ _,fun it hit=>by simp [Gx.first] at hit,fun i h1 hi=>?_⟩,⟨fun i h1 hi=>?_,fun i k v e=>(by cases e),fun i h1 hi=>?_,fun i j i1 hi=>?_⟩,⟨World.ownsRow_nil _ _ _ _,by simp [Gx.first],fun x hx=>by simp [Gx.first] at hx⟩,fun x hx=>by simp [Gx.first] at hx⟩,⟨World.ownsRow_nil _ _ _ _,by simp [Gx.first]⟩,fun k _ _ _=>⟨rfl,rfl⟩,fun x hx=>by simp [Gx.first] at hx,fun x hx=>by simp [Gx.first] at hx,fun x hx=>by simp [Gx.first] at hx,Int.le_refl _,Int.le_refl _,fun _ _=>rfl⟩
 all_goals
  have hi':i≤0:=hi
  omega
end
end Go.Proofs.YtcedebpoihcbdaaGreatDoor
