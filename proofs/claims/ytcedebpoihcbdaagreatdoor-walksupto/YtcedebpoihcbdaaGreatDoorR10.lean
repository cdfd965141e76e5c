/-
  The document's own answer: its Put, whatever numbers it is handed; what two Puts answer alike.
-/
import Derived.Test.YtcedebpoihcbdaaGreatDoorR9
set_option linter.unusedVariables false
namespace Go.Proofs.YtcedebpoihcbdaaGreatDoor
open Go.RowKit Go.Shelf Gv
theorem putErr_det {N:Nat} {s:Fo} {K:Nat→List Nat} {kk:Nat→Nat} {p c b q q':Int} (h:PutErr N s K kk p c b q) (h':PutErr N s K kk p c b q'):q=q':=by
 have key:∀ {q:Int} {p' c' b':Nat},p=p'→c=c'→b=b'→1≤p'→p'≤N→1≤c'→c'≤N→b'≤N→¬ ¬ (hasB (N+1) p=true∧hasB (N+1) c=true∧(b=0∨hasB (N+1) b=true)):=by
  intro q p' c' b' e1 e2 e3 h1 h2 h3 h4 h5 hn
  subst e1 e2 e3
  refine hn ⟨hasB_nat h1 h2,hasB_nat h3 h4,?_⟩
  by_cases e:b'=0
  ·exact .inl (by omega)
  ·exact .inr (hasB_nat (by omega) h5)
 rcases h with ⟨e,hn⟩ | ⟨p1,c1,b1,e1,e2,e3,h1,h2,h3,h4,h5,h6⟩
 ·rcases h' with ⟨e',_⟩ | ⟨p2,c2,b2,f1,f2,f3,g1,g2,g3,g4,g5,_⟩
  ·omega
  ·exact absurd hn (key (q:=0) f1 f2 f3 g1 g2 g3 g4 g5)
 ·rcases h' with ⟨_,hn⟩ | ⟨p2,c2,b2,f1,f2,f3,_,_,_,_,_,g6⟩
  ·exact absurd hn (key (q:=0) e1 e2 e3 h1 h2 h3 h4 h5)
  ·obtain rfl:p1=p2:=by omega
   obtain rfl:c1=c2:=by omega
   obtain rfl:b1=b2:=by omega
   rcases h6 with ⟨q1,k1⟩ | ⟨a1,a2,a3,k1⟩
   ·rcases g6 with ⟨q2,_⟩ | ⟨b1',b2',b3',_⟩
    ·omega
    ·rcases k1 with k | k | k
     ·omega
     ·exact absurd k b2'
     ·exact absurd k b3'
   ·rcases g6 with ⟨_,k2⟩ | ⟨_,_,_,k2⟩
    ·rcases k2 with k | k | k
     ·omega
     ·exact absurd k a2
     ·exact absurd k a3
    ·rcases k1 with ⟨q1,x1,x2⟩ | ⟨x1,k1⟩
     ·rcases k2 with ⟨q2,_,_⟩ | ⟨y1,_⟩
      ·omega
      ·rcases y1 with y | y
       ·exact absurd y x1
       ·exact absurd y x2
     ·rcases k2 with ⟨_,y1,y2⟩ | ⟨_,k2⟩
      ·rcases x1 with x | x
       ·exact absurd x y1
       ·exact absurd x y2
      ·rcases k1 with ⟨q1,x2⟩ | ⟨q1,x2⟩
       ·rcases k2 with ⟨q2,_⟩ | ⟨_,y2⟩
        ·omega
        ·exact absurd x2 y2
       ·rcases k2 with ⟨_,y2⟩ | ⟨q2,_⟩
        ·exact absurd y2 x2
        ·omega
theorem full_congr {N:Nat} {s:Fo} {K:Nat→List Nat} {kk kk':Nat→Nat} (hwf:WF N s K) (hk:∀ i,1≤i→i≤N→kk' i=kk i) {p c:Nat} (h1:1≤p) (h2:p≤N) (h3:1≤c) (h4:c≤N):Full kk' K p c↔Full kk K p c:=by
 unfold Full
 rw [hk p h1 h2,hk c h3 h4]
 constructor
 ·rintro ⟨e,h⟩
  refine ⟨e,h.imp id ?_⟩
  rintro ⟨e2,k,hkm,hne,hk2⟩
  have:=hwf.kid p k hkm
  exact ⟨e2,k,hkm,hne,by rw [← hk k this.2.2.1 this.2.2.2.1];exact hk2⟩
 ·rintro ⟨e,h⟩
  refine ⟨e,h.imp id ?_⟩
  rintro ⟨e2,k,hkm,hne,hk2⟩
  have:=hwf.kid p k hkm
  exact ⟨e2,k,hkm,hne,by rw [hk k this.2.2.1 this.2.2.2.1];exact hk2⟩
theorem putErr_congr {N:Nat} {s:Fo} {K:Nat→List Nat} {kk kk':Nat→Nat} {p c b q:Int} (hwf:WF N s K) (hk:∀ i,1≤i→i≤N→kk' i=kk i) (h:PutErr N s K kk p c b q):PutErr N s K kk' p c b q:=by
 rcases h with h | ⟨p1,c1,b1,e1,e2,e3,h1,h2,h3,h4,h5,h6⟩
 ·exact .inl h
 ·refine .inr ⟨p1,c1,b1,e1,e2,e3,h1,h2,h3,h4,h5,?_⟩
  rw [hk p1 h1 h2,hk c1 h3 h4,full_congr hwf hk h1 h2 h3 h4]
  exact h6
section
variable {w w':World} {r:Rx} {s:Fo} {K:Nat→List Nat}
theorem refPut (h:RefOK w r) (hp:r.par=s.par) (hK:r.K=K) (hwf:WF r.N s K) (hs:∀ x,x∈r.il→x.Sound r.N s) (p c b:Int) :
  Calls Tryz.prog 92 #[.pointer (some ⟨r.rb,0,none⟩),.int .i64 p,.int .i64 c,.int .i64 b] w fun e w'=>∃ q:Int,e=.returned (.int .i64 q)∧PutErr r.N s K r.kn p c b q ∧
   ((q≠0∧w'=w)∨(q=0∧∃ p' c' b':Nat,p=p'∧c=c'∧b=b'∧∃ kv,RPost w w' r (r.put s K p' c' b' kv))):=by
 by_cases hno:hasB (r.N+1) p=true∧hasB (r.N+1) c=true∧(b=0∨hasB (r.N+1) b=true)
 ·obtain ⟨h1,h2,h3⟩:=hno
  obtain ⟨p',rfl,hp1,hpN⟩:=has_nat h1
  obtain ⟨c',rfl,hc1,hcN⟩:=has_nat h2
  obtain ⟨b',rfl,hbN⟩:∃ b':Nat,b=b'∧b'≤r.N:=by
   rcases h3 with h3 | h3
   ·exact ⟨0,h3,Nat.zero_le _⟩
   ·obtain ⟨b',e,_,hb⟩:=has_nat h3
    exact ⟨b',e,hb⟩
  refine (refPutIn h hp hK hwf hs p' c' b' hp1 hpN hc1 hcN hbN).mono ?_
  rintro e w' ⟨q,rfl,hq⟩
  rcases hq with ⟨rfl,rfl,hx⟩ | ⟨hx,hq⟩
  ·exact ⟨6,rfl,.inr ⟨p',c',b',rfl,rfl,rfl,hp1,hpN,hc1,hcN,hbN,.inl ⟨rfl,hx⟩⟩,.inl ⟨by decide,rfl⟩⟩
  ·have x1:r.kn p'≤2:=by
    by_cases e:r.kn p'≤2
    ·exact e
    ·exact absurd (.inl (by omega)) hx
   have x2:r.kn c'≠1:=fun e=>hx (.inr (.inl e))
   have x3:¬ Desc s.par p' c':=fun e=>hx (.inr (.inr e))
   rcases hq with ⟨rfl,rfl,y1,y2⟩ | ⟨y,⟨rfl,rfl,hf⟩ | ⟨rfl,hf,kv,hP⟩⟩
   ·exact ⟨7,rfl,.inr ⟨p',c',b',rfl,rfl,rfl,hp1,hpN,hc1,hcN,hbN,.inr ⟨x1,x2,x3,.inl ⟨rfl,y1,y2⟩⟩⟩,.inl ⟨by decide,rfl⟩⟩
   ·exact ⟨6,rfl,.inr ⟨p',c',b',rfl,rfl,rfl,hp1,hpN,hc1,hcN,hbN,.inr ⟨x1,x2,x3,.inr ⟨y,.inl ⟨rfl,hf⟩⟩⟩⟩,.inl ⟨by decide,rfl⟩⟩
   ·exact ⟨0,rfl,.inr ⟨p',c',b',rfl,rfl,rfl,hp1,hpN,hc1,hcN,hbN,.inr ⟨x1,x2,x3,.inr ⟨y,.inr ⟨rfl,hf⟩⟩⟩⟩,.inr ⟨rfl,p',c',b',rfl,rfl,rfl,kv,hP⟩⟩
 ·refine (refPut5 h p c b hno).mono ?_
  rintro e w' ⟨rfl,rfl⟩
  exact ⟨5,rfl,.inl ⟨rfl,hno⟩,.inl ⟨by decide,rfl⟩⟩
end
end Go.Proofs.YtcedebpoihcbdaaGreatDoor
