/-
  A grove and the document's beside it: what Make, Put and Take make of both.
-/
import Derived.Test.YtcedebpoihcbdaaGreatDoorD1
import Derived.Test.YtcedebpoihcbdaaGreatDoorR10
set_option linter.unusedVariables false
namespace Go.Proofs.YtcedebpoihcbdaaGreatDoor
open Go.RowKit Go.Shelf Gv
section
variable {W W' W1 W2:World} {D c c':Nat} {g g':Gx} {r r':Rx}
theorem Twin.took {n:Nat} {nv:Value} (h:Twin W D c g r) (hc:c+1≤c') (h1:GOK D W2 { g with σ:=g.tookS n,r:=g.r.more }) (h2:RefOK W2 (r.took g.σ.s g.σ.K n nv)) (h3:∀ i,(r.took g.σ.s g.σ.K n nv).own i→D≤i) :
  Twin W2 D c' { g with σ:=g.tookS n,r:=g.r.more } (r.took g.σ.s g.σ.K n nv):=by
 refine ⟨h1,h2,h3,h.N,rfl,rfl,h.kn,h.tag,h.att,h.nod,h.non,h.wat,?_,h.wks,?_,?_,?_,fun x hx=>?_,h.swk⟩
 ·show (r.il.map (It.leave r.N g.σ.s n)).map It.seen=(g.σ.its.map (It.leave g.N g.σ.s n)).map It.seen
  rw [h.N]
  exact seen_leave h.its
 ·show g.r.pl+1≤c';have:=h.pl;omega
 ·show g.r.cl≤c';have:=h.cl;omega
 ·show r.top≤c';have:=h.top;omega
 ·obtain ⟨y,hy,rfl⟩:=List.mem_map.1 (show x∈r.il.map (It.leave r.N g.σ.s n) from hx)
  exact h.sit y hy
theorem Twin.put {p n b:Nat} {kv:Nat→Value} (h:Twin W D c g r) (hc:c+2≤c') (h1:GOK D W2 { g with σ:=g.putS p n b,r:=(g.r.outed g.σ.s n).more }) (h2:RefOK W2 (r.put g.σ.s g.σ.K p n b kv)) (h3:∀ i,(r.put g.σ.s g.σ.K p n b kv).own i→D≤i) :
  Twin W2 D c' { g with σ:=g.putS p n b,r:=(g.r.outed g.σ.s n).more } (r.put g.σ.s g.σ.K p n b kv):=by
 obtain ⟨l1,_,_,_,_,l6⟩:=g.r.like_put g.σ.s n
 refine ⟨h1,h2,h3,h.N,rfl,rfl,h.kn,h.tag,h.att,h.nod,h.non,h.wat,?_,h.wks,?_,?_,?_,fun x hx=>?_,h.swk⟩
 ·show (itsOut r.N g.σ.s n r.il).map It.seen=(itsOut g.N g.σ.s n g.σ.its).map It.seen
  rw [h.N]
  exact seen_out h.its
 ·show (g.r.outed g.σ.s n).more.pl≤c'
  have:=h.pl;omega
 ·show (g.r.outed g.σ.s n).more.cl≤c'
  have:=h.cl;omega
 ·show r.top≤c';have:=h.top;omega
 ·have hx':x∈itsOut r.N g.σ.s n r.il:=hx
  unfold itsOut at hx'
  split at hx'
  ·exact h.sit x hx'
  ·obtain ⟨y,hy,rfl⟩:=List.mem_map.1 hx'
   exact h.sit y hy
theorem Twin.made {k mb nb cap rn rcap:Nat} {t:ByteArray} {v:Value} (h:Twin W D c g r) (hc:c≤c') (h1:GOK D W2 (g.made k t v mb nb cap)) (h2:RefOK W2 (r.made k (if k=2 then t else ByteArray.empty) rn rcap)) (h3:∀ i,(r.made k (if k=2 then t else ByteArray.empty) rn rcap).own i→D≤i) :
  Twin W2 D c' (g.made k t v mb nb cap) (r.made k (if k=2 then t else ByteArray.empty) rn rcap):=by
 have hK:up g.σ.K (g.N+1) []=g.σ.K:=by
  funext i
  by_cases e:i=g.N+1
  ·subst e;rw [up_same,noKids h.gok.wf (.inr (Nat.lt_succ_self _))]
  ·rw [up_other _ _ _ e]
 refine ⟨h1,h2,h3,?_,?_,?_,fun i i1 i2=>?_,fun i i1 i2 i3=>?_,fun i i1 i2 i3 a=>?_,fun i i1 i2=>?_,fun i i1 i2 i3=>?_,h.wat,h.its,h.wks,?_,?_,?_,h.sit,h.swk⟩
 ·show r.N+1=g.N+1;rw [h.N]
 ·show up r.par (r.N+1) 0=up g.σ.s.par (g.N+1) 0
  rw [h.N,h.par]
 ·show up r.K (r.N+1) []=g.σ.K
  rw [h.N,h.K,hK]
 ·show up r.kn (r.N+1) k i=up g.kk (g.N+1) k i
  have i2':i≤g.N+1:=i2
  rw [h.N]
  by_cases e:i=g.N+1
  ·subst e;rw [up_same,up_same]
  ·rw [up_other _ _ _ e,up_other _ _ _ e];exact h.kn i i1 (by omega)
 ·have i2':i≤g.N+1:=i2
  have i3':up g.kk (g.N+1) k i=2:=i3
  show up r.tag (r.N+1) (if k=2 then t else ByteArray.empty) i=up g.tg (g.N+1) t i
  rw [h.N]
  by_cases e:i=g.N+1
  ·subst e
   rw [up_same] at i3'
   rw [up_same,up_same,if_pos i3']
  ·rw [up_other _ _ _ e] at i3'
   rw [up_other _ _ _ e,up_other _ _ _ e];exact h.tag i i1 (by omega) i3'
 ·have i2':i≤g.N+1:=i2
  have i3':up g.kk (g.N+1) k i=2:=i3
  show atOf (up r.ats (r.N+1) [] i) a=up g.A (g.N+1) noAtt i a
  rw [h.N]
  by_cases e:i=g.N+1
  ·subst e
   rw [up_same,up_same];rfl
  ·rw [up_other _ _ _ e] at i3'
   rw [up_other _ _ _ e,up_other _ _ _ e];exact h.att i i1 (by omega) i3' a
 ·have i2':i≤g.N+1:=i2
  show ((up r.ats (r.N+1) [] i).map (·.1)).Nodup
  rw [h.N]
  by_cases e:i=g.N+1
  ·subst e;rw [up_same];simp
  ·rw [up_other _ _ _ e];exact h.nod i i1 (by omega)
 ·have i2':i≤g.N+1:=i2
  have i3':up g.kk (g.N+1) k i≠2:=i3
  show up r.ats (r.N+1) [] i=[]
  rw [h.N]
  by_cases e:i=g.N+1
  ·subst e;rw [up_same]
  ·rw [up_other _ _ _ e] at i3'
   rw [up_other _ _ _ e];exact h.non i i1 (by omega) i3'
 ·show g.r.pl≤c';have:=h.pl;omega
 ·show g.r.cl≤c';have:=h.cl;omega
 ·show r.top≤c';have:=h.top;omega
theorem Twin.same (h:Twin W D c g r) (hc:c≤c') (h1:GOK D W2 g) (h2:RefOK W2 r) (h3:∀ i,r.own i→D≤i):Twin W2 D c' g r :=
 ⟨h1,h2,h3,h.N,h.par,h.K,h.kn,h.tag,h.att,h.nod,h.non,h.wat,h.its,h.wks,by have:=h.pl;omega,by have:=h.cl;omega,by have:=h.top;omega,h.sit,h.swk⟩
structure Join (D last c:Nat) (g':Gx) (r r':Rx):Prop where
 bare:r.bare last→r'.bare last
 twin:∀ W2,GOK D W2 g'→RefOK W2 r'→(∀ i,r'.own i→D≤i)→Twin W2 D (c+2) g' r'
def ThenR (D last c:Nat) (r:Rx) (f:Nat) (args:Array Value) (ans:Value) (g':Gx):Prop :=
 ∀ w3,RefOK w3 r→Calls Tryz.prog f args w3 fun e w4=>e=.returned ans∧∃ r',RPost w3 w4 r r'∧Join D last c g' r r'
theorem Join.same {last:Nat} (h:Twin W D c g r):Join D last c g r r:=⟨fun e=>e,fun _ h1 h2 h3=>h.same (by omega) h1 h2 h3⟩
theorem twoMake {last:Nat} (h:Twin W D c g r) (kind:Int) (t:ByteArray) (hs:t.size≤maxLen) :
  Calls Tryz.prog 33 #[.pointer (some ⟨g.gb,0,none⟩),.int .i64 kind,.string t] W fun e w'=>∃ (x q:Int) (g':Gx),e=.returned (.tuple #[.int .i64 x,.int .i64 q])∧Post D W w' g g' ∧
   ThenR D last c r 90 #[.pointer (some ⟨r.rb,0,none⟩),.int .i64 kind,.string t] (.tuple #[.int .i64 x,.int .i64 q]) g':=by
 refine (makeX h.gok kind t hs).mono ?_
 rintro e w' (⟨h1,rfl,rfl⟩ | ⟨h1,h2,h3,rfl⟩ | ⟨h1,h2,rfl,k,nb,cap,mb,v,rfl,hP⟩)
 ·refine ⟨_,_,g,rfl,Post.refl h.gok,fun w3 h3=>(refMake h3 kind t hs).mono ?_⟩
  rintro e w4 (⟨k1,rfl,rfl⟩ | ⟨k1,_⟩ | ⟨k1,_⟩)
  ·exact ⟨rfl,r,RPost.refl h3,Join.same h⟩
  ·exact absurd k1 h1
  ·exact absurd k1 h1
 ·refine ⟨_,_,g,rfl,Post.of_below h.gok h3,fun w3 k3=>(refMake k3 kind t hs).mono ?_⟩
  rintro e w4 (⟨k1,_⟩ | ⟨k1,k2,rfl,rfl⟩ | ⟨k1,k2,_⟩)
  ·exact absurd h1 k1
  ·exact ⟨rfl,r,RPost.refl k3,Join.same h⟩
  ·have:=h.N;omega
 ·refine ⟨_,_,_,rfl,hP,fun w3 k3=>(refMake k3 k t hs).mono ?_⟩
  rintro e w4 (⟨k1,_⟩ | ⟨k1,k2,_⟩ | ⟨k1,k2,rfl,k',rn,rcap,hk,hR⟩)
  ·exact absurd h1 k1
  ·have:=h.N;omega
  ·obtain rfl:k=k':=by omega
   exact ⟨by rw [h.N],_,hR,⟨fun e=>e,fun _ h1 h2 h3=>h.made (by omega) h1 h2 h3⟩⟩
theorem twoTake {last:Nat} (h:Twin W D c g r) (hc:c≤4611686018427387903) (n:Int) :
  Calls Tryz.prog 49 #[.pointer (some ⟨g.gb,0,none⟩),.int .i64 n] W fun e w'=>∃ (q:Int) (g':Gx),e=.returned (.int .i64 q)∧Post D W w' g g' ∧
   ThenR D last c r 93 #[.pointer (some ⟨r.rb,0,none⟩),.int .i64 n] (.int .i64 q) g':=by
 refine (takeX h.gok n (by have:=h.pl;omega)).mono ?_
 rintro e w' (⟨rfl,h1,hP⟩ | ⟨m,rfl,h1,h2,⟨rfl,h3,hP⟩ | ⟨rfl,h3,hP⟩⟩)
 ·refine ⟨5,g,rfl,hP,fun w3 k3=>(refTake k3 h.par h.K h.wf h.sound n).mono ?_⟩
  rintro e w4 (⟨rfl,_,rfl⟩ | ⟨m,rfl,k1,k2,_⟩)
  ·exact ⟨rfl,r,RPost.refl k3,Join.same h⟩
  ·rw [h.N] at k2
   rw [hasB_nat k1 k2] at h1;cases h1
 ·refine ⟨8,g,rfl,hP,fun w3 k3=>(refTake k3 h.par h.K h.wf h.sound m).mono ?_⟩
  rintro e w4 (⟨rfl,k1,rfl⟩ | ⟨m',hm,_,_,⟨rfl,_,rfl⟩ | ⟨_,k4,_⟩⟩)
  ·rw [h.N,hasB_nat h1 h2] at k1;cases k1
  ·exact ⟨rfl,r,RPost.refl k3,Join.same h⟩
  ·obtain rfl:m=m':=by omega
   exact absurd h3 k4
 ·refine ⟨0,_,rfl,hP,fun w3 k3=>(refTake k3 h.par h.K h.wf h.sound m).mono ?_⟩
  rintro e w4 (⟨rfl,k1,rfl⟩ | ⟨m',hm,_,_,⟨_,k4,_⟩ | ⟨rfl,k4,nv,hR⟩⟩)
  ·rw [h.N,hasB_nat h1 h2] at k1;cases k1
  ·obtain rfl:m=m':=by omega
   exact absurd k4 h3
  ·obtain rfl:m=m':=by omega
   refine ⟨rfl,_,hR,⟨fun e=>⟨e.1,fun hl=>?_,e.2.2⟩,fun _ h1 h2 h3=>h.took (by omega) h1 h2 h3⟩⟩
   show r.il.map (It.leave r.N g.σ.s m)=[]
   rw [e.2.1 hl];rfl
theorem twoPut {last:Nat} (h:Twin W D c g r) (hc:c≤4611686018427387903) (p n b:Int) :
  Calls Tryz.prog 11 #[.pointer (some ⟨g.gb,0,none⟩),.int .i64 p,.int .i64 n,.int .i64 b] W fun e w'=>∃ (q:Int) (g':Gx),e=.returned (.int .i64 q)∧Post D W w' g g' ∧
   ThenR D last c r 92 #[.pointer (some ⟨r.rb,0,none⟩),.int .i64 p,.int .i64 n,.int .i64 b] (.int .i64 q) g':=by
 refine (putX h.gok p n b (by have:=h.pl;omega)).mono ?_
 rintro e w' ⟨q,rfl,hq,hcase⟩
 have hq':∀ q',PutErr r.N g.σ.s g.σ.K r.kn p n b q'→q'=q:=fun q' hq'=>by
  rw [h.N] at hq'
  exact putErr_det (putErr_congr h.gok.wf (fun i h1 h2=>(h.kn i h1 h2).symm) hq') hq
 rcases hcase with ⟨h0,hP⟩ | ⟨rfl,p',n',b',rfl,rfl,rfl,h1,h2,h3,h4,_,_,hP⟩
 ·refine ⟨q,g,rfl,hP,fun w3 k3=>(refPut k3 h.par h.K h.wf h.sound p n b).mono ?_⟩
  rintro e w4 ⟨q',rfl,hqq,⟨_,rfl⟩ | ⟨k0,_⟩⟩
  ·rw [hq' q' hqq]
   exact ⟨rfl,r,RPost.refl k3,Join.same h⟩
  ·exact absurd ((hq' q' hqq).symm.trans k0) h0
 ·refine ⟨0,_,rfl,hP,fun w3 k3=>(refPut k3 h.par h.K h.wf h.sound p' n' b').mono ?_⟩
  rintro e w4 ⟨q',rfl,hqq,⟨k0,_⟩ | ⟨rfl,p2,n2,b2,e1,e2,e3,kv,hR⟩⟩
  ·exact absurd (hq' q' hqq) k0
  ·obtain rfl:p'=p2:=by omega
   obtain rfl:n'=n2:=by omega
   obtain rfl:b'=b2:=by omega
   refine ⟨rfl,_,hR,⟨fun e=>⟨e.1,fun hl=>?_,e.2.2⟩,fun _ h1 h2 h3=>h.put (by omega) h1 h2 h3⟩⟩
   show itsOut r.N g.σ.s n' r.il=[]
   rw [e.2.1 hl];unfold itsOut;split <;> rfl
theorem twoParent {last:Nat} (h:Twin W D c g r) (n:Int) :
  Calls Tryz.prog 25 #[.pointer (some ⟨g.gb,0,none⟩),.int .i64 n] W fun e w'=>∃ (x q:Int) (g':Gx),e=.returned (.tuple #[.int .i64 x,.int .i64 q])∧Post D W w' g g' ∧
   ThenR D last c r 96 #[.pointer (some ⟨r.rb,0,none⟩),.int .i64 n] (.tuple #[.int .i64 x,.int .i64 q]) g':=by
 refine (parentX h.gok n).mono ?_
 rintro e w' ⟨rfl,⟨h1,rfl⟩ | ⟨m,rfl,h1,h2,rfl⟩⟩
 ·refine ⟨0,5,g,rfl,Post.refl h.gok,fun w3 k3=>(refParent k3 n).mono ?_⟩
  rintro e w4 ⟨rfl,⟨k1,_⟩ | ⟨_,rfl⟩⟩
  ·rw [h.N,h1] at k1;cases k1
  ·exact ⟨rfl,r,RPost.refl k3,Join.same h⟩
 ·refine ⟨_,0,g,rfl,Post.refl h.gok,fun w3 k3=>(refParent k3 m).mono ?_⟩
  rintro e w4 ⟨rfl,⟨_,rfl⟩ | ⟨k1,_⟩⟩
  ·exact ⟨by rw [Int.toNat_natCast,h.par],r,RPost.refl k3,Join.same h⟩
  ·rw [h.N,hasB_nat h1 h2] at k1;cases k1
end
end Go.Proofs.YtcedebpoihcbdaaGreatDoor
