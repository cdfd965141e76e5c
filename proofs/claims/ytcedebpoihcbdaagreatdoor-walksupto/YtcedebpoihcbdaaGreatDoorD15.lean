/-
  A grove and the document's beside it: what Walker, Move, Here and Go make of both.
-/
import Derived.Test.YtcedebpoihcbdaaGreatDoorDC
import Derived.Test.YtcedebpoihcbdaaGreatDoorRM
set_option linter.unusedVariables false
namespace Go.Proofs.YtcedebpoihcbdaaGreatDoor
open Go.RowKit Go.Shelf Gv
section
variable {W W' W1 W2:World} {D c c' last:Nat} {g g':Gx} {r r':Rx}
theorem ql_len (h:Twin W D c g r):r.ql.length=g.ws.length:=by
 have:=congrArg List.length h.wks
 simpa using this
theorem ql_at (h:Twin W D c g r) {i:Nat} {x y:Wk} (hx:g.ws[i]?=some x) (hy:r.ql[i]?=some y):y.seen=x.seen:=by
 have e:(r.ql.map Wk.seen)[i]?=(g.ws.map Wk.seen)[i]?:=by rw [h.wks]
 rw [List.getElem?_map,List.getElem?_map,hx,hy] at e
 simpa using e
theorem Twin.wok (h:Twin W D c g r):∀ x,x∈r.ql→1≤x.root∧x.root≤r.N∧1≤x.here∧x.here≤r.N:=fun x hx=>by
 have hm:x.seen∈g.ws.map Wk.seen:=by rw [← h.wks];exact List.mem_map.2 ⟨x,hx,rfl⟩
 obtain ⟨y,hy,e⟩:=List.mem_map.1 hm
 have hs:=h.gok.wok y hy
 have e1:y.root=x.root:=congrArg Prod.fst e
 have e2:y.here=x.here:=congrArg (·.2.2.1) e
 rw [e1,e2] at hs
 rw [h.N]
 exact hs
theorem twoWalker (h:Twin W D c g r) (h17:17≤last) (root see:Int) (rs:List Rule) (ao:Option Addr) (ac:Nat) (hl:rs.length≤1048576) (hn:RulesIn W ao rs) (hz:ao=none→rs=[]∧ac=0) :
  Calls Tryz.prog 14 #[.pointer (some ⟨g.gb,0,none⟩),.int .i64 root,.int .i64 see,.slice ao rs.length ac] W fun e w'=>∃ (x q:Int) (g':Gx),e=.returned (.tuple #[.int .i64 x,.int .i64 q])∧Post D W w' g g' ∧
   ∀ (D':Nat) (ta:Option Addr) (tc:Nat) (w3:World),w3.ownsRow D' 207 2 (.slice ta rs.length tc) rs.length (rs.flatMap rrow)→RefOK w3 r→Calls Tryz.prog 112 #[.pointer (some ⟨r.rb,0,none⟩),.int .i64 root,.int .i64 see,.slice ta rs.length tc] w3 fun e w4=>e=.returned (.tuple #[.int .i64 x,.int .i64 q])∧∃ r',RPost w3 w4 r r'∧Join D last c g' r r':=by
 have hE:mayErr r.N root see rs r.ql.length=mayErr g.N root see rs g.ws.length:=by rw [h.N,ql_len h]
 refine (walkerX h.gok root see rs ao ac (by omega) hn hz).mono ?_
 rintro e w' (⟨h1,rfl,h2⟩ | ⟨hq,m,v,rv,rfl,m1,mN,rfl,hP⟩)
 ·refine ⟨0,_,g,rfl,Post.of_below h.gok h2,fun D' ta tc w3 ho k3=>(refWalker k3 root see rs ta tc ho (by omega) hn.short).mono ?_⟩
  rintro e w4 (⟨k1,rfl,hb⟩ | ⟨k1,_⟩)
  ·exact ⟨by rw [hE],r,RPost.of_below k3 hb,Join.same h⟩
  ·rw [hE] at k1;exact absurd k1 h1
 ·refine ⟨_,0,_,rfl,hP,fun D' ta tc w3 ho k3=>(refWalker k3 m see rs ta tc ho (by omega) hn.short).mono ?_⟩
  rintro e w4 (⟨k1,_⟩ | ⟨k1,m',v',rv',hm,n1,nN,rfl,hR⟩)
  ·rw [hE] at k1;exact absurd hq k1
  ·obtain rfl:m=m':=by omega
   refine ⟨by rw [ql_len h],_,hR,⟨fun e=>⟨e.1,e.2.1,fun h'=>by omega⟩,fun W2 j1 j2 j3=>?_⟩⟩
   have hp:=h.pl
   have hc:=h.cl
   have ht:=h.top
   refine ⟨j1,j2,j3,h.N,h.par,h.K,h.kn,h.tag,h.att,h.nod,h.non,h.wat,h.its,?_,by show g.r.pl≤_;omega,by show g.r.cl≤_;omega,by show r.top≤_;omega,h.sit,fun x hx=>?_⟩
   ·show (r.ql++[Wk.made m see rv' rs]).map Wk.seen=(g.ws++[Wk.made m see rv rs]).map Wk.seen
    rw [List.map_append,List.map_append,h.wks];rfl
   ·rcases mem_snoc (show x∈r.ql++[Wk.made m see rv' rs] from hx) with hx | rfl
    ·exact h.swk x hx
    ·exact mayErr_see hq
theorem went_join (h:Twin W D c g r) {i a:Nat} {x y:Wk} (hx:g.ws[i]?=some x) (hy:r.ql[i]?=some y):Join D last c (g.went i x a) r (r.went i y a):=by
 have hs:=ql_at h hx hy
 have e1:y.root=x.root:=congrArg Prod.fst hs
 have e2:y.see=x.see:=congrArg (·.2.1) hs
 have e3:y.rl=x.rl:=congrArg (·.2.2.2) hs
 refine ⟨fun e=>⟨e.1,e.2.1,fun h'=>by
  have h0:=e.2.2 h'
  rw [h0] at hy
  simp at hy⟩,fun W2 j1 j2 j3=>?_⟩
 have hp:=h.pl
 have hc:=h.cl
 have ht:=h.top
 refine ⟨j1,j2,j3,h.N,h.par,h.K,h.kn,h.tag,h.att,h.nod,h.non,h.wat,h.its,?_,by show g.r.pl≤_;omega,by show g.r.cl≤_;omega,by show r.top≤_;omega,h.sit,fun z hz=>?_⟩
 ·show (r.ql.set i { y with here:=a }).map Wk.seen=(g.ws.set i { x with here:=a }).map Wk.seen
  rw [List.map_set,List.map_set,h.wks]
  congr 1
  unfold Wk.seen
  simp only
  rw [e1,e2,e3]
 ·rcases List.mem_or_eq_of_mem_set (show z∈r.ql.set i { y with here:=a } from hz) with hz | rfl
  ·exact h.swk z hz
  ·exact h.swk y (List.mem_of_getElem? hy)
theorem twoMove (h:Twin W D c g r) (n how:Int) :
  Calls Tryz.prog 16 #[.pointer (some ⟨g.gb,0,none⟩),.int .i64 n,.int .i64 how] W fun e w'=>∃ (x q:Int) (g':Gx),e=.returned (.tuple #[.int .i64 x,.int .i64 q])∧Post D W w' g g' ∧
   ThenR D last c r 113 #[.pointer (some ⟨r.rb,0,none⟩),.int .i64 n,.int .i64 how] (.tuple #[.int .i64 x,.int .i64 q]) g':=by
 have hlo:Lo r.N g.σ.s:=by rw [h.N];exact h.gok.lo
 have hvf:∀ x,x∈r.ql→∀ n,1≤n→n≤r.N→saysF x.see x.rl (r.kn n) (r.tag n)=verd g.kk g.tg x.see x.rl n:=fun x hx n h1 hN=>says_twin h h1 (by rw [← h.N];exact hN) x.see x.rl
 have hl:=ql_len h
 refine (moveX h.gok n how).mono ?_
 rintro e w' (⟨hn,rfl,rfl⟩ | ⟨hn,hh,rfl,hb⟩ | ⟨i,k,a,x,rfl,rfl,k1,k7,hx,rfl,haN,hM,hP⟩)
 ·refine ⟨0,10,g,rfl,Post.refl h.gok,fun w3 k3=>(refMove k3 h.wf h.K h.par hlo h.kn4 h.wok h.swk (fun y=>verd g.kk g.tg y.see y.rl) hvf n how).mono ?_⟩
  rintro e w4 (⟨_,rfl,rfl⟩ | ⟨hn',_⟩ | ⟨i,k,a,y,rfl,_,_,_,hy,_⟩)
  ·exact ⟨rfl,r,RPost.refl k3,Join.same h⟩
  ·rw [hl] at hn';exact absurd hn hn'
  ·have:=(List.getElem?_eq_some_iff.1 hy).1
   omega
 ·refine ⟨0,1,g,rfl,Post.of_below h.gok hb,fun w3 k3=>(refMove k3 h.wf h.K h.par hlo h.kn4 h.wok h.swk (fun y=>verd g.kk g.tg y.see y.rl) hvf n how).mono ?_⟩
  rintro e w4 (⟨hn',_⟩ | ⟨_,_,rfl,rfl⟩ | ⟨i,k,a,y,rfl,rfl,_,_,hy,_⟩)
  ·rw [hl] at hn';exact absurd hn' hn
  ·exact ⟨rfl,r,RPost.refl k3,Join.same h⟩
  ·omega
 ·refine ⟨_,0,_,rfl,hP,fun w3 k3=>(refMove k3 h.wf h.K h.par hlo h.kn4 h.wok h.swk (fun y=>verd g.kk g.tg y.see y.rl) hvf _ _).mono ?_⟩
  have hxl:=(List.getElem?_eq_some_iff.1 hx).1
  rintro e w4 (⟨hn,_⟩ | ⟨_,hh,_⟩ | ⟨i',k',a',y,he,hk,_,_,hy,rfl,hM',hR⟩)
  ·omega
  ·omega
  ·obtain rfl:i=i':=by omega
   obtain rfl:k=k':=by omega
   have hs:=ql_at h hx hy
   have e1:y.root=x.root:=congrArg Prod.fst hs
   have e2:y.see=x.see:=congrArg (·.2.1) hs
   have e3:y.here=x.here:=congrArg (·.2.2.1) hs
   have e4:y.rl=x.rl:=congrArg (·.2.2.2) hs
   have hM2:MoveTo g.N g.σ.s (g.says x) x.root x.here k a':=by
    have:=hM'
    simp only [e1,e2,e3,e4,h.N] at this
    exact this
   obtain rfl:a=a':=hM.det hM2
   refine ⟨rfl,_,hR,?_⟩
   unfold Gx.moved Rx.moved
   by_cases ha:a=0
   ·rw [if_pos ha,if_pos ha];exact Join.same h
   ·rw [if_neg ha,if_neg ha];exact went_join h hx hy
theorem twoHere (h:Twin W D c g r) (n:Int) :
  Calls Tryz.prog 23 #[.pointer (some ⟨g.gb,0,none⟩),.int .i64 n] W fun e w'=>∃ (x q:Int) (g':Gx),e=.returned (.tuple #[.int .i64 x,.int .i64 q])∧Post D W w' g g' ∧
   ThenR D last c r 114 #[.pointer (some ⟨r.rb,0,none⟩),.int .i64 n] (.tuple #[.int .i64 x,.int .i64 q]) g':=by
 have hl:=ql_len h
 refine (hereX h.gok n).mono ?_
 rintro e w' ⟨rfl,⟨hn,rfl⟩ | ⟨i,x,rfl,hx,rfl⟩⟩
 ·refine ⟨0,10,g,rfl,Post.refl h.gok,fun w3 k3=>(refHere k3 n).mono ?_⟩
  rintro e w4 ⟨rfl,⟨_,rfl⟩ | ⟨i,y,rfl,hy,_⟩⟩
  ·exact ⟨rfl,r,RPost.refl k3,Join.same h⟩
  ·have:=(List.getElem?_eq_some_iff.1 hy).1
   omega
 ·have hxl:=(List.getElem?_eq_some_iff.1 hx).1
  refine ⟨_,0,g,rfl,Post.refl h.gok,fun w3 k3=>(refHere k3 _).mono ?_⟩
  rintro e w4 ⟨rfl,⟨hn,_⟩ | ⟨i',y,he,hy,rfl⟩⟩
  ·omega
  ·obtain rfl:i=i':=by omega
   have e3:y.here=x.here:=congrArg (·.2.2.1) (ql_at h hx hy)
   exact ⟨by rw [e3],r,RPost.refl k3,Join.same h⟩
theorem twoGo (h:Twin W D c g r) (n m:Int) :
  Calls Tryz.prog 115 #[.pointer (some ⟨g.gb,0,none⟩),.int .i64 n,.int .i64 m] W fun e w'=>∃ (q:Int) (g':Gx),e=.returned (.int .i64 q)∧Post D W w' g g' ∧
   ThenR D last c r 116 #[.pointer (some ⟨r.rb,0,none⟩),.int .i64 n,.int .i64 m] (.int .i64 q) g':=by
 have hl:=ql_len h
 have hN:=h.N
 refine (goX h.gok n m).mono ?_
 rintro e w' (⟨hn,rfl,rfl⟩ | ⟨hn,hh,rfl,rfl⟩ | ⟨i,k,x,rfl,rfl,k1,kN,hx,rfl,hP⟩)
 ·refine ⟨10,g,rfl,Post.refl h.gok,fun w3 k3=>(refGo k3 n m).mono ?_⟩
  rintro e w4 (⟨_,rfl,rfl⟩ | ⟨hn',_⟩ | ⟨i,k,y,rfl,_,_,_,hy,_⟩)
  ·exact ⟨rfl,r,RPost.refl k3,Join.same h⟩
  ·rw [hl] at hn';exact absurd hn hn'
  ·have:=(List.getElem?_eq_some_iff.1 hy).1
   omega
 ·refine ⟨5,g,rfl,Post.refl h.gok,fun w3 k3=>(refGo k3 n m).mono ?_⟩
  rintro e w4 (⟨hn',_⟩ | ⟨_,_,rfl,rfl⟩ | ⟨i,k,y,rfl,rfl,k1,kN,hy,_⟩)
  ·rw [hl] at hn';exact absurd hn' hn
  ·exact ⟨rfl,r,RPost.refl k3,Join.same h⟩
  ·have:hasB (g.N+1) (k:Int)=true:=by simp [hasB];omega
   rw [hh] at this;cases this
 ·have hxl:=(List.getElem?_eq_some_iff.1 hx).1
  refine ⟨0,_,rfl,hP,fun w3 k3=>(refGo k3 _ _).mono ?_⟩
  rintro e w4 (⟨hn,_⟩ | ⟨_,hh,_⟩ | ⟨i',k',y,he,hk,_,_,hy,rfl,hR⟩)
  ·omega
  ·have:hasB (r.N+1) (k:Int)=true:=by simp [hasB];omega
   rw [hh] at this;cases this
  ·obtain rfl:i=i':=by omega
   obtain rfl:k=k':=by omega
   exact ⟨rfl,_,hR,went_join h hx hy⟩
end
end Go.Proofs.YtcedebpoihcbdaaGreatDoor
