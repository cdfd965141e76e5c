/-
  A grove and the document's beside it: what Iter, Step and At make of both.
  The law's world: rules are laid by.
-/
import Derived.Test.YtcedebpoihcbdaaGreatDoorDB
import Derived.Test.YtcedebpoihcbdaaGreatDoorRJ
import Derived.Test.YtcedebpoihcbdaaGreatDoorHB
set_option linter.unusedVariables false
namespace Go.Proofs.YtcedebpoihcbdaaGreatDoor
open Go.RowKit Go.Shelf Gv
section
variable {W W' W1 W2:World} {D c c' last:Nat} {g g':Gx} {r r':Rx}
theorem Twin.kn4 (h:Twin W D c g r):∀ i,1≤i→i≤r.N→r.kn i≤4:=fun i h1 hN=>by
 rw [h.N] at hN
 rw [h.kn i h1 hN]
 rcases h.gok.gro.kinds i h1 hN with ⟨e,_⟩ | ⟨e,_⟩ | ⟨e,_⟩ | ⟨e,_⟩ <;> omega
theorem says_twin (h:Twin W D c g r) {y:Nat} (h1:1≤y) (hN:y≤g.N) (see:Int) (rl:List Rule):saysF see rl (r.kn y) (r.tag y)=saysF see rl (g.kk y) (g.tg y):=by
 rw [h.kn y h1 hN]
 by_cases e:g.kk y=2
 ·rw [h.tag y h1 hN e]
 ·unfold saysF;rw [if_neg e,if_neg e]
theorem find_same {p q:Nat→Bool} {l:List Nat} (h:∀ y,y∈l→p y=q y):l.find? p=l.find? q:=by
 induction l with
 | nil=>rfl
 | cons a l ih=>rw [List.find?_cons,List.find?_cons,h a (by simp),ih (fun y hy=>h y (by simp [hy]))]
theorem seq_mem {l:List Nat} {j:Nat} {back:Bool} {y:Nat} (h:y∈seqOf l j back):y∈l:=by
 unfold seqOf at h
 split at h
 ·exact List.mem_of_mem_take (List.mem_reverse.1 h)
 ·exact List.mem_of_mem_drop h
theorem step_twin (h:Twin W D c g r) {sp:Spot} (h1:1≤sp.root) (hN:sp.root≤g.N) (see:Int) (rl:List Rule) (back:Bool):stepTo r.N g.σ.K (accB r.kn r.tag see rl) sp back=stepTo g.N g.σ.K (accB g.kk g.tg see rl) sp back:=by
 rw [h.N]
 unfold stepTo
 rw [find_same (fun y hy=>?_)]
 have hy2:=pre_le h.gok.wf g.N sp.root y h1 hN (seq_mem hy)
 unfold accB
 rw [says_twin h hy2.1 hy2.2]
theorem its_len (h:Twin W D c g r):r.il.length=g.σ.its.length:=by
 have:=congrArg List.length h.its
 simpa using this
theorem its_at (h:Twin W D c g r) {i:Nat} {x y:It} (hx:g.σ.its[i]?=some x) (hy:r.il[i]?=some y):y.seen=x.seen:=by
 have e:(r.il.map It.seen)[i]?=(g.σ.its.map It.seen)[i]?:=by rw [h.its]
 rw [List.getElem?_map,List.getElem?_map,hx,hy] at e
 simpa using e
theorem mayErr_see {N cnt:Nat} {root see:Int} {rs:List Rule} (h:mayErr N root see rs cnt=0):0≤see∧see≤30:=by
 unfold mayErr at h
 by_cases h1:hasB (N+1) root=false
 ·rw [if_pos h1] at h;exact absurd h (by decide)
 rw [if_neg h1] at h
 by_cases h2:filtErr see rs≠0
 ·rw [if_pos h2] at h;exact absurd h h2
 have h3:filtErr see rs=0:=Classical.not_not.1 h2
 unfold filtErr at h3
 by_cases h4:see<0∨30<see
 ·rw [if_pos h4] at h3;exact absurd h3 (by decide)
 ·omega
theorem twoIter (h:Twin W D c g r) (h14:14≤last) (root see:Int) (rs:List Rule) (ao:Option Addr) (ac:Nat) (hl:rs.length≤1048576) (hn:RulesIn W ao rs) (hz:ao=none→rs=[]∧ac=0) :
  Calls Tryz.prog 13 #[.pointer (some ⟨g.gb,0,none⟩),.int .i64 root,.int .i64 see,.slice ao rs.length ac] W fun e w'=>∃ (x q:Int) (g':Gx),e=.returned (.tuple #[.int .i64 x,.int .i64 q])∧Post D W w' g g' ∧
   ∀ (D':Nat) (ta:Option Addr) (tc:Nat) (w3:World),w3.ownsRow D' 207 2 (.slice ta rs.length tc) rs.length (rs.flatMap rrow)→RefOK w3 r→Calls Tryz.prog 106 #[.pointer (some ⟨r.rb,0,none⟩),.int .i64 root,.int .i64 see,.slice ta rs.length tc] w3 fun e w4=>e=.returned (.tuple #[.int .i64 x,.int .i64 q])∧∃ r',RPost w3 w4 r r'∧Join D last c g' r r':=by
 have hE:mayErr r.N root see rs r.il.length=mayErr g.N root see rs g.σ.its.length:=by rw [h.N,its_len h]
 refine (iterX h.gok root see rs ao ac (by omega) hn hz).mono ?_
 rintro e w' (⟨h1,rfl,h2⟩ | ⟨hq,m,v,rv,rfl,m1,mN,rfl,hP⟩)
 ·refine ⟨0,_,g,rfl,Post.of_below h.gok h2,fun D' ta tc w3 ho k3=>(refIter k3 root see rs ta tc ho (by omega) hn.short).mono ?_⟩
  rintro e w4 (⟨k1,rfl,hb⟩ | ⟨k1,_⟩)
  ·exact ⟨by rw [hE],r,RPost.of_below k3 hb,Join.same h⟩
  ·rw [hE] at k1;exact absurd k1 h1
 ·refine ⟨_,0,_,rfl,hP,fun D' ta tc w3 ho k3=>(refIter k3 m see rs ta tc ho (by omega) hn.short).mono ?_⟩
  rintro e w4 (⟨k1,_⟩ | ⟨k1,m',v',rv',hm,n1,nN,rfl,hR⟩)
  ·rw [hE] at k1;exact absurd hq k1
  ·obtain rfl:m=m':=by omega
   refine ⟨by rw [its_len h],_,hR,⟨fun e=>⟨e.1,fun h'=>by omega,e.2.2⟩,fun W2 j1 j2 j3=>?_⟩⟩
   have hp:=h.pl
   have hc:=h.cl
   have ht:=h.top
   refine ⟨j1,j2,j3,h.N,h.par,h.K,h.kn,h.tag,h.att,h.nod,h.non,h.wat,?_,h.wks,by show g.r.pl≤_;omega,by show g.r.cl≤_;omega,by show r.top≤_;omega,fun x hx=>?_,h.swk⟩
   ·show (r.il++[It.made m see rv' rs]).map It.seen=(g.σ.its++[It.made m see rv rs]).map It.seen
    rw [List.map_append,List.map_append,h.its];rfl
   ·rcases mem_snoc (show x∈r.il++[It.made m see rv' rs] from hx) with hx | rfl
    ·exact h.sit x hx
    ·exact mayErr_see hq
theorem twoStep (h:Twin W D c g r) (n:Int) (back:Bool) :
  Calls Tryz.prog 15 #[.pointer (some ⟨g.gb,0,none⟩),.int .i64 n,.bool back] W fun e w'=>∃ (x q:Int) (g':Gx),e=.returned (.tuple #[.int .i64 x,.int .i64 q])∧Post D W w' g g' ∧
   ThenR D last c r 110 #[.pointer (some ⟨r.rb,0,none⟩),.int .i64 n,.bool back] (.tuple #[.int .i64 x,.int .i64 q]) g':=by
 refine (stepX h.gok n back).mono ?_
 rintro e w' (⟨hn,rfl,rfl⟩ | ⟨i,x,rfl,hx,rfl,hP⟩)
 ·refine ⟨0,10,g,rfl,Post.refl h.gok,fun w3 k3=>(refStep k3 h.wf h.K h.kn4 h.sound h.sit n back).mono ?_⟩
  rintro e w4 (⟨_,rfl,rfl⟩ | ⟨i,y,rfl,hy,_⟩)
  ·exact ⟨rfl,r,RPost.refl k3,Join.same h⟩
  ·have:=(List.getElem?_eq_some_iff.1 hy).1
   rw [its_len h] at this
   omega
 ·refine ⟨_,0,_,rfl,hP,fun w3 k3=>(refStep k3 h.wf h.K h.kn4 h.sound h.sit _ back).mono ?_⟩
  rintro e w4 (⟨hn,_⟩ | ⟨i',y,he,hy,rfl,hR⟩)
  ·have:=(List.getElem?_eq_some_iff.1 hx).1
   rw [its_len h] at hn
   omega
  ·obtain rfl:i=i':=by omega
   have hs:=its_at h hx hy
   have e1:y.spot=x.spot:=congrArg Prod.fst hs
   have e2:y.see=x.see:=congrArg (·.2.1) hs
   have e3:y.rl=x.rl:=congrArg (·.2.2) hs
   have hso:=h.gok.gro.sound x (List.mem_of_getElem? hx)
   have hst:=step_twin h hso.1 hso.2.1 x.see x.rl back
   refine ⟨by rw [e1,e2,e3,hst],_,hR,⟨fun e=>⟨e.1,fun h'=>by
    have h0:=e.2.1 h'
    rw [h0] at hy
    simp at hy,e.2.2⟩,fun W2 j1 j2 j3=>?_⟩⟩
   have hp:=h.pl
   have hc:=h.cl
   have ht:=h.top
   refine ⟨j1,j2,j3,h.N,h.par,h.K,h.kn,h.tag,h.att,h.nod,h.non,h.wat,?_,h.wks,by show g.r.pl≤_;omega,by show g.r.cl≤_;omega,by show r.top≤_;omega,fun z hz=>?_,h.swk⟩
   ·show (r.il.set i { y with spot:=y.spot.stepped r.N g.σ.K (accB r.kn r.tag y.see y.rl) back }).map It.seen=(g.σ.its.set i { x with spot:=x.spot.stepped g.N g.σ.K (accB g.kk g.tg x.see x.rl) back }).map It.seen
    rw [List.map_set,List.map_set,h.its]
    congr 1
    unfold It.seen Spot.stepped
    simp only
    rw [e1,e2,e3,hst]
   ·rcases List.mem_or_eq_of_mem_set (show z∈r.il.set i { y with spot:=y.spot.stepped r.N g.σ.K (accB r.kn r.tag y.see y.rl) back } from hz) with hz | rfl
    ·exact h.sit z hz
    ·exact h.sit y (List.mem_of_getElem? hy)
theorem twoAt (h:Twin W D c g r) (n:Int) :
  Calls Tryz.prog 22 #[.pointer (some ⟨g.gb,0,none⟩),.int .i64 n] W fun e w'=>∃ (x q:Int) (b:Bool) (g':Gx),e=.returned (.tuple #[.int .i64 x,.bool b,.int .i64 q])∧Post D W w' g g' ∧
   ThenR D last c r 111 #[.pointer (some ⟨r.rb,0,none⟩),.int .i64 n] (.tuple #[.int .i64 x,.bool b,.int .i64 q]) g':=by
 refine (atX h.gok n).mono ?_
 rintro e w' ⟨hb,⟨hn,rfl⟩ | ⟨i,x,rfl,hx,rfl⟩⟩
 ·refine ⟨0,10,false,g,rfl,Post.of_below h.gok hb,fun w3 k3=>(refItAt k3 n).mono ?_⟩
  rintro e w4 ⟨hb4,⟨_,rfl⟩ | ⟨i,y,rfl,hy,_⟩⟩
  ·exact ⟨rfl,r,RPost.of_below k3 hb4,Join.same h⟩
  ·have:=(List.getElem?_eq_some_iff.1 hy).1
   rw [its_len h] at this
   omega
 ·refine ⟨_,0,_,g,rfl,Post.of_below h.gok hb,fun w3 k3=>(refItAt k3 _).mono ?_⟩
  rintro e w4 ⟨hb4,⟨hn,_⟩ | ⟨i',y,he,hy,rfl⟩⟩
  ·have:=(List.getElem?_eq_some_iff.1 hx).1
   rw [its_len h] at hn
   omega
  ·obtain rfl:i=i':=by omega
   have hs:=its_at h hx hy
   have e1:y.spot=x.spot:=congrArg Prod.fst hs
   exact ⟨by rw [e1],r,RPost.of_below k3 hb4,Join.same h⟩
end
open Go.RowKit Go.Shelf Gv
section
variable {W W' W1:World} {D wb last c c' n:Nat} {l:La} {g1 rsv qv ii wv ev v:Value} {es qs:List Ent} {ws:List Wait} {ys:List Rule}
def RulesPost (W:World) (D wb n:Nat) (g1 rsv qv ii wv ev v:Value) (es qs:List Ent) (ws:List Wait) (W':World):Prop :=
 ∃ qv' qs',HInv W' D wb (g1,qv') rsv (n+1) ii wv ev es ws∧QInv W' D qv' qs'∧Fr (fun b=>b=wb∨qv.ownBlock=some b∨v.ownBlock=some b) W W'∧(∀ b,QOwn qv' qs' b→QOwn qv qs b∨v.ownBlock=some b∨W.heap.size≤b)∧qs'.length=qs.length+4∧∀ x,x∈qs'→∀ b,x.1.ownBlock=some b→∃ cs,W'.heap[b]?=some (.cells cs 32 (0,0))
theorem rules_end {len:Nat} (h:HInv W D wb (g1,qv) rsv n ii wv ev es ws) (hQ:QInv W D qv qs) (hA:∀ x,x∈qs→∀ b,x.1.ownBlock=some b→∃ cs,W.heap[b]?=some (.cells cs 32 (0,0))) (hv:W.ownsRow D 32 2 v len (ys.flatMap rrow)) (hlen:len≤9000000) (hf:∀ b,v.ownBlock=some b→¬ QOwn qv qs b) (hfew:qs.length≤999999999990)
  (hM:MarkRPost W W' D wb qs.length n g1 rsv qv ii wv ev v len (entsCells qs)):RulesPost W D wb n g1 rsv qv ii wv ev v es qs ws W':=by
 obtain ⟨⟨qv',v0,v1,v2,v3,w1,w2,m0,m1,m2,m3,mb,mq⟩,hk⟩:=hM
 have hwb:=lt_of_block h.w
 have same:∀ b,b<W.heap.size→b≠wb→qv.ownBlock≠some b→v.ownBlock≠some b→W'.heap[b]?=W.heap[b]?:=fun b h1 h2 h3 h4=>hk.block b h1 ⟨h2,h3,h4⟩
 have tyS:∀ (b:Nat) (cs:Array Value) (t:TypeId),W.heap[b]?=some (.cells cs t (0,0))→t≠55→t≠174→t≠32→W'.heap[b]?=W.heap[b]?:=by
  intro b cs t hb t1 t2 t3
  refine same b (lt_of_block hb) (fun e=>?_) (row_ne hQ.row hb t2) (row_ne hv hb t3)
  subst e
  rw [h.w] at hb
  simp only [Option.some.injEq,Obj.cells.injEq] at hb
  exact t1 hb.2.1.symm
 have rowS:∀ {e size n:Nat} {u:Value} {xs:List Value},W.ownsRow D e size u n xs→e≠55→e≠174→e≠32→W'.ownsRow D e size u n xs:=fun hr h1 h2 h3=>row_keep hr (fun b hb=>by
  obtain ⟨cs,hcs⟩:=row_block hr hb
  exact tyS b cs _ hcs h1 h2 h3)
 have hH:HInv W' D wb (g1,qv') rsv (n+1) ii wv ev es ws:=by
  refine ⟨w1,h.hD,rowS h.i (by decide) (by decide) (by decide),rowS h.t (by decide) (by decide) (by decide),rowS h.e (by decide) (by decide) (by decide),h.te,fun x hx=>?_,fun x hx=>?_,h.nd,h.ef,h.wf,by have:=h.cnt;omega⟩
  ·have hx':=h.ent x hx
   exact ⟨hx'.1.keep (fun b cs _ hcs=>tyS b cs 3 hcs (by decide) (by decide) (by decide)),hx'.2.1,fun b hb=>Nat.lt_of_lt_of_le (hx'.2.2 b hb) hk.size⟩
  ·have hx':=h.wl x hx
   exact ⟨rowS hx'.1 (by decide) (by decide) (by decide),rowS hx'.2.1 (by decide) (by decide) (by decide),hx'.2.2⟩
 have qne:∀ x,x∈qs→∀ b,x.1.ownBlock=some b→W'.heap[b]?=W.heap[b]?:=fun x hx b hb=>by
  obtain ⟨cs,hcs⟩:=hA x hx b hb
  refine same b (lt_of_block hcs) (fun e=>?_) (row_ne hQ.row hcs (by decide)) (fun e=>hf b e (.inr ⟨x,hx,hb⟩))
  subst e
  rw [h.w] at hcs
  simp only [Option.some.injEq,Obj.cells.injEq] at hcs
  exact absurd hcs.2.1 (by decide)
 refine ⟨qv',qs++[(v0,len,markOfN n),(v1,len+1,markOfN n),(v2,len+2,markOfN n),(v3,len+3,markOfN n)],hH,⟨?_,?_,?_,?_⟩,⟨hk.os,hk.tape,hk.output,hk.size,fun b hb hn=>same b hb (fun e=>hn (.inl e)) (fun e=>hn (.inr (.inl e))) (fun e=>hn (.inr (.inr e)))⟩,?_,by simp,fun x hx b hb=>?_⟩
 ·have e:entsCells (qs++[(v0,len,markOfN n),(v1,len+1,markOfN n),(v2,len+2,markOfN n),(v3,len+3,markOfN n)])=entsCells qs++[v0,.int .i64 (markOfN n)]++[v1,.int .i64 (markOfN n)]++[v2,.int .i64 (markOfN n)]++[v3,.int .i64 (markOfN n)]:=by simp [entsCells]
  rw [e,List.length_append]
  exact w2
 ·intro x hx
  rcases List.mem_append.1 hx with hx | hx
  ·exact ⟨(hQ.ent x hx).1.keep (fun b hb _=>qne x hx b hb) hk.size,(hQ.ent x hx).2⟩
  ·simp only [List.mem_cons,List.not_mem_nil,or_false] at hx
   rcases hx with rfl | rfl | rfl | rfl
   ·exact ⟨m0.marked,by show len≤_;omega⟩
   ·exact ⟨m1.marked,by show len+1≤_;omega⟩
   ·exact ⟨m2.marked,by show len+2≤_;omega⟩
   ·exact ⟨m3.marked,by show len+3≤_;omega⟩
 ·rw [List.length_append];simp;omega
 ·intro b hb
  rcases hb with hb | ⟨x,hx,hb⟩
  ·obtain ⟨cs,hcs⟩:=row_block w2 hb
   exact ⟨cs,_,hcs,.inl rfl⟩
  ·rcases List.mem_append.1 hx with hx | hx
   ·obtain ⟨cs,t,hc,ht⟩:=hQ.blk b (.inr ⟨x,hx,hb⟩)
    exact ⟨cs,t,by rw [qne x hx b hb];exact hc,ht⟩
   ·simp only [List.mem_cons,List.not_mem_nil,or_false] at hx
    obtain ⟨cs,hcs⟩:=(mb x.1 (by rcases hx with rfl | rfl | rfl | rfl <;> simp) b hb).2
    exact ⟨cs,_,hcs,.inr rfl⟩
 ·intro b hb
  rcases hb with hb | ⟨x,hx,hb⟩
  ·rcases mq b hb with e | e
   ·exact .inl (.inl e)
   ·exact .inr (.inr e)
  ·rcases List.mem_append.1 hx with hx | hx
   ·exact .inl (.inr ⟨x,hx,hb⟩)
   ·simp only [List.mem_cons,List.not_mem_nil,or_false] at hx
    rcases (mb x.1 (by rcases hx with rfl | rfl | rfl | rfl <;> simp) b hb).1 with e | e
    ·exact .inr (.inl e)
    ·exact .inr (.inr e)
 ·rcases List.mem_append.1 hx with hx | hx
  ·obtain ⟨cs,hcs⟩:=hA x hx b hb
   exact ⟨cs,(qne x hx b hb).trans hcs⟩
  ·simp only [List.mem_cons,List.not_mem_nil,or_false] at hx
   exact (mb x.1 (by rcases hx with rfl | rfl | rfl | rfl <;> simp) b hb).2
theorem rulesL {len:Nat} (h:HInv W D wb (g1,qv) rsv n ii wv ev es ws) (hQ:QInv W D qv qs) (hA:∀ x,x∈qs→∀ b,x.1.ownBlock=some b→∃ cs,W.heap[b]?=some (.cells cs 32 (0,0))) (hv:W.ownsRow D 32 2 v len (ys.flatMap rrow)) (hlen:len≤9000000) (hyl:ys.length=len) (hf:∀ b,v.ownBlock=some b→¬ QOwn qv qs b) (hfew:qs.length≤999999999990) (hn:n≤1000000000000) :
  Calls Tryz.prog 109 #[.pointer (some ⟨wb,2,none⟩),v] W fun e W'=>e=.returned (.tuple #[])∧RulesPost W D wb n g1 rsv qv ii wv ev v es qs ws W':=by
 refine (markRules h.w hQ.row hv h.hD (by omega) hn hlen hyl).mono ?_
 rintro e W' ⟨rfl,hM⟩
 exact ⟨rfl,rules_end h hQ hA hv hlen hf hfew hM⟩
theorem LInv.rules (h:LInv W D wb last c l) (hR:RulesPost W D wb l.n l.gsv.1 l.rsv l.gsv.2 l.iv l.wv l.ev v l.es l.qs l.ws W') (hv:∀ b,v.ownBlock=some b→l.col b=0∧D≤b∧b<W.heap.size∧¬ l.own wb b∧∃ cs,W.heap[b]?=some (.cells cs 32 (0,0))) (hc:c≤c') (hfew:l.n+1+l.ws.length≤2*c') (hqf:l.qs.length+4≤4*c') :
  ∃ l',LInv W' D wb last c' l'∧l'.gs=l.gs∧l'.rs=l.rs∧l'.gsv.1=l.gsv.1∧Below D W W':=by
 obtain ⟨qv',qs',hH,hQ,hF,hO,hl,hA⟩:=hR
 have hlow:D≤W.heap.size:=h.lowD
 have c0:∀ b,(b=wb∨l.gsv.2.ownBlock=some b∨v.ownBlock=some b)→l.col b=0:=by
  rintro b (rfl | e | e)
  ·exact h.c0 _ (.inl LOwn.self)
  ·exact h.c0 _ (.inr (.inl (.inl e)))
  ·exact (hv b e).1
 have keep:∀ b,b<W.heap.size→l.col b≠0→W'.heap[b]?=W.heap[b]?:=fun b hb hn=>hF.block b hb (fun e=>hn (c0 b e))
 have ptr:∀ {e:TypeId} {u:Value} {n:Nat} {xs:List Value},W.ownsRow D e 1 u n xs→e≠55→e≠174→e≠32→W'.ownsRow D e 1 u n xs:=by
  intro e u n xs hu e1 e2 e3
  refine row_keep hu (fun b hb=>hF.block b (hu.lt b hb).2 ?_)
  obtain ⟨cs,hcs⟩:=row_block hu hb
  rintro (rfl | e' | e')
  ·rw [h.h.w] at hcs
   simp only [Option.some.injEq,Obj.cells.injEq] at hcs
   exact e1 hcs.2.1.symm
  ·exact row_ne h.q.row hcs e2 e'
  ·obtain ⟨cs',hcs'⟩:=(hv b e').2.2.2.2
   rw [hcs] at hcs'
   simp only [Option.some.injEq,Obj.cells.injEq] at hcs'
   exact e3 hcs'.2.1
 refine ⟨{ l with gsv:=(l.gsv.1,qv'),n:=l.n+1,qs:=qs',col:=Go.Proofs.YtcedebpoihcbdaaGreatDoor.recol W l.col 0 },⟨hH,hQ,ptr h.gr (by decide) (by decide) (by decide),ptr h.rr (by decide) (by decide) (by decide),h.len,fun k g r hg hr=>(h.tw k g r hg hr).keep (fun i hi=>?_) (fun i hi=>?_) (by omega),fun b hb=>?_,fun k g hg b hb=>?_,fun k r hr b hb=>?_,h.bare,?_,?_,?_,hA⟩,rfl,rfl,rfl,hF.below hlow ?_⟩
 ·have:=h.cg k g hg i hi
  exact keep i (h.glt hg hi) (by omega)
 ·have:=h.cr k r hr i hi
  exact keep i (h.rlt hr hi) (by omega)
 ·show Go.Proofs.YtcedebpoihcbdaaGreatDoor.recol W l.col 0 b=0
  have key:l.own wb b∨l.col b=0∧b<W.heap.size∨W.heap.size≤b:=by
   rcases hb with hb | hb | hb | hb
   ·exact .inl (.inl hb)
   ·rcases hO b hb with e | e | e
    ·exact .inl (.inr (.inl e))
    ·exact .inr (.inl ⟨(hv b e).1,(hv b e).2.2.1⟩)
    ·exact .inr (.inr e)
   ·exact .inl (.inr (.inr (.inl hb)))
   ·exact .inl (.inr (.inr (.inr hb)))
  rcases key with e | ⟨e1,e2⟩ | e
  ·rw [recol_old (h.ownlt e)];exact h.c0 b e
  ·rw [recol_old e2];exact e1
  ·exact recol_new e
 ·show Go.Proofs.YtcedebpoihcbdaaGreatDoor.recol W l.col 0 b=2*k+1
  rw [recol_old (h.glt hg hb)];exact h.cg k g hg b hb
 ·show Go.Proofs.YtcedebpoihcbdaaGreatDoor.recol W l.col 0 b=2*k+2
  rw [recol_old (h.rlt hr hb)];exact h.cr k r hr b hb
 ·show l.n+1+l.ws.length≤2*c'
  exact hfew
 ·show l.gs.length≤c'
  have:=h.gfew;omega
 ·show qs'.length≤4*c'
  omega
 ·rintro b (rfl | e | e)
  ·exact h.h.hD
  ·exact (h.q.row.lt b e).1
  ·exact (hv b e).2.1
theorem LentIn.open {ra:Option Addr} {rn rc:Nat} (h:LentIn W D ra rn rc):∃ rs:List Rule,rs.length=rn∧rn≤1048576∧(ra=none→rs=[]∧rc=0)∧∀ W',D≤W'.heap.size→Below D W W'→RulesIn W' ra rs:=by
 rcases h with ⟨rfl,rfl,rfl⟩ | ⟨x,rfl,_,_,hn,hx⟩
 ·exact ⟨[],rfl,by omega,fun _=>⟨rfl,rfl⟩,fun W' _ _=>⟨.inl rfl,fun x hx=>by simp at hx⟩⟩
 ·rcases hx with rfl | ⟨b,off,rfl,hb,hc⟩
  ·exact ⟨[],rfl,by omega,fun e=>(by cases e),fun W' _ _=>⟨.inl rfl,fun x hx=>by simp at hx⟩⟩
  ·have hex:∃ f:Nat→Rule,∀ i,i<rn→W.cell? ⟨b,off+i*2,none⟩=some (.string (f i).1)∧W.cell? ⟨b,off+i*2+1,none⟩=some (.int .i64 (f i).2)∧(f i).1.size≤1048576:=by
    refine ⟨fun i=>if hi:i<rn then (Classical.choose (hc i hi),Classical.choose (Classical.choose_spec (hc i hi))) else zeroR,fun i hi=>?_⟩
    have hs:=Classical.choose_spec (Classical.choose_spec (hc i hi))
    simp only [dif_pos hi]
    exact ⟨hs.1,hs.2.1,hs.2.2.1⟩
   obtain ⟨f,hf⟩:=hex
   refine ⟨(List.range rn).map f,by simp,hn,fun e=>(by cases e),fun W' hD hB=>⟨.inr ⟨b,off,rfl,by omega,fun k x hx=>?_⟩,fun x hx=>?_⟩⟩
   ·rw [List.getElem?_map] at hx
    obtain ⟨i,hi,rfl⟩:=Option.map_eq_some_iff.1 hx
    have hk:k<rn:=by have:=(List.getElem?_eq_some_iff.1 hi).1;simpa using this
    rw [List.getElem?_range hk] at hi
    obtain rfl:=Option.some.inj hi
    exact ⟨(hB.cell (p:=⟨b,_,none⟩) hb).trans (hf k hk).1,(hB.cell (p:=⟨b,_,none⟩) hb).trans (hf k hk).2.1⟩
   ·obtain ⟨i,hi,rfl⟩:=List.mem_map.1 hx
    have:=(hf i (by simpa using hi)).2.2
    unfold maxLen;omega
theorem rules_ahead {W2 W3 W4 W5 W6:World} {g g':Gx} {r r':Rx} {k:Nat} {zs:List Rule} (h:LInv W2 D wb last c l) (hg:l.gs[k]?=some g) (hr:l.rs[k]?=some r) (hP:Post D W2 W3 g g') (hb4:Below W3.heap.size W3 W4) (hR:RPost W4 W5 r r') (hJ:Join D last c g' r r') (hb6:Below W5.heap.size W5 W6)
  (hv:W2.ownsRow D 32 2 v zs.length (zs.flatMap rrow)) (hcol:∀ b,v.ownBlock=some b→l.col b=0∧¬ l.own wb b) (hw5:W5.ownsRow D 32 2 v zs.length (zs.flatMap rrow)) :
  ∃ l',LInv W6 D wb last (c+2) l'∧l'.gs.map gptr=l.gs.map gptr∧l'.rs.map rptr=l.rs.map rptr∧l'.gsv=l.gsv∧l'.n=l.n∧l'.ws=l.ws∧l'.qs=l.qs∧Below D W2 W6∧W6.ownsRow D 32 2 v zs.length (zs.flatMap rrow) ∧
   ∀ b,v.ownBlock=some b→l'.col b=0∧D≤b∧b<W6.heap.size∧¬ l'.own wb b∧∃ cs,W6.heap[b]?=some (.cells cs 32 (0,0)):=by
 have hP4:Post D W2 W4 g g':=hP.trans (Post.of_below hP.ok hb4)
 have hm:=h.both (c':=c+2) hg hr hP4 hR (by omega) (hJ.bare (h.bare r (List.mem_of_getElem? hr))) (fun h1 h2 h3=>hJ.twin W5 h1 h2 h3)
 have h6:=hm.1.since hb6
 have hw6:W6.ownsRow D 32 2 v zs.length (zs.flatMap rrow):=row_keep hw5 (fun b hb=>hb6.block b (hw5.lt b hb).2)
 refine ⟨_,h6,map_set_same gptr hg (by unfold gptr;rw [hP.at_]),map_set_same rptr hr (by unfold rptr;rw [hR.at_]),rfl,rfl,rfl,rfl,hm.2.trans (hb6.mono hm.1.lowD),hw6,fun b hb=>⟨?_,(hw6.lt b hb).1,(hw6.lt b hb).2,(hcol b hb).2,row_block hw6 hb⟩⟩
 have hlt:=(hv.lt b hb).2
 show Go.Proofs.YtcedebpoihcbdaaGreatDoor.recol W4 (Go.Proofs.YtcedebpoihcbdaaGreatDoor.recol W2 l.col (2*k+1)) (2*k+2) b=0
 rw [recol_old (by have:=hP4.fr.size;omega),recol_old hlt]
 exact (hcol b hb).1
end
end Go.Proofs.YtcedebpoihcbdaaGreatDoor
