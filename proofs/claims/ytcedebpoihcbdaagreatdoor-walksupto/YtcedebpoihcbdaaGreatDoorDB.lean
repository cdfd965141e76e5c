/-
  A grove and the document's beside it: what they have of attributes and lists is the same.
  The law's steps on attributes and lists.
-/
import Derived.Test.YtcedebpoihcbdaaGreatDoorG9
import Derived.Test.YtcedebpoihcbdaaGreatDoorRF
import Derived.Test.YtcedebpoihcbdaaGreatDoorRH
import Derived.Test.YtcedebpoihcbdaaGreatDoorD7
set_option linter.unusedVariables false
set_option maxHeartbeats 1000000
set_option maxRecDepth 100000
namespace Go.Proofs.YtcedebpoihcbdaaGreatDoor
open Go.RowKit Go.Shelf Gv
theorem atOf_append (a b:List Atr) (k:ByteArray):atOf (a++b) k=(atOf a k).or (atOf b k):=by
 unfold atOf
 rw [List.find?_append]
 cases a.find? (fun x=>decide (x.1=k)) <;> simp
theorem atOf_none {l:List Atr} {k:ByteArray} (h:∀ y,y∈l→y.1≠k):atOf l k=none:=by
 unfold atOf
 rw [List.find?_eq_none.2 (fun x hx=>by simpa using h x hx)];rfl
theorem atOf_one (x:Atr) (k:ByteArray):atOf [x] k=if k=x.1 then some x.2 else none:=by
 unfold atOf
 by_cases e:k=x.1
 ·subst e;simp
 ·have:¬ x.1=k:=fun h=>e h.symm
  simp [e,this]
theorem cut_att {l l':List Atr} {name:ByteArray} (h:CutL l name l') (hn:(l.map (·.1)).Nodup):(∀ k,atOf l' k=if k=name then none else atOf l k)∧(l'.map (·.1)).Nodup∧∀ y,y∈l'→y.1≠name:=by
 rcases h with ⟨us,x,vs,rfl,rfl,_,rfl⟩ | ⟨hno,_,rfl⟩
 ·simp only [List.map_append,List.map_cons,List.append_assoc,List.singleton_append] at hn
  have h1:∀ y,y∈us→y.1≠x.1:=fun y hy e=>by
   have:=(List.nodup_append.1 hn).2.2 y.1 (List.mem_map.2 ⟨y,hy,rfl⟩) x.1 (by simp)
   exact this e
  have h2:∀ y,y∈vs→y.1≠x.1:=fun y hy e=>by
   have h3:=(List.nodup_append.1 hn).2.1
   exact (List.nodup_cons.1 h3).1 (by rw [← e];exact List.mem_map.2 ⟨y,hy,rfl⟩)
  refine ⟨fun k=>?_,?_,fun y hy=>?_⟩
  ·rw [atOf_append,atOf_append,atOf_append,atOf_one]
   by_cases e:k=x.1
   ·subst e
    rw [if_pos rfl,atOf_none h1,atOf_none h2];rfl
   ·rw [if_neg e,if_neg e];simp
  ·rw [List.map_append]
   refine List.nodup_append.2 ⟨(List.nodup_append.1 hn).1,(List.nodup_cons.1 (List.nodup_append.1 hn).2.1).2,fun a ha b hb=>?_⟩
   exact (List.nodup_append.1 hn).2.2 a ha b (by simp [hb])
  ·rcases List.mem_append.1 hy with hy | hy
   ·exact h1 y hy
   ·exact h2 y hy
 ·refine ⟨fun k=>?_,hn,hno⟩
  by_cases e:k=name
  ·subst e;rw [if_pos rfl,atOf_none hno]
  ·rw [if_neg e]
theorem find_congr {p q:Nat→Bool} {l:List Nat} (h:∀ y,y∈l→p y=q y):l.find? p=l.find? q:=by
 induction l with
 | nil=>rfl
 | cons a l ih =>
  rw [List.find?_cons,List.find?_cons,h a (by simp),ih (fun y hy=>h y (by simp [hy]))]
section
variable {W W' W1 W2:World} {D c c' last:Nat} {g g':Gx} {r r':Rx}
theorem Twin.ats (h:Twin W D c g r) {y:Nat} (h1:1≤y) (hN:y≤g.N) (h2:g.kk y=2):atOf (r.ats y)=g.A y:=funext (fun k=>h.att y h1 hN h2 k)
theorem Twin.lists (h:Twin W D c g r):ListsOK r:=by
 refine ⟨fun x hx=>?_,fun y h1 hN v hv=>?_⟩
 ·rw [h.wat] at hx
  obtain ⟨z,hz,rfl⟩:=List.mem_map.1 hx
  obtain ⟨a1,a2,_⟩:=h.gok.grl.ok z hz
  rw [h.N]
  exact ⟨a1.1,a1.2,a2.1,a2.2⟩
 ·rw [h.N] at hN
  by_cases e:g.kk y=2
  ·rw [h.ats h1 hN e] at hv
   exact h.gok.grl.ats.short y _ v hv
  ·rw [h.non y h1 hN e] at hv
   cases hv
theorem haveErr_twin (h:Twin W D c g r) (n:Int) (name:ByteArray):haveErr r.N r.kn n name=haveErr g.N g.kk n name:=by
 unfold haveErr
 rw [h.N]
 cases hb:hasB (g.N+1) n with
 | false=>rfl
 | true =>
  obtain ⟨m,rfl,h1,hN⟩:=has_nat hb
  rw [Int.toNat_natCast,h.kn m h1 hN]
theorem setErr_twin (h:Twin W D c g r) (n:Int) (name value:ByteArray):setErr r.N r.kn n name value=setErr g.N g.kk n name value:=by unfold setErr;rw [haveErr_twin h]
theorem unsetErr_twin (h:Twin W D c g r) (n:Int) (name:ByteArray):unsetErr r.N r.kn (fun i=>atOf (r.ats i)) n name=unsetErr g.N g.kk g.A n name:=by
 unfold unsetErr
 rw [haveErr_twin h]
 by_cases he:haveErr g.N g.kk n name=0
 ·obtain ⟨m,rfl,h1,hN,h2,_⟩:=have_zero he
  have e1:atOf (r.ats m) name=g.A m name:=h.att m h1 hN h2 name
  simp only [Int.toNat_natCast,e1]
 ·rw [if_pos he,if_pos he]
theorem Twin.attd {m t:Nat} {v:Value} {l':List Atr} {r':Re} {f:ByteArray→Option ByteArray} (h:Twin W D c g r) (h1:1≤m) (hN:m≤g.N) (h2:g.kk m=2) (ha:∀ k,atOf l' k=f k) (hn:(l'.map (·.1)).Nodup) (hp:r'.pl≤c') (hc:r'.cl≤c') (ht:t≤c')
  (k1:GOK D W2 { g with r:=r',A:=upA g.A m f }) (k2:RefOK W2 (r.atts m v l' t)) (k3:∀ i,(r.atts m v l' t).own i→D≤i):Twin W2 D c' { g with r:=r',A:=upA g.A m f } (r.atts m v l' t):=by
 refine ⟨k1,k2,k3,h.N,h.par,h.K,h.kn,h.tag,fun i i1 i2 i3 k=>?_,fun i i1 i2=>?_,fun i i1 i2 i3=>?_,h.wat,h.its,h.wks,hp,hc,ht,h.sit,h.swk⟩
 ·show atOf (up r.ats m l' i) k=upA g.A m f i k
  unfold upA
  by_cases e:i=m
  ·subst e;rw [up_same,if_pos rfl];exact ha k
  ·rw [up_other _ _ _ e,if_neg e];exact h.att i i1 i2 i3 k
 ·show ((up r.ats m l' i).map (·.1)).Nodup
  by_cases e:i=m
  ·subst e;rw [up_same];exact hn
  ·rw [up_other _ _ _ e];exact h.nod i i1 i2
 ·show up r.ats m l' i=[]
  have i3':g.kk i≠2:=i3
  rw [up_other _ _ _ (fun e=>i3' (by rw [e];exact h2))];exact h.non i i1 i2 i3
theorem twoSet (h:Twin W D c g r) (hc:c≤900000) (n:Int) (name value:ByteArray) (hs:name.size≤1048576) (hv:value.size≤1048576) :
  Calls Tryz.prog 97 #[.pointer (some ⟨g.gb,0,none⟩),.int .i64 n,.string name,.string value] W fun e w'=>∃ (q:Int) (g':Gx),e=.returned (.int .i64 q)∧Post D W w' g g' ∧
   ThenR D last c r 98 #[.pointer (some ⟨r.rb,0,none⟩),.int .i64 n,.string name,.string value] (.int .i64 q) g':=by
 have hcl:=h.cl
 have htop:=h.top
 have hpl:=h.pl
 refine (setX h.gok n name value (by unfold maxLen;omega) hv (by omega)).mono ?_
 rintro e w' ⟨rfl,hP⟩
 refine ⟨_,_,rfl,hP,fun w3 k3=>(refSet k3 n name value (by unfold maxLen;omega) (by unfold maxLen;omega) (by omega)).mono ?_⟩
 rintro e w4 ⟨rfl,hcase⟩
 refine ⟨by rw [setErr_twin h],?_⟩
 rcases hcase with ⟨hne,rfl⟩ | ⟨he,m,v,l1,rfl,h1,hN,hcut,hR⟩
 ·rw [setErr_twin h] at hne
  rw [gset_same hne]
  exact ⟨r,RPost.refl k3,Join.same h⟩
 ·rw [h.N] at hN
  rw [setErr_twin h] at he
  have hh:haveErr g.N g.kk m name=0:=by
   unfold setErr at he
   split at he
   ·rename_i hx;exact absurd he hx
   ·rename_i hx;simpa using hx
  obtain ⟨m',hm',_,_,h2,_⟩:=have_zero hh
  obtain rfl:m=m':=by omega
  have hca:=cut_att hcut (h.nod m h1 hN)
  refine ⟨_,hR,⟨fun e=>e,fun W2 j1 j2 j3=>?_⟩⟩
  have eg:g.set m name value={ g with r:=g.r.cnt name,A:=upA g.A m (setAtt (g.A m) name value) }:=by
   unfold Gx.set setR setA
   rw [if_pos he,if_pos he,Int.toNat_natCast]
  rw [eg] at j1 ⊢
  have hcc:=g.r.cnt_cl name
  refine h.attd h1 hN h2 (fun k=>?_) ?_ ?_ ?_ (by omega) j1 j2 j3
  ·rw [atOf_append,hca.1 k,atOf_one]
   unfold setAtt
   by_cases e:k=name
   ·subst e;rw [if_pos rfl,if_pos rfl,if_pos rfl];rfl
   ·rw [if_neg e,if_neg e,if_neg e,h.att m h1 hN h2 k];simp
  ·rw [List.map_append]
   refine List.nodup_append.2 ⟨hca.2.1,by simp,fun a ha b hb=>?_⟩
   obtain ⟨y,hy,rfl⟩:=List.mem_map.1 ha
   have:b=name:=by simpa using hb
   rw [this]
   exact hca.2.2 y hy
  ·show (g.r.cnt name).pl≤_
   rw [Re.cnt_pl];omega
  ·show (g.r.cnt name).cl≤_
   omega
theorem twoUnset (h:Twin W D c g r) (hc:c≤900000) (n:Int) (name:ByteArray) (hs:name.size≤1048576) :
  Calls Tryz.prog 99 #[.pointer (some ⟨g.gb,0,none⟩),.int .i64 n,.string name] W fun e w'=>∃ (q:Int) (g':Gx),e=.returned (.int .i64 q)∧Post D W w' g g' ∧
   ThenR D last c r 100 #[.pointer (some ⟨r.rb,0,none⟩),.int .i64 n,.string name] (.int .i64 q) g':=by
 have hcl:=h.cl
 have htop:=h.top
 have hpl:=h.pl
 refine (unsetX h.gok n name (by unfold maxLen;omega) (by omega)).mono ?_
 rintro e w' ⟨rfl,hP⟩
 refine ⟨_,_,rfl,hP,fun w3 k3=>(refUnset k3 n name (by unfold maxLen;omega) (by omega)).mono ?_⟩
 rintro e w4 ⟨rfl,hcase⟩
 refine ⟨by rw [unsetErr_twin h],?_⟩
 rcases hcase with ⟨hne,hR⟩ | ⟨he,m,v,l1,rfl,h1,hN,hcut,_,hR⟩
 ·rw [unsetErr_twin h] at hne
  have eg:g.unset n name=g:=by unfold Gx.unset unsetR unsetA;rw [if_neg hne,if_neg hne]
  rw [eg]
  exact ⟨r,hR,Join.same h⟩
 ·rw [h.N] at hN
  rw [unsetErr_twin h] at he
  have hh:haveErr g.N g.kk m name=0:=by
   unfold unsetErr at he
   split at he
   ·rename_i hx;exact absurd he hx
   ·rename_i hx;simpa using hx
  obtain ⟨m',hm',_,_,h2,_⟩:=have_zero hh
  obtain rfl:m=m':=by omega
  have hca:=cut_att hcut (h.nod m h1 hN)
  refine ⟨_,hR,⟨fun e=>e,fun W2 j1 j2 j3=>?_⟩⟩
  have eg:g.unset m name={ g with r:=g.r.cnt name,A:=upA g.A m (unsetAtt (g.A m) name) }:=by
   unfold Gx.unset unsetR unsetA
   rw [if_pos he,if_pos he,Int.toNat_natCast]
  rw [eg] at j1 ⊢
  have hcc:=g.r.cnt_cl name
  refine h.attd h1 hN h2 (fun k=>?_) hca.2.1 ?_ ?_ (by omega) j1 j2 j3
  ·rw [hca.1 k]
   unfold unsetAtt
   by_cases e:k=name
   ·rw [if_pos e,if_pos e]
   ·rw [if_neg e,if_neg e,h.att m h1 hN h2 k]
  ·show (g.r.cnt name).pl≤_
   rw [Re.cnt_pl];omega
  ·show (g.r.cnt name).cl≤_
   omega
theorem idB_twin (h:Twin W D c g r) {y:Nat} (h1:1≤y) (hN:y≤g.N) (k v:ByteArray):hasV (atOf (r.ats y) k) v=(!v.toList.isEmpty && (decide (g.kk y=2) && isB (g.A y k) v)):=by
 unfold hasV
 by_cases e:g.kk y=2
 ·rw [h.ats h1 hN e];simp [e]
 ·rw [h.non y h1 hN e]
  have:atOf [] k=none:=rfl
  rw [this]
  simp [isB,e]
theorem byId_twin (h:Twin W D c g r) {m:Nat} (h1:1≤m) (hN:m≤g.N) (id:ByteArray):refIdF r g.σ.K m id=byIdF g.N g.kk g.A g.σ.K m id:=by
 unfold refIdF byIdF
 rw [h.N]
 have hp:∀ y,y∈(P g.N g.σ.K m).tail→hasV (atOf (r.ats y) strId) id=(!id.toList.isEmpty && idB g.kk g.A id y):=fun y hy=>by
  have:=tail_in h.gok.wf h1 hN hy
  exact idB_twin h this.1 this.2 strId id
 rw [find_congr hp]
 cases he:id.toList.isEmpty with
 | true =>
  rw [if_pos rfl,List.find?_eq_none.2 (fun x _=>by simp)];rfl
 | false =>
  rw [if_neg (by simp)]
  simp
theorem twoById (h:Twin W D c g r) (n:Int) (id:ByteArray) :
  Calls Tryz.prog 21 #[.pointer (some ⟨g.gb,0,none⟩),.int .i64 n,.string id] W fun e w'=>∃ (x q:Int) (g':Gx),e=.returned (.tuple #[.int .i64 x,.int .i64 q])∧Post D W w' g g' ∧
   ThenR D last c r 101 #[.pointer (some ⟨r.rb,0,none⟩),.int .i64 n,.string id] (.tuple #[.int .i64 x,.int .i64 q]) g':=by
 refine (byIdX h.gok n id).mono ?_
 rintro e w' ⟨hb,⟨hx,rfl⟩ | ⟨m,rfl,h1,hN,rfl⟩⟩
 ·refine ⟨0,5,g,rfl,Post.of_below h.gok hb,fun w3 k3=>(refById k3 h.wf h.K n id).mono ?_⟩
  rintro e w4 ⟨hb4,⟨_,rfl⟩ | ⟨m,rfl,h1,hN,_⟩⟩
  ·exact ⟨rfl,r,RPost.of_below k3 hb4,Join.same h⟩
  ·rw [h.N] at hN
   rw [hasB_nat h1 hN] at hx;cases hx
 ·refine ⟨_,0,g,rfl,Post.of_below h.gok hb,fun w3 k3=>(refById k3 h.wf h.K m id).mono ?_⟩
  rintro e w4 ⟨hb4,⟨hx,_⟩ | ⟨m',hm,_,_,rfl⟩⟩
  ·rw [h.N,hasB_nat h1 hN] at hx;cases hx
  ·obtain rfl:m=m':=by omega
   exact ⟨by rw [byId_twin h h1 hN],r,RPost.of_below k3 hb4,Join.same h⟩
theorem wl_len (h:Twin W D c g r):r.wl.length=g.ls.length:=by rw [h.wat,List.length_map]
theorem wl_at (h:Twin W D c g r) {i:Nat} {y:Wat} (hy:r.wl[i]?=some y):∃ x,g.ls[i]?=some x∧y=(x.root,x.how,x.what):=by
 rw [h.wat,List.getElem?_map] at hy
 obtain ⟨x,hx,e⟩:=Option.map_eq_some_iff.1 hy
 exact ⟨x,hx,e.symm⟩
theorem twoWatch (h:Twin W D c g r) (h10:10≤last) (root how:Int) (what:ByteArray) (hs:what.size≤1048576) :
  Calls Tryz.prog 12 #[.pointer (some ⟨g.gb,0,none⟩),.int .i64 root,.int .i64 how,.string what] W fun e w'=>∃ (x q:Int) (g':Gx),e=.returned (.tuple #[.int .i64 x,.int .i64 q])∧Post D W w' g g' ∧
   ThenR D last c r 102 #[.pointer (some ⟨r.rb,0,none⟩),.int .i64 root,.int .i64 how,.string what] (.tuple #[.int .i64 x,.int .i64 q]) g':=by
 have ee:watchErr r.N root how what r.wl.length=watchErr g.N root how what g.ls.length:=by rw [h.N,wl_len h]
 refine (watchX h.gok root how what (by unfold maxLen;omega)).mono ?_
 rintro e w' (⟨hne,rfl,hb⟩ | ⟨h0,m,k,v,rfl,rfl,h1,hN,hma,h50,rfl,hP⟩)
 ·refine ⟨0,_,g,rfl,Post.of_below h.gok hb,fun w3 k3=>(refWatch k3 root how what (by unfold maxLen;omega)).mono ?_⟩
  rintro e w4 (⟨_,rfl,rfl⟩ | ⟨hz,_⟩)
  ·exact ⟨by rw [ee],r,RPost.refl k3,Join.same h⟩
  ·rw [ee] at hz;exact absurd hz hne
 ·refine ⟨_,0,_,rfl,hP,fun w3 k3=>(refWatch k3 m k what (by unfold maxLen;omega)).mono ?_⟩
  rintro e w4 (⟨hne,_⟩ | ⟨_,m',k',v',e1,e2,rfl,hR⟩)
  ·rw [ee] at hne;exact absurd h0 hne
  ·obtain rfl:m=m':=by omega
   obtain rfl:k=k':=by omega
   refine ⟨by rw [wl_len h],_,hR,⟨fun e=>⟨fun hl=>by omega,e.2⟩,fun W2 j1 j2 j3=>?_⟩⟩
   have hp:=h.pl
   have hc:=h.cl
   have ht:=h.top
   refine ⟨j1,j2,j3,h.N,h.par,h.K,h.kn,h.tag,h.att,h.nod,h.non,?_,h.its,h.wks,by show g.r.pl≤_;omega,by show g.r.cl≤_;omega,by show r.top≤_;omega,h.sit,h.swk⟩
   show r.wl++[(m,k,what)]=(g.ls++[Ls.new m k what]).map _
   rw [List.map_append,h.wat];rfl
theorem list_twin (h:Twin W D c g r) {root how:Nat} (what:ByteArray) (h1:1≤root) (hN:root≤g.N) (hh1:1≤how) (hh4:how≤4):listR r g.σ.K root how what=lookF g.N g.kk g.tg g.A g.σ.K root how what:=by
 unfold listR lookF
 rw [h.N]
 have hin:∀ y,y∈(P g.N g.σ.K root).tail→1≤y∧y≤g.N:=fun y hy=>tail_in h.gok.wf h1 hN hy
 have hkf:=kids_filter h.gok.wf h1 hN
 by_cases w1:how=1
 ·subst w1
  rw [if_pos (by omega)]
  refine List.filter_congr (fun y hy=>?_)
  obtain ⟨y1,yN⟩:=hin y hy
  unfold wantR wantsF
  rw [if_pos rfl,if_pos rfl,h.kn y y1 yN]
  by_cases e:g.kk y=2
  ·rw [h.tag y y1 yN e]
  ·simp [e]
 ·by_cases w2:how=2
  ·subst w2
   rw [if_pos (by omega)]
   refine List.filter_congr (fun y hy=>?_)
   obtain ⟨y1,yN⟩:=hin y hy
   unfold wantR wantsF
   rw [if_neg (by omega),if_pos rfl,if_neg (by omega),if_pos rfl,h.kn y y1 yN]
   by_cases e:g.kk y=2
   ·rw [h.ats y1 yN e]
   ·simp [e]
  ·rw [if_neg (by omega),← hkf,List.filter_filter]
   refine List.filter_congr (fun y hy=>?_)
   obtain ⟨y1,yN⟩:=hin y hy
   unfold wantR wantsF
   rw [if_neg w1,if_neg w2,if_neg w1,if_neg w2,h.kn y y1 yN,h.par]
   by_cases w3:how=3
   ·rw [if_pos w3,if_pos w3]
   ·rw [if_neg w3,if_neg w3];simp
theorem list_same (h:Twin W D c g r) {i:Nat} {x:Ls} (hx:g.ls[i]?=some x):r.list g.σ.K (x.root,x.how,x.what)=g.list x:=by
 obtain ⟨a1,a2,_⟩:=h.gok.grl.ok x (List.mem_of_getElem? hx)
 exact list_twin h x.what a1.1 a1.2 a2.1 a2.2
theorem Join.looked (h:Twin W D c g r) {i:Nat} {x:Ls} {v:Value} (hx:g.ls[i]?=some x):Join D last c (g.looked i x v) r r:=by
 refine ⟨fun e=>e,fun W2 j1 j2 j3=>?_⟩
 have hp:=h.pl
 have hc:=h.cl
 have ht:=h.top
 refine ⟨j1,j2,j3,h.N,h.par,h.K,h.kn,h.tag,h.att,h.nod,h.non,?_,h.its,h.wks,by show g.r.pl≤_;omega,by show g.r.cl≤_;omega,by show r.top≤_;omega,h.sit,h.swk⟩
 show r.wl=(g.ls.set i (x.fresh v (lookF g.N g.kk g.tg g.A g.σ.K x.root x.how x.what) g.r)).map (fun x=>(x.root,x.how,x.what))
 have e:=map_set_same (x:=x.fresh v (lookF g.N g.kk g.tg g.A g.σ.K x.root x.how x.what) g.r) (fun x:Ls=>(x.root,x.how,x.what)) hx rfl
 exact h.wat.trans e.symm
theorem thing_twin (h:Twin W D c g r) {i i':Nat} {x:Ls} {y:Wat} (hx:g.ls[i]?=some x) (hy:r.wl[i']?=some y) (he:((i+1:Nat):Int)=((i'+1:Nat):Int)):y=(x.root,x.how,x.what):=by
 obtain rfl:i=i':=by omega
 obtain ⟨x',hx',rfl⟩:=wl_at h hy
 rw [hx] at hx'
 obtain rfl:=Option.some.inj hx'
 rfl
theorem twoLen (h:Twin W D c g r) (n:Int) :
  Calls Tryz.prog 18 #[.pointer (some ⟨g.gb,0,none⟩),.int .i64 n] W fun e w'=>∃ (x q:Int) (g':Gx),e=.returned (.tuple #[.int .i64 x,.int .i64 q])∧Post D W w' g g' ∧
   ThenR D last c r 65 #[.pointer (some ⟨r.rb,0,none⟩),.int .i64 n] (.tuple #[.int .i64 x,.int .i64 q]) g':=by
 refine (lenX h.gok n).mono ?_
 rintro e w' (⟨hn,rfl,rfl⟩ | ⟨i,x,v,rfl,hx,rfl,hP⟩)
 ·refine ⟨0,10,g,rfl,Post.refl h.gok,fun w3 k3=>(refLen k3 h.wf h.K h.lists n).mono ?_⟩
  rintro e w4 (⟨_,rfl,rfl⟩ | ⟨i,y,rfl,hy,_⟩)
  ·exact ⟨rfl,r,RPost.refl k3,Join.same h⟩
  ·have:=(List.getElem?_eq_some_iff.1 hy).1
   rw [wl_len h] at this
   omega
 ·refine ⟨_,0,_,rfl,hP,fun w3 k3=>(refLen k3 h.wf h.K h.lists _).mono ?_⟩
  rintro e w4 (⟨hn,_⟩ | ⟨i',y,he,hy,rfl,hb⟩)
  ·have:=(List.getElem?_eq_some_iff.1 hx).1
   rw [wl_len h] at hn
   omega
  ·obtain rfl:=thing_twin h hx hy he
   exact ⟨by rw [list_same h hx],r,RPost.of_below k3 hb,Join.looked h hx⟩
theorem twoItem (h:Twin W D c g r) (n j:Int) :
  Calls Tryz.prog 19 #[.pointer (some ⟨g.gb,0,none⟩),.int .i64 n,.int .i64 j] W fun e w'=>∃ (x q:Int) (g':Gx),e=.returned (.tuple #[.int .i64 x,.int .i64 q])∧Post D W w' g g' ∧
   ThenR D last c r 103 #[.pointer (some ⟨r.rb,0,none⟩),.int .i64 n,.int .i64 j] (.tuple #[.int .i64 x,.int .i64 q]) g':=by
 refine (itemX h.gok n j).mono ?_
 rintro e w' (⟨hn,rfl,rfl⟩ | ⟨i,x,v,rfl,hx,rfl,hP⟩)
 ·refine ⟨0,10,g,rfl,Post.refl h.gok,fun w3 k3=>(refItem k3 h.wf h.K h.lists n j).mono ?_⟩
  rintro e w4 (⟨_,rfl,rfl⟩ | ⟨i,y,rfl,hy,_⟩)
  ·exact ⟨rfl,r,RPost.refl k3,Join.same h⟩
  ·have:=(List.getElem?_eq_some_iff.1 hy).1
   rw [wl_len h] at this
   omega
 ·refine ⟨_,0,_,rfl,hP,fun w3 k3=>(refItem k3 h.wf h.K h.lists _ j).mono ?_⟩
  rintro e w4 (⟨hn,_⟩ | ⟨i',y,he,hy,rfl,hb⟩)
  ·have:=(List.getElem?_eq_some_iff.1 hx).1
   rw [wl_len h] at hn
   omega
  ·obtain rfl:=thing_twin h hx hy he
   exact ⟨by rw [list_same h hx],r,RPost.of_below k3 hb,Join.looked h hx⟩
theorem named_twin (h:Twin W D c g r) (name:ByteArray) {l:List Nat} (hl:∀ y,y∈l→1≤y∧y≤g.N):(l.find? (namR r name)).getD 0=namedF g.kk g.A name l:=by
 unfold namedF
 have hp:∀ y,y∈l→namR r name y=(!name.toList.isEmpty && namB g.kk g.A name y):=fun y hy=>by
  obtain ⟨y1,yN⟩:=hl y hy
  unfold namR namB
  rw [idB_twin h y1 yN,idB_twin h y1 yN,h.kn y y1 yN]
  cases name.toList.isEmpty <;> cases decide (g.kk y=2) <;> simp
 rw [find_congr hp]
 cases he:name.toList.isEmpty with
 | true=>rw [if_pos rfl,List.find?_eq_none.2 (fun x _=>by simp)];rfl
 | false =>
  rw [if_neg (by simp)]
  simp
theorem twoNamed (h:Twin W D c g r) (n:Int) (name:ByteArray) :
  Calls Tryz.prog 20 #[.pointer (some ⟨g.gb,0,none⟩),.int .i64 n,.string name] W fun e w'=>∃ (x q:Int) (g':Gx),e=.returned (.tuple #[.int .i64 x,.int .i64 q])∧Post D W w' g g' ∧
   ThenR D last c r 104 #[.pointer (some ⟨r.rb,0,none⟩),.int .i64 n,.string name] (.tuple #[.int .i64 x,.int .i64 q]) g':=by
 have key:∀ {i:Nat} {x:Ls} (hx:g.ls[i]?=some x) (g':Gx) (hJ:Join D last c g' r r),ThenR D last c r 104 #[.pointer (some ⟨r.rb,0,none⟩),.int .i64 ((i+1:Nat):Int),.string name] (.tuple #[.int .i64 (namedF g.kk g.A name (g.list x):Nat),.int .i64 0]) g':=fun {i x} hx g' hJ w3 k3=>by
  refine (refNamed k3 h.wf h.K h.lists _ name).mono ?_
  rintro e w4 (⟨hn,_⟩ | ⟨i',y,he,hy,rfl,hb⟩)
  ·have:=(List.getElem?_eq_some_iff.1 hx).1
   rw [wl_len h] at hn
   omega
  ·obtain rfl:=thing_twin h hx hy he
   have hla:∀ y,y∈g.list x→1≤y∧y≤g.N:=fun y hy=>by
    obtain ⟨a1,_⟩:=h.gok.grl.ok x (List.mem_of_getElem? hx)
    exact lookF_in h.gok.wf a1.1 a1.2 hy
   exact ⟨by rw [list_same h hx,named_twin h name hla],r,RPost.of_below k3 hb,hJ⟩
 refine (namedX h.gok n name).mono ?_
 rintro e w' (⟨hn,rfl,rfl⟩ | ⟨i,x,rfl,hx,rfl,hP | ⟨v,hP⟩⟩)
 ·refine ⟨0,10,g,rfl,Post.refl h.gok,fun w3 k3=>(refNamed k3 h.wf h.K h.lists n name).mono ?_⟩
  rintro e w4 (⟨_,rfl,rfl⟩ | ⟨i,y,rfl,hy,_⟩)
  ·exact ⟨rfl,r,RPost.refl k3,Join.same h⟩
  ·have:=(List.getElem?_eq_some_iff.1 hy).1
   rw [wl_len h] at this
   omega
 ·exact ⟨_,0,_,rfl,hP,key hx _ (Join.same h)⟩
 ·exact ⟨_,0,_,rfl,hP,key hx _ (Join.looked h hx)⟩
end
open Go.RowKit Go.Shelf Gv
section
variable {W W1 W2 W3:World} {D wb last c k:Nat} {l:La} {g g':Gx} {r r':Rx}
theorem looksSet (h:LInv W D wb last c l) (hk:k<l.gs.length) (hk2:l.gs.length≤1000000000000) (a b' c' g':Int) (s t:ByteArray) (ra:Option Addr) (rn rc:Nat) (y:Bool) (hc:c≤900000) (hs:s.size≤1048576) (ht:t.size≤1048576) :
  Calls Tryz.prog 60 #[.pointer (some ⟨wb,0,none⟩),.int .i64 k,.agg #[.int .i64 7,.int .i64 a,.int .i64 b',.int .i64 c',.int .i64 g',.string s,.string t,.slice ra rn rc,.bool y]] W (StepPost W D wb last c l):=by
 have HD:=h.lowD
 have hB1:Below W.heap.size W (W.alloc (.cells #[.int .i64 7,.int .i64 a,.int .i64 b',.int .i64 c',.int .i64 g',.string s,.string t,.slice ra rn rc,.bool y] 59)):=(Below.refl _ _).alloc (Nat.le_refl _) _
 have H1:Hid (LInv _ D wb last c _):=h.made hB1
 have hob:(W.alloc (.cells #[.int .i64 7,.int .i64 a,.int .i64 b',.int .i64 c',.int .i64 g',.string s,.string t,.slice ra rn rc,.bool y] 59)).heap[W.heap.size]?=some (.cells #[.int .i64 7,.int .i64 a,.int .i64 b',.int .i64 c',.int .i64 g',.string s,.string t,.slice ra rn rc,.bool y] 59 (0,0)):=heap_alloc_new W _
 obtain ⟨g,r,gg,gc,rg,rc',hg,hr,c0,c1,cg,cr⟩:=H1.out.open hk
 have o0:=cells_of hob 0
 have o1:=cells_of hob 1
 have o5:=cells_of hob 5
 have o6:=cells_of hob 6
 have hsz:(W.alloc (.cells #[.int .i64 7,.int .i64 a,.int .i64 b',.int .i64 c',.int .i64 g',.string s,.string t,.slice ra rn rc,.bool y] 59)).heap.size=W.heap.size+1:=by simp
 have HOB:Hid _:=hob
 have HB1:Hid _:=hB1
 have HG:Hid (l.gs[k]?=some g):=hg
 have HR:Hid (l.rs[k]?=some r):=hr
 have HT0:Hid (Twin W D c g r):=h.tw k g r hg hr
 have hkl:(k:Int)<(l.gs.length:Int):=by omega
 clear hob hB1 hg hr h
 go_enter Tryz.func60, Tryz.ntmps60
 go_wp2_with fail
 refine (twoSet (last:=last) (H1.out.tw k g r HG.out HR.out) hc a s t hs ht).mono ?_
 rintro e w2 ⟨q,g2,rfl,hP,hthen⟩
 have hob2:w2.heap[W.heap.size]?=_:=(hP.fr.block W.heap.size (by omega) (fun e=>by have:=(HT0.out.gok.bounds e).2;omega)).trans HOB.out
 have p1:=cells_of hob2 1
 have p5:=cells_of hob2 5
 have p6:=cells_of hob2 6
 have HP:Hid _:=hP
 have HTH:Hid _:=hthen
 clear hob2 hP hthen
 go_wp2_with fail
 refine (HTH.out w2 (H1.out.refStays HG.out HR.out HP.out)).mono ?_
 rintro e w3 ⟨rfl,r2,hR2,hJ⟩
 have hqq:(q == q)=true:=by simp
 have HEND:Hid (StepLaw W D wb last c l w3):=step_end (l0:=l) (W0:=W) H1.out HG.out HR.out HP.out hR2 hJ ⟨rfl,rfl,rfl⟩ HB1.out HD
 clear hR2 hJ
 go_wp2_with fail
 refine (numL q w3).mono ?_
 rintro e w4 ⟨rfl,rfl⟩
 go_wp2_with fail
 go_ret
 exact ⟨rfl,HEND.out⟩
theorem looksUnset (h:LInv W D wb last c l) (hk:k<l.gs.length) (hk2:l.gs.length≤1000000000000) (a b' c' g':Int) (s t:ByteArray) (ra:Option Addr) (rn rc:Nat) (y:Bool) (hc:c≤900000) (hs:s.size≤1048576) :
  Calls Tryz.prog 60 #[.pointer (some ⟨wb,0,none⟩),.int .i64 k,.agg #[.int .i64 8,.int .i64 a,.int .i64 b',.int .i64 c',.int .i64 g',.string s,.string t,.slice ra rn rc,.bool y]] W (StepPost W D wb last c l):=by
 have HD:=h.lowD
 have hB1:Below W.heap.size W (W.alloc (.cells #[.int .i64 8,.int .i64 a,.int .i64 b',.int .i64 c',.int .i64 g',.string s,.string t,.slice ra rn rc,.bool y] 59)):=(Below.refl _ _).alloc (Nat.le_refl _) _
 have H1:Hid (LInv _ D wb last c _):=h.made hB1
 have hob:(W.alloc (.cells #[.int .i64 8,.int .i64 a,.int .i64 b',.int .i64 c',.int .i64 g',.string s,.string t,.slice ra rn rc,.bool y] 59)).heap[W.heap.size]?=some (.cells #[.int .i64 8,.int .i64 a,.int .i64 b',.int .i64 c',.int .i64 g',.string s,.string t,.slice ra rn rc,.bool y] 59 (0,0)):=heap_alloc_new W _
 obtain ⟨g,r,gg,gc,rg,rc',hg,hr,c0,c1,cg,cr⟩:=H1.out.open hk
 have o0:=cells_of hob 0
 have o1:=cells_of hob 1
 have o5:=cells_of hob 5
 have hsz:(W.alloc (.cells #[.int .i64 8,.int .i64 a,.int .i64 b',.int .i64 c',.int .i64 g',.string s,.string t,.slice ra rn rc,.bool y] 59)).heap.size=W.heap.size+1:=by simp
 have HOB:Hid _:=hob
 have HB1:Hid _:=hB1
 have HG:Hid (l.gs[k]?=some g):=hg
 have HR:Hid (l.rs[k]?=some r):=hr
 have HT0:Hid (Twin W D c g r):=h.tw k g r hg hr
 have hkl:(k:Int)<(l.gs.length:Int):=by omega
 clear hob hB1 hg hr h
 go_enter Tryz.func60, Tryz.ntmps60
 go_wp2_with fail
 refine (twoUnset (last:=last) (H1.out.tw k g r HG.out HR.out) hc a s hs).mono ?_
 rintro e w2 ⟨q,g2,rfl,hP,hthen⟩
 have hob2:w2.heap[W.heap.size]?=_:=(hP.fr.block W.heap.size (by omega) (fun e=>by have:=(HT0.out.gok.bounds e).2;omega)).trans HOB.out
 have p1:=cells_of hob2 1
 have p5:=cells_of hob2 5
 have HP:Hid _:=hP
 have HTH:Hid _:=hthen
 clear hob2 hP hthen
 go_wp2_with fail
 refine (HTH.out w2 (H1.out.refStays HG.out HR.out HP.out)).mono ?_
 rintro e w3 ⟨rfl,r2,hR2,hJ⟩
 have hqq:(q == q)=true:=by simp
 have HEND:Hid (StepLaw W D wb last c l w3):=step_end (l0:=l) (W0:=W) H1.out HG.out HR.out HP.out hR2 hJ ⟨rfl,rfl,rfl⟩ HB1.out HD
 clear hR2 hJ
 go_wp2_with fail
 refine (numL q w3).mono ?_
 rintro e w4 ⟨rfl,rfl⟩
 go_wp2_with fail
 go_ret
 exact ⟨rfl,HEND.out⟩
theorem looksById (h:LInv W D wb last c l) (hk:k<l.gs.length) (hk2:l.gs.length≤1000000000000) (a b' c' g':Int) (s t:ByteArray) (ra:Option Addr) (rn rc:Nat) (y:Bool) :
  Calls Tryz.prog 60 #[.pointer (some ⟨wb,0,none⟩),.int .i64 k,.agg #[.int .i64 9,.int .i64 a,.int .i64 b',.int .i64 c',.int .i64 g',.string s,.string t,.slice ra rn rc,.bool y]] W (StepPost W D wb last c l):=by
 have HD:=h.lowD
 have hB1:Below W.heap.size W (W.alloc (.cells #[.int .i64 9,.int .i64 a,.int .i64 b',.int .i64 c',.int .i64 g',.string s,.string t,.slice ra rn rc,.bool y] 59)):=(Below.refl _ _).alloc (Nat.le_refl _) _
 have H1:Hid (LInv _ D wb last c _):=h.made hB1
 have hob:(W.alloc (.cells #[.int .i64 9,.int .i64 a,.int .i64 b',.int .i64 c',.int .i64 g',.string s,.string t,.slice ra rn rc,.bool y] 59)).heap[W.heap.size]?=some (.cells #[.int .i64 9,.int .i64 a,.int .i64 b',.int .i64 c',.int .i64 g',.string s,.string t,.slice ra rn rc,.bool y] 59 (0,0)):=heap_alloc_new W _
 obtain ⟨g,r,gg,gc,rg,rc',hg,hr,c0,c1,cg,cr⟩:=H1.out.open hk
 have o0:=cells_of hob 0
 have o1:=cells_of hob 1
 have o5:=cells_of hob 5
 have hsz:(W.alloc (.cells #[.int .i64 9,.int .i64 a,.int .i64 b',.int .i64 c',.int .i64 g',.string s,.string t,.slice ra rn rc,.bool y] 59)).heap.size=W.heap.size+1:=by simp
 have HOB:Hid _:=hob
 have HB1:Hid _:=hB1
 have HG:Hid (l.gs[k]?=some g):=hg
 have HR:Hid (l.rs[k]?=some r):=hr
 have HT0:Hid (Twin W D c g r):=h.tw k g r hg hr
 have hkl:(k:Int)<(l.gs.length:Int):=by omega
 clear hob hB1 hg hr h
 go_enter Tryz.func60, Tryz.ntmps60
 go_wp2_with fail
 refine (twoById (last:=last) (H1.out.tw k g r HG.out HR.out) a s).mono ?_
 rintro e w2 ⟨x,q,g2,rfl,hP,hthen⟩
 have hob2:w2.heap[W.heap.size]?=_:=(hP.fr.block W.heap.size (by omega) (fun e=>by have:=(HT0.out.gok.bounds e).2;omega)).trans HOB.out
 have p1:=cells_of hob2 1
 have p5:=cells_of hob2 5
 have HP:Hid _:=hP
 have HTH:Hid _:=hthen
 clear hob2 hP hthen
 go_wp2_with fail
 refine (HTH.out w2 (H1.out.refStays HG.out HR.out HP.out)).mono ?_
 rintro e w3 ⟨rfl,r2,hR2,hJ⟩
 have hxx:(x == x)=true:=by simp
 have hqq:(q == q)=true:=by simp
 have HEND:Hid (StepLaw W D wb last c l w3):=step_end (l0:=l) (W0:=W) H1.out HG.out HR.out HP.out hR2 hJ ⟨rfl,rfl,rfl⟩ HB1.out HD
 clear hR2 hJ
 go_wp2_with fail
 refine (numL q w3).mono ?_
 rintro e w4 ⟨rfl,rfl⟩
 go_wp2_with fail
 go_ret
 exact ⟨rfl,HEND.out⟩
theorem looksWatch (h:LInv W D wb last c l) (hk:k<l.gs.length) (hk2:l.gs.length≤1000000000000) (a b' c' g':Int) (s t:ByteArray) (ra:Option Addr) (rn rc:Nat) (y:Bool) (h10:10≤last) (hs:s.size≤1048576) :
  Calls Tryz.prog 60 #[.pointer (some ⟨wb,0,none⟩),.int .i64 k,.agg #[.int .i64 10,.int .i64 a,.int .i64 b',.int .i64 c',.int .i64 g',.string s,.string t,.slice ra rn rc,.bool y]] W (StepPost W D wb last c l):=by
 have HD:=h.lowD
 have hB1:Below W.heap.size W (W.alloc (.cells #[.int .i64 10,.int .i64 a,.int .i64 b',.int .i64 c',.int .i64 g',.string s,.string t,.slice ra rn rc,.bool y] 59)):=(Below.refl _ _).alloc (Nat.le_refl _) _
 have H1:Hid (LInv _ D wb last c _):=h.made hB1
 have hob:(W.alloc (.cells #[.int .i64 10,.int .i64 a,.int .i64 b',.int .i64 c',.int .i64 g',.string s,.string t,.slice ra rn rc,.bool y] 59)).heap[W.heap.size]?=some (.cells #[.int .i64 10,.int .i64 a,.int .i64 b',.int .i64 c',.int .i64 g',.string s,.string t,.slice ra rn rc,.bool y] 59 (0,0)):=heap_alloc_new W _
 obtain ⟨g,r,gg,gc,rg,rc',hg,hr,c0,c1,cg,cr⟩:=H1.out.open hk
 have o0:=cells_of hob 0
 have o1:=cells_of hob 1
 have o2:=cells_of hob 2
 have o5:=cells_of hob 5
 have hsz:(W.alloc (.cells #[.int .i64 10,.int .i64 a,.int .i64 b',.int .i64 c',.int .i64 g',.string s,.string t,.slice ra rn rc,.bool y] 59)).heap.size=W.heap.size+1:=by simp
 have HOB:Hid _:=hob
 have HB1:Hid _:=hB1
 have HG:Hid (l.gs[k]?=some g):=hg
 have HR:Hid (l.rs[k]?=some r):=hr
 have HT0:Hid (Twin W D c g r):=h.tw k g r hg hr
 have hkl:(k:Int)<(l.gs.length:Int):=by omega
 clear hob hB1 hg hr h
 go_enter Tryz.func60, Tryz.ntmps60
 go_wp2_with fail
 refine (twoWatch (last:=last) (H1.out.tw k g r HG.out HR.out) h10 a b' s hs).mono ?_
 rintro e w2 ⟨x,q,g2,rfl,hP,hthen⟩
 have hob2:w2.heap[W.heap.size]?=_:=(hP.fr.block W.heap.size (by omega) (fun e=>by have:=(HT0.out.gok.bounds e).2;omega)).trans HOB.out
 have p1:=cells_of hob2 1
 have p2:=cells_of hob2 2
 have p5:=cells_of hob2 5
 have HP:Hid _:=hP
 have HTH:Hid _:=hthen
 clear hob2 hP hthen
 go_wp2_with fail
 refine (HTH.out w2 (H1.out.refStays HG.out HR.out HP.out)).mono ?_
 rintro e w3 ⟨rfl,r2,hR2,hJ⟩
 have hxx:(x == x)=true:=by simp
 have hqq:(q == q)=true:=by simp
 have HEND:Hid (StepLaw W D wb last c l w3):=step_end (l0:=l) (W0:=W) H1.out HG.out HR.out HP.out hR2 hJ ⟨rfl,rfl,rfl⟩ HB1.out HD
 clear hR2 hJ
 go_wp2_with fail
 refine (numL q w3).mono ?_
 rintro e w4 ⟨rfl,rfl⟩
 go_wp2_with fail
 go_ret
 exact ⟨rfl,HEND.out⟩
theorem looksLen (h:LInv W D wb last c l) (hk:k<l.gs.length) (hk2:l.gs.length≤1000000000000) (a b' c' g':Int) (s t:ByteArray) (ra:Option Addr) (rn rc:Nat) (y:Bool) :
  Calls Tryz.prog 60 #[.pointer (some ⟨wb,0,none⟩),.int .i64 k,.agg #[.int .i64 11,.int .i64 a,.int .i64 b',.int .i64 c',.int .i64 g',.string s,.string t,.slice ra rn rc,.bool y]] W (StepPost W D wb last c l):=by
 have HD:=h.lowD
 have hB1:Below W.heap.size W (W.alloc (.cells #[.int .i64 11,.int .i64 a,.int .i64 b',.int .i64 c',.int .i64 g',.string s,.string t,.slice ra rn rc,.bool y] 59)):=(Below.refl _ _).alloc (Nat.le_refl _) _
 have H1:Hid (LInv _ D wb last c _):=h.made hB1
 have hob:(W.alloc (.cells #[.int .i64 11,.int .i64 a,.int .i64 b',.int .i64 c',.int .i64 g',.string s,.string t,.slice ra rn rc,.bool y] 59)).heap[W.heap.size]?=some (.cells #[.int .i64 11,.int .i64 a,.int .i64 b',.int .i64 c',.int .i64 g',.string s,.string t,.slice ra rn rc,.bool y] 59 (0,0)):=heap_alloc_new W _
 obtain ⟨g,r,gg,gc,rg,rc',hg,hr,c0,c1,cg,cr⟩:=H1.out.open hk
 have o0:=cells_of hob 0
 have o1:=cells_of hob 1
 have hsz:(W.alloc (.cells #[.int .i64 11,.int .i64 a,.int .i64 b',.int .i64 c',.int .i64 g',.string s,.string t,.slice ra rn rc,.bool y] 59)).heap.size=W.heap.size+1:=by simp
 have HOB:Hid _:=hob
 have HB1:Hid _:=hB1
 have HG:Hid (l.gs[k]?=some g):=hg
 have HR:Hid (l.rs[k]?=some r):=hr
 have HT0:Hid (Twin W D c g r):=h.tw k g r hg hr
 have hkl:(k:Int)<(l.gs.length:Int):=by omega
 clear hob hB1 hg hr h
 go_enter Tryz.func60, Tryz.ntmps60
 go_wp2_with fail
 refine (twoLen (last:=last) (H1.out.tw k g r HG.out HR.out) a).mono ?_
 rintro e w2 ⟨x,q,g2,rfl,hP,hthen⟩
 have hob2:w2.heap[W.heap.size]?=_:=(hP.fr.block W.heap.size (by omega) (fun e=>by have:=(HT0.out.gok.bounds e).2;omega)).trans HOB.out
 have p1:=cells_of hob2 1
 have HP:Hid _:=hP
 have HTH:Hid _:=hthen
 clear hob2 hP hthen
 go_wp2_with fail
 refine (HTH.out w2 (H1.out.refStays HG.out HR.out HP.out)).mono ?_
 rintro e w3 ⟨rfl,r2,hR2,hJ⟩
 have hxx:(x == x)=true:=by simp
 have hqq:(q == q)=true:=by simp
 have HEND:Hid (StepLaw W D wb last c l w3):=step_end (l0:=l) (W0:=W) H1.out HG.out HR.out HP.out hR2 hJ ⟨rfl,rfl,rfl⟩ HB1.out HD
 clear hR2 hJ
 go_wp2_with fail
 refine (numL q w3).mono ?_
 rintro e w4 ⟨rfl,rfl⟩
 go_wp2_with fail
 go_ret
 exact ⟨rfl,HEND.out⟩
theorem looksItem (h:LInv W D wb last c l) (hk:k<l.gs.length) (hk2:l.gs.length≤1000000000000) (a b' c' g':Int) (s t:ByteArray) (ra:Option Addr) (rn rc:Nat) (y:Bool) :
  Calls Tryz.prog 60 #[.pointer (some ⟨wb,0,none⟩),.int .i64 k,.agg #[.int .i64 12,.int .i64 a,.int .i64 b',.int .i64 c',.int .i64 g',.string s,.string t,.slice ra rn rc,.bool y]] W (StepPost W D wb last c l):=by
 have HD:=h.lowD
 have hB1:Below W.heap.size W (W.alloc (.cells #[.int .i64 12,.int .i64 a,.int .i64 b',.int .i64 c',.int .i64 g',.string s,.string t,.slice ra rn rc,.bool y] 59)):=(Below.refl _ _).alloc (Nat.le_refl _) _
 have H1:Hid (LInv _ D wb last c _):=h.made hB1
 have hob:(W.alloc (.cells #[.int .i64 12,.int .i64 a,.int .i64 b',.int .i64 c',.int .i64 g',.string s,.string t,.slice ra rn rc,.bool y] 59)).heap[W.heap.size]?=some (.cells #[.int .i64 12,.int .i64 a,.int .i64 b',.int .i64 c',.int .i64 g',.string s,.string t,.slice ra rn rc,.bool y] 59 (0,0)):=heap_alloc_new W _
 obtain ⟨g,r,gg,gc,rg,rc',hg,hr,c0,c1,cg,cr⟩:=H1.out.open hk
 have o0:=cells_of hob 0
 have o1:=cells_of hob 1
 have o2:=cells_of hob 2
 have hsz:(W.alloc (.cells #[.int .i64 12,.int .i64 a,.int .i64 b',.int .i64 c',.int .i64 g',.string s,.string t,.slice ra rn rc,.bool y] 59)).heap.size=W.heap.size+1:=by simp
 have HOB:Hid _:=hob
 have HB1:Hid _:=hB1
 have HG:Hid (l.gs[k]?=some g):=hg
 have HR:Hid (l.rs[k]?=some r):=hr
 have HT0:Hid (Twin W D c g r):=h.tw k g r hg hr
 have hkl:(k:Int)<(l.gs.length:Int):=by omega
 clear hob hB1 hg hr h
 go_enter Tryz.func60, Tryz.ntmps60
 go_wp2_with fail
 refine (twoItem (last:=last) (H1.out.tw k g r HG.out HR.out) a b').mono ?_
 rintro e w2 ⟨x,q,g2,rfl,hP,hthen⟩
 have hob2:w2.heap[W.heap.size]?=_:=(hP.fr.block W.heap.size (by omega) (fun e=>by have:=(HT0.out.gok.bounds e).2;omega)).trans HOB.out
 have p1:=cells_of hob2 1
 have p2:=cells_of hob2 2
 have HP:Hid _:=hP
 have HTH:Hid _:=hthen
 clear hob2 hP hthen
 go_wp2_with fail
 refine (HTH.out w2 (H1.out.refStays HG.out HR.out HP.out)).mono ?_
 rintro e w3 ⟨rfl,r2,hR2,hJ⟩
 have hxx:(x == x)=true:=by simp
 have hqq:(q == q)=true:=by simp
 have HEND:Hid (StepLaw W D wb last c l w3):=step_end (l0:=l) (W0:=W) H1.out HG.out HR.out HP.out hR2 hJ ⟨rfl,rfl,rfl⟩ HB1.out HD
 clear hR2 hJ
 go_wp2_with fail
 refine (numL q w3).mono ?_
 rintro e w4 ⟨rfl,rfl⟩
 go_wp2_with fail
 go_ret
 exact ⟨rfl,HEND.out⟩
theorem looksNamed (h:LInv W D wb last c l) (hk:k<l.gs.length) (hk2:l.gs.length≤1000000000000) (a b' c' g':Int) (s t:ByteArray) (ra:Option Addr) (rn rc:Nat) (y:Bool) :
  Calls Tryz.prog 60 #[.pointer (some ⟨wb,0,none⟩),.int .i64 k,.agg #[.int .i64 13,.int .i64 a,.int .i64 b',.int .i64 c',.int .i64 g',.string s,.string t,.slice ra rn rc,.bool y]] W (StepPost W D wb last c l):=by
 have HD:=h.lowD
 have hB1:Below W.heap.size W (W.alloc (.cells #[.int .i64 13,.int .i64 a,.int .i64 b',.int .i64 c',.int .i64 g',.string s,.string t,.slice ra rn rc,.bool y] 59)):=(Below.refl _ _).alloc (Nat.le_refl _) _
 have H1:Hid (LInv _ D wb last c _):=h.made hB1
 have hob:(W.alloc (.cells #[.int .i64 13,.int .i64 a,.int .i64 b',.int .i64 c',.int .i64 g',.string s,.string t,.slice ra rn rc,.bool y] 59)).heap[W.heap.size]?=some (.cells #[.int .i64 13,.int .i64 a,.int .i64 b',.int .i64 c',.int .i64 g',.string s,.string t,.slice ra rn rc,.bool y] 59 (0,0)):=heap_alloc_new W _
 obtain ⟨g,r,gg,gc,rg,rc',hg,hr,c0,c1,cg,cr⟩:=H1.out.open hk
 have o0:=cells_of hob 0
 have o1:=cells_of hob 1
 have o5:=cells_of hob 5
 have hsz:(W.alloc (.cells #[.int .i64 13,.int .i64 a,.int .i64 b',.int .i64 c',.int .i64 g',.string s,.string t,.slice ra rn rc,.bool y] 59)).heap.size=W.heap.size+1:=by simp
 have HOB:Hid _:=hob
 have HB1:Hid _:=hB1
 have HG:Hid (l.gs[k]?=some g):=hg
 have HR:Hid (l.rs[k]?=some r):=hr
 have HT0:Hid (Twin W D c g r):=h.tw k g r hg hr
 have hkl:(k:Int)<(l.gs.length:Int):=by omega
 clear hob hB1 hg hr h
 go_enter Tryz.func60, Tryz.ntmps60
 go_wp2_with fail
 refine (twoNamed (last:=last) (H1.out.tw k g r HG.out HR.out) a s).mono ?_
 rintro e w2 ⟨x,q,g2,rfl,hP,hthen⟩
 have hob2:w2.heap[W.heap.size]?=_:=(hP.fr.block W.heap.size (by omega) (fun e=>by have:=(HT0.out.gok.bounds e).2;omega)).trans HOB.out
 have p1:=cells_of hob2 1
 have p5:=cells_of hob2 5
 have HP:Hid _:=hP
 have HTH:Hid _:=hthen
 clear hob2 hP hthen
 go_wp2_with fail
 refine (HTH.out w2 (H1.out.refStays HG.out HR.out HP.out)).mono ?_
 rintro e w3 ⟨rfl,r2,hR2,hJ⟩
 have hxx:(x == x)=true:=by simp
 have hqq:(q == q)=true:=by simp
 have HEND:Hid (StepLaw W D wb last c l w3):=step_end (l0:=l) (W0:=W) H1.out HG.out HR.out HP.out hR2 hJ ⟨rfl,rfl,rfl⟩ HB1.out HD
 clear hR2 hJ
 go_wp2_with fail
 refine (numL q w3).mono ?_
 rintro e w4 ⟨rfl,rfl⟩
 go_wp2_with fail
 go_ret
 exact ⟨rfl,HEND.out⟩
theorem looksStep (h:LInv W D wb last c l) (hk:k<l.gs.length) (hc:c≤40000000000) (h13:13≤last) (kind a b' c' g':Int) (s t:ByteArray) (ra:Option Addr) (rn rc:Nat) (y:Bool) (hs:s.size≤1048576) (ht:t.size≤1048576) (h7:7≤kind) (h13':kind≤13) (h78:kind=7∨kind=8→c≤900000) :
  Calls Tryz.prog 60 #[.pointer (some ⟨wb,0,none⟩),.int .i64 k,.agg #[.int .i64 kind,.int .i64 a,.int .i64 b',.int .i64 c',.int .i64 g',.string s,.string t,.slice ra rn rc,.bool y]] W (StepPost W D wb last c l):=by
 have hk2:l.gs.length≤1000000000000:=by have:=h.gfew;omega
 by_cases e7:kind=7
 ·subst e7;exact looksSet h hk hk2 a b' c' g' s t ra rn rc y (h78 (.inl rfl)) hs ht
 by_cases e8:kind=8
 ·subst e8;exact looksUnset h hk hk2 a b' c' g' s t ra rn rc y (h78 (.inr rfl)) hs
 by_cases e9:kind=9
 ·subst e9;exact looksById h hk hk2 a b' c' g' s t ra rn rc y
 by_cases e10:kind=10
 ·subst e10;exact looksWatch h hk hk2 a b' c' g' s t ra rn rc y (by omega) hs
 by_cases e11:kind=11
 ·subst e11;exact looksLen h hk hk2 a b' c' g' s t ra rn rc y
 by_cases e12:kind=12
 ·subst e12;exact looksItem h hk hk2 a b' c' g' s t ra rn rc y
 obtain rfl:kind=13:=by omega
 exact looksNamed h hk hk2 a b' c' g' s t ra rn rc y
theorem stepLooks (h:LInv W D wb last c l) (hk:k<l.gs.length) (hc:c≤40000000000) (h13:13≤last) (kind a b' c' g':Int) (s t:ByteArray) (ra:Option Addr) (rn rc:Nat) (y:Bool) (ho:OpOK W D s t ra rn rc) (h7:7≤kind) (h13':kind≤13) (h78:kind=7∨kind=8→c≤900000) :
  Calls Tryz.prog 27 #[.pointer (some ⟨wb,0,none⟩),.int .i64 k,.agg #[.int .i64 kind,.int .i64 a,.int .i64 b',.int .i64 c',.int .i64 g',.string s,.string t,.slice ra rn rc,.bool y]] W (StepPost W D wb last c l):=by
 have HD:=h.lowD
 have hB1:Below W.heap.size W (W.alloc (.cells #[.int .i64 kind,.int .i64 a,.int .i64 b',.int .i64 c',.int .i64 g',.string s,.string t,.slice ra rn rc,.bool y] 59)):=(Below.refl _ _).alloc (Nat.le_refl _) _
 have H1:Hid (LInv (W.alloc (.cells #[.int .i64 kind,.int .i64 a,.int .i64 b',.int .i64 c',.int .i64 g',.string s,.string t,.slice ra rn rc,.bool y] 59)) D wb last c l):=h.since hB1
 have HB1:Hid (Below W.heap.size W (W.alloc (.cells #[.int .i64 kind,.int .i64 a,.int .i64 b',.int .i64 c',.int .i64 g',.string s,.string t,.slice ra rn rc,.bool y] 59))):=hB1
 have HS:Hid (s.size≤1048576∧t.size≤1048576):=⟨ho.hs,ho.ht⟩
 have H78:Hid (kind=7∨kind=8→c≤900000):=h78
 have h6:¬ kind≤6:=by omega
 clear hB1 h ho h78
 go_enter Tryz.func27, Tryz.ntmps27
 go_wp2_with fail
 refine (looksStep H1.out hk hc h13 kind a b' c' g' s t ra rn rc y HS.out.1 HS.out.2 h7 h13' H78.out).mono ?_
 rintro e w2 ⟨rfl,l2,k1,k2,k3,k5,k4⟩
 have HEND:Hid (StepLaw W D wb last c l w2):=⟨l2,k1,k2,k3,k5,(HB1.out.mono HD).trans k4⟩
 clear k1 k2 k3 k4 k5
 go_wp2_with fail
 go_ret
 exact ⟨rfl,HEND.out⟩
theorem step13:StepOK 13:=fun _ _ _ _ _ _ kind a b' c' g' s t ra rn rc y h hk hc ho hl h78=>by
 by_cases h6:kind≤6
 ·exact stepTree h hk hc kind a b' c' g' s t ra rn rc y ho h6
 ·exact stepLooks h hk hc (Nat.le_refl _) kind a b' c' g' s t ra rn rc y ho (by omega) (by omega) h78
theorem lenOK (last:Nat):LenOK last:=fun _ W D wb c k l r i h hr=>by
 obtain ⟨g,hg⟩:=h.gget hr
 have hT:=h.tw k g r hg hr
 refine (refLen hT.rok hT.wf hT.K hT.lists i).mono ?_
 rintro e W' (⟨_,rfl,rfl⟩ | ⟨j,x,_,hx,rfl,hb⟩)
 ·exact ⟨Below.refl _ _,0,10,rfl,by omega⟩
 ·have hxo:=hT.lists.wat x (List.mem_of_getElem? hx)
  have:=listR_len (how:=x.2.1) (what:=x.2.2) hT.wf hxo.1 hxo.2.1
  have h3:=hT.rok.hN
  exact ⟨hb,_,0,rfl,by show (listR r g.σ.K x.1 x.2.1 x.2.2).length≤300;omega⟩
end
end Go.Proofs.YtcedebpoihcbdaaGreatDoor
