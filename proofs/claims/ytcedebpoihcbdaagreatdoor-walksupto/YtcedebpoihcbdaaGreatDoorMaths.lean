/-
  Plain mathematics, no Go: forests whose kids stand in doubly linked chains; what 'join', 'remove' and 'insert' do to them; the list of all that is within a node.
  Plain mathematics, no Go: a forest stays one when a node is taken out of where it stands, and when a node that stands nowhere is put under one that is not within it.
  Plain mathematics, no Go: what a whole Put does to the lists of kids; the list of all that is within a node, at most so many.
  Plain mathematics, no Go: the order of a tree: the list of all that is within a node, its neighbours in that order, and what is left of it when a node is taken out.
  Plain mathematics, no Go: neighbours in the order of a tree by their places in its list; where an iterator goes when a node is taken out under it.
  Plain mathematics, no Go: the kids behind a Put, as a function.
  Plain mathematics, no Go: what an iterator comes by, on or back.
  Plain mathematics, no Go: how much of a tree lies before a walker, on either way; what its moves find, as relations.
  Plain mathematics, no Go: what stands nowhere has no neighbours, whatever is put and taken; a node more; the kids among all that is under a node; where an iterator goes, by places in the tree's order.
-/
namespace Go.Proofs.YtcedebpoihcbdaaGreatDoor.Gv
structure Fo where
 par:Nat→Nat
 ahd:Nat→Nat
 bhd:Nat→Nat
 fst:Nat→Nat
 lst:Nat→Nat
def up {α:Type} (f:Nat→α) (i:Nat) (v:α):Nat→α:=fun x=>if x=i then v else f x
theorem up_same {α:Type} (f:Nat→α) (i:Nat) (v:α):up f i v i=v:=by simp [up]
theorem up_other {α:Type} (f:Nat→α) (i:Nat) (v:α) {x:Nat} (h:x≠i):up f i v x=f x:=by simp [up,h]
def Fo.join (s:Fo) (p a b:Nat):Fo :=
 { par:=s.par,ahd:=if b=0 then s.ahd else up s.ahd b a,bhd:=if a=0 then s.bhd else up s.bhd a b,fst:=if a=0 then up s.fst p b else s.fst,lst:=if b=0 then up s.lst p a else s.lst }
def Fo.lift (t:Fo) (n f l:Nat):Fo :=
 { par:=up t.par n 0,ahd:=up t.ahd n 0,bhd:=up t.bhd n 0,fst:=up t.fst n f,lst:=up t.lst n l }
def Fo.remove (s:Fo) (n:Nat):Fo:=(s.join (s.par n) (s.ahd n) (s.bhd n)).lift n (s.fst n) (s.lst n)
def Fo.setPar (s:Fo) (c p:Nat):Fo:={ s with par:=up s.par c p }
def Fo.insert (s:Fo) (p c b:Nat):Fo:=((s.setPar c p).join p (if b=0 then s.lst p else s.ahd b) c).join p c b
def anc (f:Nat→Nat):Nat→Nat→Nat
 | 0,x=>x
 | m+1,x=>anc f m (f x)
theorem anc_add (f:Nat→Nat) (m k x:Nat):anc f (m+k) x=anc f k (anc f m x):=by
 induction m generalizing x with
 | zero=>simp [anc]
 | succ m ih=>rw [Nat.succ_add];simp [anc,ih]
theorem anc_zero {f:Nat→Nat} (h0:f 0=0) (m:Nat):anc f m 0=0:=by
 induction m with
 | zero=>rfl
 | succ m ih=>simp [anc,h0,ih]
theorem anc_succ' (f:Nat→Nat) (m x:Nat):anc f (m+1) x=f (anc f m x):=by
 rw [anc_add];rfl
def Desc (f:Nat→Nat) (x t:Nat):Prop:=∃ m,anc f m x=t
theorem Desc.refl (f:Nat→Nat) (x:Nat):Desc f x x:=⟨0,rfl⟩
theorem Desc.step {f:Nat→Nat} {x t:Nat} (h:Desc f x t):Desc f x (f t):=by
 obtain ⟨m,rfl⟩:=h
 exact ⟨m+1,anc_succ' f m x⟩
theorem Desc.head {f:Nat→Nat} {x t:Nat} (h:Desc f (f x) t):Desc f x t:=by
 obtain ⟨m,rfl⟩:=h
 exact ⟨m+1,rfl⟩
theorem Desc.trans {f:Nat→Nat} {x y z:Nat} (h:Desc f x y) (k:Desc f y z):Desc f x z:=by
 obtain ⟨m,rfl⟩:=h
 obtain ⟨n,rfl⟩:=k
 exact ⟨m+n,anc_add f m n x⟩
theorem php (N:Nat):∀ (f:Nat→Nat),(∀ i,i≤N→1≤f i∧f i≤N)→∃ i j,i<j∧j≤N∧f i=f j:=by
 induction N with
 | zero=>intro f h;have:=h 0 (Nat.le_refl _);omega
 | succ N ih =>
  intro f h
  by_cases he:∃ i,i≤N∧f i=f (N+1)
  ·obtain ⟨i,hi,e⟩:=he
   exact ⟨i,N+1,by omega,Nat.le_refl _,e⟩
  ·have hl:=h (N+1) (Nat.le_refl _)
   have hne:∀ i,i≤N→f i≠f (N+1):=fun i hi e=>he ⟨i,hi,e⟩
   obtain ⟨i,j,hij,hj,e⟩:=ih (fun i=>if f (N+1)<f i then f i-1 else f i) (by
    intro i hi
    have h1:=h i (by omega)
    have h2:=hne i hi
    split <;> omega)
   refine ⟨i,j,hij,by omega,?_⟩
   have h1:=hne i (by omega)
   have h2:=hne j (by omega)
   have h3:=h i (by omega)
   have h4:=h j (by omega)
   split at e <;> split at e <;> omega
theorem nodup_len {N:Nat} {l:List Nat} (hn:l.Nodup) (hb:∀ x,x∈l→1≤x∧x≤N):l.length≤N:=by
 apply Nat.le_of_not_lt
 intro hlt
 obtain ⟨i,j,hij,hj,e⟩:=php N (fun i=>l.getD i 0) (fun i hi=>by
  rw [List.getD_eq_getElem?_getD,List.getElem?_eq_getElem (by omega)]
  exact hb _ (List.getElem_mem _))
 have e':l.getD i 0=l.getD j 0:=e
 rw [List.getD_eq_getElem?_getD,List.getElem?_eq_getElem (by omega),List.getD_eq_getElem?_getD,List.getElem?_eq_getElem (by omega)] at e'
 exact List.pairwise_iff_getElem.1 hn i j (by omega) (by omega) hij (by simpa using e')
theorem anc_bound {f:Nat→Nat} {N x:Nat} (h0:f 0=0) (hx:x≤N) (hf:∀ k,k≤N→f k≤N) (hm:∃ m,anc f m x=0):anc f N x=0:=by
 have hin:∀ m,anc f m x≤N:=by
  intro m
  induction m with
  | zero=>exact hx
  | succ m ih=>rw [anc_succ'];exact hf _ ih
 obtain ⟨m,hm⟩:=hm
 by_cases hz:anc f N x=0
 ·exact hz
 ·exfalso
  have hnz:∀ i,i≤N→anc f i x≠0:=by
   intro i hi e
   apply hz
   have:N=i+(N-i):=by omega
   rw [this,anc_add,e,anc_zero h0]
  obtain ⟨i,j,hij,hj,e⟩:=php N (fun i=>anc f i x) (fun i hi=>⟨Nat.pos_of_ne_zero (hnz i hi),hin i⟩)
  have e':anc f i x=anc f j x:=e
  -- it goes round for ever
  have hper:∀ q,anc f (i+q*(j-i)) x=anc f i x:=by
   intro q
   induction q with
   | zero=>simp
   | succ q ih =>
    have h1:i+(q+1)*(j-i)=(i+q*(j-i))+(j-i):=by rw [Nat.add_mul];omega
    rw [h1,anc_add,ih,← anc_add]
    have h2:i+(j-i)=j:=by omega
    rw [h2];exact e'.symm
  have hge:m≤i+m*(j-i):=by
   have:m*1≤m*(j-i):=Nat.mul_le_mul_left _ (by omega)
   omega
  have h3:=hper m
  have h4:i+m*(j-i)=m+(i+m*(j-i)-m):=by omega
  rw [h4,anc_add,hm,anc_zero h0] at h3
  exact hnz i (by omega) h3.symm
theorem no_loop {f:Nat→Nat} {x:Nat} (h0:f 0=0) (hx:x≠0) (hm:∃ m,anc f m x=0) (j:Nat):anc f (j+1) x≠x:=by
 intro e
 obtain ⟨m,hm⟩:=hm
 have hper:∀ q,anc f (q*(j+1)) x=x:=by
  intro q
  induction q with
  | zero=>simp [anc]
  | succ q ih=>rw [Nat.add_mul,Nat.one_mul,anc_add,ih,e]
 have hge:m≤m*(j+1):=by
  have:m*1≤m*(j+1):=Nat.mul_le_mul_left _ (by omega)
  omega
 have h3:=hper m
 have h4:m*(j+1)=m+(m*(j+1)-m):=by omega
 rw [h4,anc_add,hm,anc_zero h0] at h3
 exact hx h3.symm
def Seg (a b:Nat→Nat):Nat→List Nat→Nat→Prop
 | _,[],_=>True
 | q,k :: ks,nx=>a k=q∧b k=ks.headD nx∧Seg a b k ks nx
theorem seg_append {a b:Nat→Nat} (xs ys:List Nat) (q nx:Nat):Seg a b q (xs++ys) nx↔Seg a b q xs (ys.headD nx)∧Seg a b (xs.getLastD q) ys nx:=by
 induction xs generalizing q with
 | nil=>simp [Seg]
 | cons k ks ih =>
  have e:(ks++ys).headD nx=ks.headD (ys.headD nx):=by cases ks <;> simp
  simp only [List.cons_append,Seg,ih,e,List.getLastD_cons]
  constructor
  ·rintro ⟨h1,h2,h3,h4⟩;exact ⟨⟨h1,h2,h3⟩,h4⟩
  ·rintro ⟨⟨h1,h2,h3⟩,h4⟩;exact ⟨h1,h2,h3,h4⟩
theorem seg_congr {a b a' b':Nat→Nat} {q nx:Nat} {l:List Nat} (ha:∀ k,k∈l→a' k=a k) (hb:∀ k,k∈l→b' k=b k) (h:Seg a b q l nx):Seg a' b' q l nx:=by
 induction l generalizing q with
 | nil=>trivial
 | cons k ks ih =>
  obtain ⟨h1,h2,h3⟩:=h
  exact ⟨by rw [ha k (by simp)];exact h1,by rw [hb k (by simp)];exact h2,ih (fun x hx=>ha x (by simp [hx])) (fun x hx=>hb x (by simp [hx])) h3⟩
theorem last_mem {xs:List Nat} (h:xs≠[]) (d:Nat):xs.getLastD d∈xs:=by
 rw [List.getLastD_eq_getLast?,List.getLast?_eq_some_getLast h]
 exact List.getLast_mem h
theorem head_mem {ys:List Nat} (h:ys≠[]) (d:Nat):ys.headD d∈ys:=by
 cases ys with
 | nil=>exact absurd rfl h
 | cons y yt=>simp
theorem seg_next {a b b':Nat→Nat} {q nx nx':Nat} {xs:List Nat} (hnd:xs.Nodup) (hlast:xs≠[]→b' (xs.getLastD 0)=nx') (hb:∀ k,k∈xs→k≠xs.getLastD 0→b' k=b k) (h:Seg a b q xs nx):Seg a b' q xs nx':=by
 induction xs generalizing q with
 | nil=>trivial
 | cons k ks ih =>
  obtain ⟨h1,h2,h3⟩:=h
  cases ks with
  | nil=>exact ⟨h1,by simpa using hlast (by simp),trivial⟩
  | cons k2 kt =>
   have e:(k :: k2 :: kt).getLastD 0=(k2 :: kt).getLastD 0:=by simp
   have hk:k ∉ k2 :: kt:=(List.nodup_cons.1 hnd).1
   have hmem:(k2 :: kt).getLastD 0∈k2 :: kt:=last_mem (by simp) 0
   have hne:k≠(k2 :: kt).getLastD 0:=fun e=>hk (by rw [e];exact hmem)
   refine ⟨h1,?_,ih (List.nodup_cons.1 hnd).2 (fun _=>by rw [← e];exact hlast (by simp)) (fun x hx hn=>hb x (by simp [hx]) (by rw [e];exact hn)) h3⟩
   rw [hb k (by simp) (by rw [e];exact hne)]
   simpa using h2
theorem seg_prev {a b a':Nat→Nat} {q q' nx:Nat} {ys:List Nat} (hnd:ys.Nodup) (hhead:ys≠[]→a' (ys.headD 0)=q') (ha:∀ k,k∈ys→k≠ys.headD 0→a' k=a k) (h:Seg a b q ys nx):Seg a' b q' ys nx:=by
 cases ys with
 | nil=>trivial
 | cons k ks =>
  obtain ⟨h1,h2,h3⟩:=h
  refine ⟨by simpa using hhead (by simp),h2,seg_congr (fun x hx=>ha x (by simp [hx]) (fun e=>?_)) (fun _ _=>rfl) h3⟩
  have:k ∉ ks:=(List.nodup_cons.1 hnd).1
  simp at e
  exact this (e ▸ hx)
def sumTo:Nat→(Nat→Nat)→Nat
 | 0,_=>0
 | n+1,f=>sumTo n f+f (n+1)
theorem sumTo_congr {n:Nat} {f g:Nat→Nat} (h:∀ i,1≤i→i≤n→f i=g i):sumTo n f=sumTo n g:=by
 induction n with
 | zero=>rfl
 | succ n ih=>simp only [sumTo];rw [ih (fun i h1 h2=>h i h1 (by omega)),h (n+1) (by omega) (Nat.le_refl _)]
theorem sumTo_up {n:Nat} {f g:Nat→Nat} {p:Nat} (h1:1≤p) (h2:p≤n) (h:∀ i,i≠p→g i=f i):sumTo n g+f p=sumTo n f+g p:=by
 induction n with
 | zero=>omega
 | succ n ih =>
  simp only [sumTo]
  by_cases e:p=n+1
  ·subst e
   rw [sumTo_congr (n:=n) (f:=g) (g:=f) (fun i _ hi=>h i (by omega))]
   omega
  ·have:=ih (by omega)
   rw [h (n+1) (by omega)]
   omega
structure WF (N:Nat) (s:Fo) (K:Nat→List Nat):Prop where
 z:s.par 0=0
 kid:∀ p k,k∈K p→1≤p∧p≤N∧1≤k∧k≤N∧s.par k=p
 own:∀ k,1≤k→k≤N→s.par k≠0→k∈K (s.par k)
 nd:∀ p,(K p).Nodup
 fst:∀ p,1≤p→p≤N→s.fst p=(K p).headD 0
 lst:∀ p,1≤p→p≤N→s.lst p=(K p).getLastD 0
 seg:∀ p,Seg s.ahd s.bhd 0 (K p) 0
 acy:∀ k,k≤N→∃ m,anc s.par m k=0
 cnt:sumTo N (fun p=>(K p).length)=sumTo N (fun k=>if s.par k=0 then 0 else 1)
theorem WF.parLe {N:Nat} {s:Fo} {K:Nat→List Nat} (h:WF N s K) (k:Nat) (hk:k≤N):s.par k≤N:=by
 by_cases h0:s.par k=0
 ·omega
 ·have hk1:1≤k:=Nat.pos_of_ne_zero (fun e=>h0 (by rw [e];exact h.z))
  exact (h.kid _ _ (h.own k hk1 hk h0)).2.1
theorem WF.few {N:Nat} {s:Fo} {K:Nat→List Nat} (h:WF N s K) (p:Nat):(K p).length≤N :=
 nodup_len (h.nd p) (fun x hx=>by have:=h.kid p x hx;omega)
theorem WF.top {N:Nat} {s:Fo} {K:Nat→List Nat} (h:WF N s K) (k:Nat) (hk:k≤N):anc s.par N k=0 :=
 anc_bound h.z hk h.parLe (h.acy k hk)
theorem WF.sides {N:Nat} {s:Fo} {K:Nat→List Nat} (h:WF N s K) {p c:Nat} {xs ys:List Nat} (hK:K p=xs++c :: ys):s.ahd c=xs.getLastD 0∧s.bhd c=ys.headD 0:=by
 have hs:=h.seg p
 rw [hK,seg_append] at hs
 exact ⟨hs.2.1,hs.2.2.1⟩
theorem nz_of_kid {N:Nat} {s:Fo} {K:Nat→List Nat} (h:WF N s K) {p k:Nat} (hk:k∈K p):k≠0:=by have:=h.kid p k hk;omega
theorem getLastD_zero {xs:List Nat} (hnz:∀ k,k∈xs→k≠0):xs.getLastD 0=0↔xs=[]:=by
 constructor
 ·intro e
  by_cases hx:xs=[]
  ·exact hx
  ·exact absurd e (hnz _ (last_mem hx 0))
 ·rintro rfl;rfl
theorem headD_zero {xs:List Nat} (hnz:∀ k,k∈xs→k≠0):xs.headD 0=0↔xs=[]:=by
 constructor
 ·intro e
  by_cases hx:xs=[]
  ·exact hx
  ·exact absurd e (hnz _ (head_mem hx 0))
 ·rintro rfl;rfl
end Go.Proofs.YtcedebpoihcbdaaGreatDoor.Gv
namespace Go.Proofs.YtcedebpoihcbdaaGreatDoor.Gv
theorem desc_up {f:Nat→Nat} {c v x:Nat} (h:Desc (up f c v) x c):Desc f x c:=by
 obtain ⟨m,hm⟩:=h
 induction m generalizing x with
 | zero=>exact ⟨0,hm⟩
 | succ m ih =>
  by_cases e:x=c
  ·exact e ▸ Desc.refl f x
  ·simp only [anc,up_other f c v e] at hm
   exact (ih hm).head
theorem acy_up {f:Nat→Nat} {c v:Nat} (hv:∃ m,anc (up f c v) m v=0) {k:Nat} (h:∃ m,anc f m k=0):∃ m,anc (up f c v) m k=0:=by
 obtain ⟨m,hm⟩:=h
 induction m generalizing k with
 | zero=>exact ⟨0,hm⟩
 | succ m ih =>
  by_cases e:k=c
  ·obtain ⟨n,hn⟩:=hv
   exact ⟨n+1,by simp only [anc];rw [e,up_same];exact hn⟩
  ·obtain ⟨n,hn⟩:=ih hm
   exact ⟨n+1,by simp only [anc];rw [up_other f c v e];exact hn⟩
theorem anc_up_same {f:Nat→Nat} {c v x:Nat} (h:¬ Desc f x c) (m:Nat):anc (up f c v) m x=anc f m x:=by
 induction m generalizing x with
 | zero=>rfl
 | succ m ih =>
  have e:x≠c:=fun e=>h (e ▸ Desc.refl f x)
  simp only [anc,up_other f c v e]
  exact ih (fun hd=>h hd.head)
section
variable {N:Nat} {s:Fo} {K:Nat→List Nat}
theorem WF.par_ne (h:WF N s K) {c:Nat} (hc:c≠0) (hcN:c≤N):s.par c≠c:=by
 have:=no_loop h.z hc (h.acy c hcN) 0
 simpa [anc] using this
theorem remove_wf (h:WF N s K) {c p:Nat} {xs ys:List Nat} (hc1:1≤c) (hcN:c≤N) (hp:s.par c=p) (hp0:p≠0) (hK:K p=xs++c :: ys) :
  WF N (s.remove c) (up K p (xs++ys)):=by
 obtain ⟨ha,hb⟩:=h.sides hK
 have hcp:p≠c:=by rw [← hp];exact h.par_ne (by omega) hcN
 have hpN:1≤p∧p≤N:=⟨Nat.pos_of_ne_zero hp0,by rw [← hp];exact h.parLe c hcN⟩
 have hnd:=h.nd p
 rw [hK] at hnd
 have hndx:xs.Nodup:=(List.nodup_append.1 hnd).1
 have hndcy:(c :: ys).Nodup:=(List.nodup_append.1 hnd).2.1
 have hndy:ys.Nodup:=(List.nodup_cons.1 hndcy).2
 have hcy:c ∉ ys:=(List.nodup_cons.1 hndcy).1
 have hdis:∀ a,a∈xs→∀ b,b∈c :: ys→a≠b:=(List.nodup_append.1 hnd).2.2
 have hcx:c ∉ xs:=fun e=>hdis c e c (by simp) rfl
 have hnzx:∀ k,k∈xs→k≠0:=fun k hk=>nz_of_kid h (p:=p) (by rw [hK];simp [hk])
 have hnzy:∀ k,k∈ys→k≠0:=fun k hk=>nz_of_kid h (p:=p) (by rw [hK];simp [hk])
 have hpx:∀ k,k∈xs→s.par k=p:=fun k hk=>(h.kid p k (by rw [hK];simp [hk])).2.2.2.2
 have hpy:∀ k,k∈ys→s.par k=p:=fun k hk=>(h.kid p k (by rw [hK];simp [hk])).2.2.2.2
 have eP:(s.remove c).par=up s.par c 0:=rfl
 have eA:(s.remove c).ahd=up (if ys.headD 0=0 then s.ahd else up s.ahd (ys.headD 0) (xs.getLastD 0)) c 0:=by
  simp only [Fo.remove,Fo.lift,Fo.join,ha,hb]
 have eB:(s.remove c).bhd=up (if xs.getLastD 0=0 then s.bhd else up s.bhd (xs.getLastD 0) (ys.headD 0)) c 0:=by
  simp only [Fo.remove,Fo.lift,Fo.join,ha,hb]
 have eF:(s.remove c).fst=up (if xs.getLastD 0=0 then up s.fst p (ys.headD 0) else s.fst) c (s.fst c):=by
  simp only [Fo.remove,Fo.lift,Fo.join,ha,hb,hp]
 have eL:(s.remove c).lst=up (if ys.headD 0=0 then up s.lst p (xs.getLastD 0) else s.lst) c (s.lst c):=by
  simp only [Fo.remove,Fo.lift,Fo.join,ha,hb,hp]
 have hseg:=h.seg p
 rw [hK,seg_append] at hseg
 obtain ⟨sx,sc1,sc2,sy⟩:=hseg
 -- values of the new chains
 have a_same:∀ k,k≠c→(ys≠[]→k≠ys.headD 0)→(s.remove c).ahd k=s.ahd k:=by
  intro k h1 h2
  rw [eA,up_other _ _ _ h1]
  by_cases hy:ys=[]
  ·simp [hy]
  ·rw [if_neg (fun e=>hy ((headD_zero hnzy).1 e)),up_other _ _ _ (h2 hy)]
 have b_same:∀ k,k≠c→(xs≠[]→k≠xs.getLastD 0)→(s.remove c).bhd k=s.bhd k:=by
  intro k h1 h2
  rw [eB,up_other _ _ _ h1]
  by_cases hx:xs=[]
  ·simp [hx]
  ·rw [if_neg (fun e=>hx ((getLastD_zero hnzx).1 e)),up_other _ _ _ (h2 hx)]
 refine ⟨?_,?_,?_,?_,?_,?_,?_,?_,?_⟩
 ·rw [eP,up_other _ _ _ (by omega)];exact h.z
 ·intro q k hk
  by_cases hq:q=p
  ·subst hq
   rw [up_same] at hk
   have hkc:k≠c:=by
    rintro rfl
    rcases List.mem_append.1 hk with h1 | h1
    ·exact hcx h1
    ·exact hcy h1
   have hk':k∈K q:=by rw [hK];rcases List.mem_append.1 hk with h1 | h1 <;> simp [h1]
   rw [eP,up_other _ _ _ hkc]
   exact h.kid q k hk'
  ·rw [up_other _ _ _ hq] at hk
   have hkk:=h.kid q k hk
   have hkc:k≠c:=by rintro rfl;exact hq (by rw [← hkk.2.2.2.2,hp])
   rw [eP,up_other _ _ _ hkc]
   exact hkk
 ·intro k hk1 hkN hk0
  rw [eP] at hk0 ⊢
  have hkc:k≠c:=by rintro rfl;exact hk0 (up_same _ _ _)
  rw [up_other _ _ _ hkc] at hk0 ⊢
  have:=h.own k hk1 hkN hk0
  by_cases hq:s.par k=p
  ·rw [hq,up_same]
   rw [hq,hK] at this
   rcases List.mem_append.1 this with h1 | h1
   ·exact List.mem_append.2 (Or.inl h1)
   ·rcases List.mem_cons.1 h1 with h2 | h2
    ·exact absurd h2 hkc
    ·exact List.mem_append.2 (Or.inr h2)
  ·rw [up_other _ _ _ hq];exact this
 ·intro q
  by_cases hq:q=p
  ·subst hq
   rw [up_same]
   exact List.nodup_append.2 ⟨hndx,hndy,fun a ha b hb=>hdis a ha b (by simp [hb])⟩
  ·rw [up_other _ _ _ hq];exact h.nd q
 ·intro q hq1 hqN
  rw [eF]
  by_cases hq:q=p
  ·subst hq
   rw [up_same,up_other _ _ _ hcp]
   by_cases hx:xs=[]
   ·subst hx;simp [up_same]
   ·rw [if_neg (fun e=>hx ((getLastD_zero hnzx).1 e)),h.fst q hq1 hqN,hK]
    cases xs with
    | nil=>exact absurd rfl hx
    | cons x xt=>simp
  ·rw [up_other _ _ _ hq,← h.fst q hq1 hqN]
   by_cases hqc:q=c
   ·subst hqc;rw [up_same]
   ·rw [up_other _ _ _ hqc]
    split
    ·rw [up_other _ _ _ hq]
    ·rfl
 ·intro q hq1 hqN
  rw [eL]
  by_cases hq:q=p
  ·subst hq
   rw [up_same,up_other _ _ _ hcp]
   by_cases hy:ys=[]
   ·subst hy;simp [up_same]
   ·rw [if_neg (fun e=>hy ((headD_zero hnzy).1 e)),h.lst q hq1 hqN,hK]
    rw [List.getLastD_eq_getLast?,List.getLastD_eq_getLast?,List.getLast?_append,List.getLast?_append]
    cases ys with
    | nil=>exact absurd rfl hy
    | cons y yt=>simp [List.getLast?_cons_cons]
  ·rw [up_other _ _ _ hq,← h.lst q hq1 hqN]
   by_cases hqc:q=c
   ·subst hqc;rw [up_same]
   ·rw [up_other _ _ _ hqc]
    split
    ·rw [up_other _ _ _ hq]
    ·rfl
 ·intro q
  by_cases hq:q=p
  ·subst hq
   rw [up_same,seg_append]
   have hxy:∀ k,k∈xs→ys≠[]→k≠ys.headD 0:=fun k hk hy=>hdis k hk _ (List.mem_cons_of_mem _ (head_mem hy 0))
   have hyx:∀ k,k∈ys→xs≠[]→k≠xs.getLastD 0:=fun k hk hx e=>hdis _ (last_mem hx 0) k (List.mem_cons_of_mem _ hk) e.symm
   have nx:∀ k,k∈xs→k≠c:=fun k hk e=>hcx (e ▸ hk)
   have ny:∀ k,k∈ys→k≠c:=fun k hk e=>hcy (e ▸ hk)
   constructor
   ·refine seg_next (b:=s.bhd) (nx:=c) hndx ?_ ?_ (seg_congr (a:=s.ahd) (b:=s.bhd) (fun k hk=>a_same k (nx k hk) (hxy k hk)) (fun _ _=>rfl) sx)
    ·intro hx
     rw [eB,up_other _ _ _ (nx _ (last_mem hx 0)),if_neg (fun e=>hx ((getLastD_zero hnzx).1 e)),up_same]
    ·intro k hk hkl
     exact b_same k (nx k hk) (fun _=>hkl)
   ·refine seg_prev (a:=s.ahd) (q:=c) hndy ?_ ?_ (seg_congr (a:=s.ahd) (b:=s.bhd) (fun _ _=>rfl) (fun k hk=>b_same k (ny k hk) (hyx k hk)) sy)
    ·intro hy
     rw [eA,up_other _ _ _ (ny _ (head_mem hy 0)),if_neg (fun e=>hy ((headD_zero hnzy).1 e)),up_same]
    ·intro k hk hkl
     exact a_same k (ny k hk) (fun _=>hkl)
  ·rw [up_other _ _ _ hq]
   have hk':∀ k,k∈K q→s.par k≠p:=fun k hk e=>hq ((h.kid q k hk).2.2.2.2.symm.trans e)
   refine seg_congr (fun k hk=>a_same k (fun e=>hk' k hk (by rw [e];exact hp)) (fun hy e=>hk' k hk (by rw [e];exact hpy _ (head_mem hy 0)))) (fun k hk=>b_same k (fun e=>hk' k hk (by rw [e];exact hp)) (fun hx e=>hk' k hk (by rw [e];exact hpx _ (last_mem hx 0)))) (h.seg q)
 ·intro k hk
  rw [eP]
  exact acy_up ⟨0,rfl⟩ (h.acy k hk)
 ·have h1:=sumTo_up (n:=N) (f:=fun q=>(K q).length) (g:=fun q=>(up K p (xs++ys) q).length) hpN.1 hpN.2 (fun i hi=>by simp [up_other _ _ _ hi])
  have h2:=sumTo_up (n:=N) (f:=fun k=>if s.par k=0 then 0 else 1) (g:=fun k=>if (s.remove c).par k=0 then 0 else 1) hc1 hcN (fun i hi=>by simp [eP,up_other _ _ _ hi])
  have h3:=h.cnt
  simp only [up_same,hK,eP,List.length_append,List.length_cons] at h1 h2
  rw [if_neg (by rw [hp];exact hp0),if_pos trivial] at h2
  rw [eP]
  omega
theorem insert_wf (h:WF N s K) {c p:Nat} {xs ys:List Nat} (hc1:1≤c) (hcN:c≤N) (hc:s.par c=0) (hp1:1≤p) (hpN:p≤N) (hK:K p=xs++ys) (hd:¬ Desc s.par p c) :
  WF N (s.insert p c (ys.headD 0)) (up K p (xs++c :: ys)):=by
 have hout:∀ q,c ∉ K q:=fun q hq=>by have:=h.kid q c hq;omega
 have hcp:p≠c:=fun e=>hd (e ▸ Desc.refl s.par p)
 have hnd:=h.nd p
 rw [hK] at hnd
 have hndx:xs.Nodup:=(List.nodup_append.1 hnd).1
 have hndy:ys.Nodup:=(List.nodup_append.1 hnd).2.1
 have hdis:∀ a,a∈xs→∀ b,b∈ys→a≠b:=(List.nodup_append.1 hnd).2.2
 have hcx:c ∉ xs:=fun e=>hout p (by rw [hK];simp [e])
 have hcy:c ∉ ys:=fun e=>hout p (by rw [hK];simp [e])
 have hnzx:∀ k,k∈xs→k≠0:=fun k hk=>nz_of_kid h (p:=p) (by rw [hK];simp [hk])
 have hnzy:∀ k,k∈ys→k≠0:=fun k hk=>nz_of_kid h (p:=p) (by rw [hK];simp [hk])
 have hpx:∀ k,k∈xs→s.par k=p:=fun k hk=>(h.kid p k (by rw [hK];simp [hk])).2.2.2.2
 have hpy:∀ k,k∈ys→s.par k=p:=fun k hk=>(h.kid p k (by rw [hK];simp [hk])).2.2.2.2
 have ha:(if ys.headD 0=0 then s.lst p else s.ahd (ys.headD 0))=xs.getLastD 0:=by
  by_cases hy:ys=[]
  ·subst hy
   simp only [List.append_nil] at hK
   simp [h.lst p hp1 hpN,hK]
  ·rw [if_neg (fun e=>hy ((headD_zero hnzy).1 e))]
   cases ys with
   | nil=>exact absurd rfl hy
   | cons y yt=>simpa using (h.sides hK).1
 have hc0:c≠0:=by omega
 have eP:(s.insert p c (ys.headD 0)).par=up s.par c p:=rfl
 have eA:(s.insert p c (ys.headD 0)).ahd=if ys.headD 0=0 then up s.ahd c (xs.getLastD 0) else up (up s.ahd c (xs.getLastD 0)) (ys.headD 0) c:=by
  simp only [Fo.insert,Fo.join,ha,Fo.setPar,if_neg hc0]
 have eB:(s.insert p c (ys.headD 0)).bhd=up (if xs.getLastD 0=0 then s.bhd else up s.bhd (xs.getLastD 0) c) c (ys.headD 0):=by
  simp only [Fo.insert,Fo.join,ha,Fo.setPar,if_neg hc0]
 have eF:(s.insert p c (ys.headD 0)).fst=if xs.getLastD 0=0 then up s.fst p c else s.fst:=by
  simp only [Fo.insert,Fo.join,ha,Fo.setPar,if_neg hc0]
 have eL:(s.insert p c (ys.headD 0)).lst=if ys.headD 0=0 then up s.lst p c else s.lst:=by
  simp only [Fo.insert,Fo.join,ha,Fo.setPar,if_neg hc0]
 have hseg:=h.seg p
 rw [hK,seg_append] at hseg
 obtain ⟨sx,sy⟩:=hseg
 generalize s.insert p c (ys.headD 0)=t at *
 have a_same:∀ k,k≠c→(ys≠[]→k≠ys.headD 0)→t.ahd k=s.ahd k:=by
  intro k h1 h2
  rw [eA]
  by_cases hy:ys=[]
  ·simp [hy,up_other _ _ _ h1]
  ·rw [if_neg (fun e=>hy ((headD_zero hnzy).1 e)),up_other _ _ _ (h2 hy),up_other _ _ _ h1]
 have b_same:∀ k,k≠c→(xs≠[]→k≠xs.getLastD 0)→t.bhd k=s.bhd k:=by
  intro k h1 h2
  rw [eB,up_other _ _ _ h1]
  by_cases hx:xs=[]
  ·simp [hx]
  ·rw [if_neg (fun e=>hx ((getLastD_zero hnzx).1 e)),up_other _ _ _ (h2 hx)]
 refine ⟨?_,?_,?_,?_,?_,?_,?_,?_,?_⟩
 ·rw [eP,up_other _ _ _ (by omega)];exact h.z
 ·intro q k hk
  by_cases hq:q=p
  ·subst hq
   rw [up_same] at hk
   by_cases hkc:k=c
   ·subst hkc
    rw [eP,up_same]
    exact ⟨hp1,hpN,hc1,hcN,rfl⟩
   ·have hk':k∈K q:=by
     rw [hK]
     rcases List.mem_append.1 hk with h1 | h1
     ·simp [h1]
     ·rcases List.mem_cons.1 h1 with h2 | h2
      ·exact absurd h2 hkc
      ·simp [h2]
    rw [eP,up_other _ _ _ hkc]
    exact h.kid q k hk'
  ·rw [up_other _ _ _ hq] at hk
   have hkc:k≠c:=by rintro rfl;exact hout q hk
   rw [eP,up_other _ _ _ hkc]
   exact h.kid q k hk
 ·intro k hk1 hkN hk0
  rw [eP] at hk0 ⊢
  by_cases hkc:k=c
  ·subst hkc
   rw [up_same,up_same]
   simp
  ·rw [up_other _ _ _ hkc] at hk0 ⊢
   have:=h.own k hk1 hkN hk0
   by_cases hq:s.par k=p
   ·rw [hq,up_same]
    rw [hq,hK] at this
    rcases List.mem_append.1 this with h1 | h1 <;> simp [h1]
   ·rw [up_other _ _ _ hq];exact this
 ·intro q
  by_cases hq:q=p
  ·subst hq
   rw [up_same]
   refine List.nodup_append.2 ⟨hndx,List.nodup_cons.2 ⟨hcy,hndy⟩,fun a ha b hb=>?_⟩
   rcases List.mem_cons.1 hb with h2 | h2
   ·rintro rfl;exact hcx (h2 ▸ ha)
   ·exact hdis a ha b h2
  ·rw [up_other _ _ _ hq];exact h.nd q
 ·intro q hq1 hqN
  rw [eF]
  by_cases hq:q=p
  ·subst hq
   rw [up_same]
   by_cases hx:xs=[]
   ·subst hx;simp [up_same]
   ·rw [if_neg (fun e=>hx ((getLastD_zero hnzx).1 e)),h.fst q hq1 hqN,hK]
    cases xs with
    | nil=>exact absurd rfl hx
    | cons x xt=>simp
  ·rw [up_other _ _ _ hq,← h.fst q hq1 hqN]
   split
   ·rw [up_other _ _ _ hq]
   ·rfl
 ·intro q hq1 hqN
  rw [eL]
  by_cases hq:q=p
  ·subst hq
   rw [up_same]
   by_cases hy:ys=[]
   ·subst hy;simp [up_same]
   ·rw [if_neg (fun e=>hy ((headD_zero hnzy).1 e)),h.lst q hq1 hqN,hK]
    rw [List.getLastD_eq_getLast?,List.getLastD_eq_getLast?,List.getLast?_append,List.getLast?_append]
    cases ys with
    | nil=>exact absurd rfl hy
    | cons y yt=>simp [List.getLast?_cons_cons]
  ·rw [up_other _ _ _ hq,← h.lst q hq1 hqN]
   split
   ·rw [up_other _ _ _ hq]
   ·rfl
 ·intro q
  by_cases hq:q=p
  ·subst hq
   rw [up_same,seg_append]
   have hxy:∀ k,k∈xs→ys≠[]→k≠ys.headD 0:=fun k hk hy=>hdis k hk _ (head_mem hy 0)
   have hyx:∀ k,k∈ys→xs≠[]→k≠xs.getLastD 0:=fun k hk hx e=>hdis _ (last_mem hx 0) k hk e.symm
   have nx:∀ k,k∈xs→k≠c:=fun k hk e=>hcx (e ▸ hk)
   have ny:∀ k,k∈ys→k≠c:=fun k hk e=>hcy (e ▸ hk)
   refine ⟨?_,?_,?_,?_⟩
   ·refine seg_next (b:=s.bhd) (nx:=ys.headD 0) hndx ?_ ?_ (seg_congr (a:=s.ahd) (b:=s.bhd) (fun k hk=>a_same k (nx k hk) (hxy k hk)) (fun _ _=>rfl) sx)
    ·intro hx
     rw [eB,up_other _ _ _ (nx _ (last_mem hx 0)),if_neg (fun e=>hx ((getLastD_zero hnzx).1 e)),up_same]
     rfl
    ·intro k hk hkl
     exact b_same k (nx k hk) (fun _=>hkl)
   ·rw [eA]
    by_cases hy:ys=[]
    ·simp [hy,up_same]
    ·rw [if_neg (fun e=>hy ((headD_zero hnzy).1 e)),up_other _ _ _ (fun e=>ny _ (head_mem hy 0) e.symm),up_same]
   ·rw [eB,up_same]
   ·refine seg_prev (a:=s.ahd) (q:=xs.getLastD 0) hndy ?_ ?_ (seg_congr (a:=s.ahd) (b:=s.bhd) (fun _ _=>rfl) (fun k hk=>b_same k (ny k hk) (hyx k hk)) sy)
    ·intro hy
     rw [eA,if_neg (fun e=>hy ((headD_zero hnzy).1 e)),up_same]
    ·intro k hk hkl
     exact a_same k (ny k hk) (fun _=>hkl)
  ·rw [up_other _ _ _ hq]
   have hk':∀ k,k∈K q→s.par k≠p:=fun k hk e=>hq ((h.kid q k hk).2.2.2.2.symm.trans e)
   refine seg_congr (fun k hk=>a_same k (fun e=>hout q (e ▸ hk)) (fun hy e=>hk' k hk (by rw [e];exact hpy _ (head_mem hy 0)))) (fun k hk=>b_same k (fun e=>hout q (e ▸ hk)) (fun hx e=>hk' k hk (by rw [e];exact hpx _ (last_mem hx 0)))) (h.seg q)
 ·intro k hk
  rw [eP]
  obtain ⟨m,hm⟩:=h.acy p hpN
  exact acy_up ⟨m,by rw [anc_up_same hd];exact hm⟩ (h.acy k hk)
 ·have h1:=sumTo_up (n:=N) (f:=fun q=>(K q).length) (g:=fun q=>(up K p (xs++c :: ys) q).length) hp1 hpN (fun i hi=>by simp [up_other _ _ _ hi])
  have h2:=sumTo_up (n:=N) (f:=fun k=>if s.par k=0 then 0 else 1) (g:=fun k=>if t.par k=0 then 0 else 1) hc1 hcN (fun i hi=>by simp [eP,up_other _ _ _ hi])
  have h3:=h.cnt
  simp only [up_same,hK,eP,List.length_append,List.length_cons] at h1 h2
  rw [if_pos hc,if_neg (by omega)] at h2
  rw [eP]
  omega
end
end Go.Proofs.YtcedebpoihcbdaaGreatDoor.Gv
namespace Go.Proofs.YtcedebpoihcbdaaGreatDoor.Gv
def dropK (K:Nat→List Nat) (c:Nat):Nat→List Nat:=fun x=>(K x).filter (fun k=>k != c)
theorem filter_out {l:List Nat} {c:Nat} (h:c ∉ l):l.filter (fun k=>k != c)=l:=by
 rw [List.filter_eq_self]
 intro a ha
 simp only [bne_iff_ne]
 rintro rfl
 exact h ha
theorem filter_split {xs ys:List Nat} {c:Nat} (hx:c ∉ xs) (hy:c ∉ ys):(xs++c :: ys).filter (fun k=>k != c)=xs++ys:=by
 rw [List.filter_append,List.filter_cons,filter_out hx,filter_out hy]
 simp
theorem split_of_mem {l:List Nat} {c:Nat} (h:c∈l):∃ xs ys,l=xs++c :: ys:=List.append_of_mem h
theorem split_nodup {xs ys:List Nat} {c:Nat} (h:(xs++c :: ys).Nodup):c ∉ xs∧c ∉ ys :=
 ⟨fun e=>(List.nodup_append.1 h).2.2 c e c (by simp) rfl,(List.nodup_cons.1 (List.nodup_append.1 h).2.1).1⟩
section
variable {N:Nat} {s:Fo} {K:Nat→List Nat}
theorem drop_loose (h:WF N s K) {c:Nat} (hc:s.par c=0):dropK K c=K:=by
 funext x
 exact filter_out (fun e=>by have:=h.kid x c e;omega)
theorem drop_kid (h:WF N s K) {c:Nat} {xs ys:List Nat} (hK:K (s.par c)=xs++c :: ys):dropK K c=up K (s.par c) (xs++ys):=by
 funext x
 by_cases e:x=s.par c
 ·subst e
  have hn:=h.nd (s.par c)
  rw [hK] at hn
  rw [up_same]
  simp only [dropK,hK]
  exact filter_split (split_nodup hn).1 (split_nodup hn).2
 ·rw [up_other _ _ _ e]
  exact filter_out (fun hm=>e (h.kid x c hm).2.2.2.2.symm)
def Fo.out (s:Fo) (c:Nat):Fo:=if s.par c=0 then s else s.remove c
theorem out_wf (h:WF N s K) {c:Nat} (hc1:1≤c) (hcN:c≤N):WF N (Fo.out s c) (dropK K c):=by
 unfold Fo.out
 by_cases h0:s.par c=0
 ·rw [if_pos h0,drop_loose h h0];exact h
 ·rw [if_neg h0]
  obtain ⟨xs,ys,hK⟩:=split_of_mem (h.own c hc1 hcN h0)
  rw [drop_kid h hK]
  exact remove_wf h hc1 hcN rfl h0 hK
theorem out_par (c:Nat):(Fo.out s c).par=up s.par c 0:=by
 unfold Fo.out
 by_cases h0:s.par c=0
 ·rw [if_pos h0]
  funext x
  by_cases e:x=c
  ·subst e;rw [up_same];exact h0
  ·rw [up_other _ _ _ e]
 ·rw [if_neg h0];rfl
def markOf (s:Fo) (c b:Nat):Nat:=if b=c then s.bhd c else b
theorem put_wf (h:WF N s K) {p c b:Nat} (hc1:1≤c) (hcN:c≤N) (hp1:1≤p) (hpN:p≤N) (hd:¬ Desc s.par p c) (hb:b=0∨b∈K p) :
  ∃ us vs,dropK K c p=us++vs∧vs.headD 0=markOf s c b∧WF N ((Fo.out s c).insert p c (markOf s c b)) (up (dropK K c) p (us++c :: vs))∧(b=0→vs=[])∧(b≠0→b≠c→∃ vt,vs=b :: vt):=by
 have h1:=out_wf h hc1 hcN
 have hpar:(Fo.out s c).par c=0:=by rw [out_par,up_same]
 have hd1:¬ Desc (Fo.out s c).par p c:=by rw [out_par];exact fun e=>hd (desc_up e)
 have key:∀ us vs,dropK K c p=us++vs→vs.headD 0=markOf s c b→WF N ((Fo.out s c).insert p c (markOf s c b)) (up (dropK K c) p (us++c :: vs)):=by
  intro us vs e1 e2
  rw [← e2]
  exact insert_wf h1 hc1 hcN hpar hp1 hpN e1 hd1
 by_cases e0:b=0
 ·have em:markOf s c b=0:=by unfold markOf;rw [if_neg (by omega)];exact e0
  exact ⟨dropK K c p,[],by simp,by simp [em],key _ _ (by simp) (by simp [em]),fun _=>rfl,fun hne=>absurd e0 hne⟩
 ·have hbk:b∈K p:=by rcases hb with hb | hb;exact absurd hb e0;exact hb
  by_cases ec:b=c
  ·subst ec
   have hq:s.par b=p:=(h.kid p b hbk).2.2.2.2
   obtain ⟨xs,ys,hK⟩:=split_of_mem hbk
   have em:markOf s b b=ys.headD 0:=by unfold markOf;rw [if_pos rfl];exact (h.sides hK).2
   have hn:=h.nd p
   rw [hK] at hn
   have e1:dropK K b p=xs++ys:=by simp only [dropK,hK];exact filter_split (split_nodup hn).1 (split_nodup hn).2
   exact ⟨xs,ys,e1,em.symm,key _ _ e1 em.symm,fun e=>absurd e e0,fun _ e=>absurd rfl e⟩
  ·have em:markOf s c b=b:=by unfold markOf;rw [if_neg ec]
   have hm:b∈dropK K c p:=by simp only [dropK,List.mem_filter];exact ⟨hbk,by simp [ec]⟩
   obtain ⟨us,vs,e1⟩:=split_of_mem hm
   exact ⟨us,b :: vs,e1,by simp [em],key _ _ e1 (by simp [em]),fun e=>absurd e e0,fun _ _=>⟨vs,rfl⟩⟩
end
def wi (K:Nat→List Nat):Nat→Nat→Nat→List Nat
 | 0,n,_=>[n]
 | f+1,n,most=>(K n).foldl (fun l k=>if l.length<most then l++wi K f k (most-l.length) else l) [n]
def wiTo (K:Nat→List Nat) (f n most i:Nat):List Nat:=((K n).take i).foldl (fun l k=>if l.length<most then l++wi K f k (most-l.length) else l) [n]
theorem wiTo_all (K:Nat→List Nat) (f n most:Nat):wiTo K f n most (K n).length=wi K (f+1) n most:=by simp [wiTo,wi]
theorem wiTo_zero (K:Nat→List Nat) (f n most:Nat):wiTo K f n most 0=[n]:=by simp [wiTo]
theorem wiTo_succ (K:Nat→List Nat) (f n most i:Nat) (hi:i<(K n).length):wiTo K f n most (i+1)=if (wiTo K f n most i).length<most then wiTo K f n most i++wi K f ((K n).getD i 0) (most-(wiTo K f n most i).length) else wiTo K f n most i:=by
 simp only [wiTo]
 rw [List.take_succ_eq_append_getElem hi,List.foldl_append,List.getD_eq_getElem?_getD,List.getElem?_eq_getElem hi]
 rfl
theorem foldl_full (K:Nat→List Nat) (f most:Nat):∀ (ks l:List Nat),most≤l.length→ks.foldl (fun l k=>if l.length<most then l++wi K f k (most-l.length) else l) l=l
 | [],_,_=>rfl
 | k :: ks,l,h=>by rw [List.foldl_cons,if_neg (by omega)];exact foldl_full K f most ks l h
theorem wiTo_full (K:Nat→List Nat) (f n most i:Nat) (h:most≤(wiTo K f n most i).length):wi K (f+1) n most=wiTo K f n most i:=by
 have e:K n=(K n).take i++(K n).drop i:=(List.take_append_drop i (K n)).symm
 show (K n).foldl _ [n]=_
 rw [e,List.foldl_append]
 rw [show (K n).take i=((K n).take i) from rfl]
 have:=foldl_full K f most ((K n).drop i) (wiTo K f n most i) h
 rw [← this]
 simp only [wiTo]
theorem foldl_len {K:Nat→List Nat} {f:Nat} (ih:∀ n most,1≤(wi K f n most).length∧(wi K f n most).length≤max 1 most) (most:Nat):∀ (ks l:List Nat),1≤l.length→l.length≤max 1 most →
  1≤(ks.foldl (fun l k=>if l.length<most then l++wi K f k (most-l.length) else l) l).length∧(ks.foldl (fun l k=>if l.length<most then l++wi K f k (most-l.length) else l) l).length≤max 1 most:=by
 intro ks
 induction ks with
 | nil=>intro l h1 h2;exact ⟨h1,h2⟩
 | cons k ks ihk =>
  intro l h1 h2
  rw [List.foldl_cons]
  by_cases hl:l.length<most
  ·rw [if_pos hl]
   have:=ih k (most-l.length)
   exact ihk _ (by rw [List.length_append];omega) (by rw [List.length_append];omega)
  ·rw [if_neg hl];exact ihk l h1 h2
theorem wi_len (K:Nat→List Nat) (f:Nat):∀ n most,1≤(wi K f n most).length∧(wi K f n most).length≤max 1 most:=by
 induction f with
 | zero=>intro n most;simp [wi];omega
 | succ f ih=>intro n most;exact foldl_len ih most (K n) [n] (by simp) (by simp;omega)
theorem wiTo_len (K:Nat→List Nat) (f n most i:Nat):1≤(wiTo K f n most i).length∧(wiTo K f n most i).length≤max 1 most :=
 foldl_len (wi_len K f) most _ [n] (by simp) (by simp;omega)
end Go.Proofs.YtcedebpoihcbdaaGreatDoor.Gv
namespace Go.Proofs.YtcedebpoihcbdaaGreatDoor.Gv
def pre (K:Nat→List Nat):Nat→Nat→List Nat
 | 0,x=>[x]
 | f+1,x=>x :: (K x).flatMap (pre K f)
def Deep (K:Nat→List Nat):Nat→Nat→Prop
 | 0,x=>K x=[]
 | f+1,x=>∀ k,k∈K x→Deep K f k
theorem flatMap_congr' {l:List Nat} {f g:Nat→List Nat} (h:∀ k,k∈l→f k=g k):l.flatMap f=l.flatMap g:=by
 induction l with
 | nil=>rfl
 | cons a l ih=>rw [List.flatMap_cons,List.flatMap_cons,h a (by simp),ih (fun k hk=>h k (by simp [hk]))]
theorem pre_stable {K:Nat→List Nat}:∀ (f x:Nat),Deep K f x→pre K (f+1) x=pre K f x
 | 0,x,h=>by simp only [Deep] at h;simp [pre,h]
 | f+1,x,h=>by
  show x :: (K x).flatMap (pre K (f+1))=x :: (K x).flatMap (pre K f)
  rw [flatMap_congr' (fun k hk=>pre_stable f k (h k hk))]
theorem anc_later {f:Nat→Nat} (h0:f 0=0) {x m n:Nat} (h:anc f m x=0) (hmn:m≤n):anc f n x=0:=by
 obtain ⟨d,rfl⟩:=Nat.exists_eq_add_of_le hmn
 rw [anc_add,h,anc_zero h0]
section
variable {N:Nat} {s:Fo} {K:Nat→List Nat}
theorem deep_of (h:WF N s K):∀ (f x d:Nat),anc s.par d x≠0→N≤f+d+1→Deep K f x
 | 0,x,d,hd,hN=>by
  show K x=[]
  cases hK:K x with
  | nil=>rfl
  | cons k ks =>
   have hk:=h.kid x k (by rw [hK];simp)
   have h1:=h.top k hk.2.2.2.1
   have h2:=anc_later h.z h1 (show N≤d+1 by omega)
   have h3:anc s.par (d+1) k=anc s.par d (s.par k):=rfl
   rw [h3,hk.2.2.2.2] at h2
   exact absurd h2 hd
 | f+1,x,d,hd,hN=>by
  intro k hk
  have hk':=(h.kid x k hk).2.2.2.2
  refine deep_of h f k (d+1) ?_ (by omega)
  show anc s.par d (s.par k)≠0
  rw [hk'];exact hd
theorem WF.deep (h:WF N s K) {x:Nat} (hx:1≤x) (hN:1≤N):Deep K (N-1) x:=deep_of h (N-1) x 0 (by simp [anc];omega) (by omega)
theorem deep_succ {K:Nat→List Nat}:∀ (f x:Nat),Deep K f x→Deep K (f+1) x
 | 0,x,h=>by intro k hk;simp only [Deep] at h;rw [h] at hk;simp at hk
 | f+1,x,h=>fun k hk=>deep_succ f k (h k hk)
theorem WF.deepN (h:WF N s K) {x:Nat} (hx:1≤x) (hN:1≤N):Deep K N x:=by
 have:=deep_succ _ _ (h.deep hx hN)
 rwa [show N-1+1=N by omega] at this
def P (N:Nat) (K:Nat→List Nat) (x:Nat):List Nat:=pre K N x
theorem P_eq (h:WF N s K) {x:Nat} (hx:1≤x) (hN:1≤N):P N K x=x :: (K x).flatMap (P N K):=by
 have h1:=pre_stable _ _ (h.deepN hx hN)
 show pre K N x=_
 rw [← h1];rfl
theorem P_succ (h:WF N s K) {x:Nat} (hx:1≤x) (hN:1≤N):pre K (N+1) x=P N K x:=pre_stable _ _ (h.deepN hx hN)
theorem pre_head (K:Nat→List Nat) (f x:Nat):∃ t,pre K f x=x :: t:=by cases f <;> exact ⟨_,rfl⟩
theorem P_head (N:Nat) (K:Nat→List Nat) (x:Nat):∃ t,P N K x=x :: t:=pre_head K N x
theorem P_self (N:Nat) (K:Nat→List Nat) (x:Nat):x∈P N K x:=by obtain ⟨t,h⟩:=P_head N K x;rw [h];simp
theorem pre_desc (h:WF N s K):∀ (f x y:Nat),y∈pre K f x→Desc s.par y x
 | 0,x,y,hy=>by simp [pre] at hy;subst hy;exact Desc.refl _ _
 | f+1,x,y,hy=>by
  simp only [pre,List.mem_cons,List.mem_flatMap] at hy
  rcases hy with rfl | ⟨k,hk,hy⟩
  ·exact Desc.refl _ _
  ·exact (pre_desc h f k y hy).trans ⟨1,(h.kid x k hk).2.2.2.2⟩
theorem Desc.pos {f:Nat→Nat} {x t:Nat} (h0:f 0=0) (h:Desc f x t) (ht:1≤t):1≤x:=by
 apply Nat.pos_of_ne_zero
 rintro rfl
 obtain ⟨m,hm⟩:=h
 rw [anc_zero h0] at hm
 omega
def pastF (s:Fo):Nat→Nat→Nat→Nat
 | 0,_,_=>0
 | f+1,n,t=>if n=0 then 0 else if n=t then 0 else if s.bhd n=0 then pastF s f (s.par n) t else s.bhd n
def nextF (s:Fo) (f n t:Nat):Nat:=if s.fst n=0 then pastF s f n t else s.fst n
def inmF (s:Fo):Nat→Nat→Nat
 | 0,n=>n
 | f+1,n=>if s.lst n=0 then n else inmF s f (s.lst n)
def prevF (s:Fo) (f n t:Nat):Nat:=if n=t then 0 else if s.ahd n=0 then s.par n else inmF s f (s.ahd n)
theorem getLastD_append' {xs ys:List Nat} (h:ys≠[]) (d:Nat):(xs++ys).getLastD d=ys.getLastD d:=by
 rw [List.getLastD_eq_getLast?,List.getLastD_eq_getLast?,List.getLast?_append,List.getLast?_eq_some_getLast h];rfl
theorem split_last {l:List Nat} (h:l≠[]):∃ xs,l=xs++[l.getLastD 0]:=by
 refine ⟨l.dropLast,?_⟩
 rw [List.getLastD_eq_getLast?,List.getLast?_eq_some_getLast h]
 simp [List.dropLast_concat_getLast h]
theorem inm_last (h:WF N s K) (hN:1≤N):∀ (f x g:Nat),1≤x→x≤N→Deep K f x→f≤g→inmF s g x=(P N K x).getLastD 0
 | f,x,0,hx,hxN,hd,hg=>by
  have hf:f=0:=by omega
  subst hf
  simp only [Deep] at hd
  rw [P_eq h hx hN,hd]
  simp [inmF]
 | f,x,g+1,hx,hxN,hd,hg=>by
  have e1:=P_eq h hx hN
  show (if s.lst x=0 then x else inmF s g (s.lst x))=_
  rw [h.lst x hx hxN]
  by_cases hK:K x=[]
  ·rw [e1,hK];simp
  ·have hm:=last_mem hK 0
   have hk:=h.kid x _ hm
   rw [if_neg (by omega)]
   obtain ⟨xs,hxs⟩:=split_last hK
   have hdk:∃ f',f'≤g∧Deep K f' ((K x).getLastD 0):=by
    cases f with
    | zero=>exact absurd hd hK
    | succ f'=>exact ⟨f',by omega,hd _ hm⟩
   obtain ⟨f',hf',hdk⟩:=hdk
   rw [inm_last h hN f' _ g (by omega) hk.2.2.2.1 hdk hf',e1]
   generalize (K x).getLastD 0=z at *
   rw [hxs,List.flatMap_append]
   have hz:P N K z≠[]:=by obtain ⟨t,ht⟩:=P_head N K z;rw [ht];simp
   have e2:[z].flatMap (P N K)=P N K z:=by simp
   rw [e2,← List.cons_append,getLastD_append' hz]
theorem fm_head (K:Nat→List Nat) (N:Nat) (l vs:List Nat) (h:l≠[]):(l.flatMap (P N K)++vs).headD 0=l.headD 0:=by
 cases l with
 | nil=>exact absurd rfl h
 | cons a l=>obtain ⟨t,ht⟩:=P_head N K a;rw [List.flatMap_cons,ht];simp
theorem desc_unique (h:WF N s K) {a b q y:Nat} (ha:a∈K q) (hb:b∈K q) (h1:Desc s.par y a) (h2:Desc s.par y b):a=b:=by
 obtain ⟨i,hi⟩:=h1
 obtain ⟨j,hj⟩:=h2
 have pa:=h.kid q a ha
 have pb:=h.kid q b hb
 have key:∀ (a b i j:Nat),i≤j→anc s.par i y=a→anc s.par j y=b→a∈K q→b∈K q→a=b:=by
  intro a b i j hij hi hj ha hb
  have pa:=h.kid q a ha
  have pb:=h.kid q b hb
  obtain ⟨d,rfl⟩:=Nat.exists_eq_add_of_le hij
  rw [anc_add,hi] at hj
  cases d with
  | zero=>exact hj
  | succ d =>
   exfalso
   have e1:anc s.par d q=b:=by rw [← hj];show _=anc s.par d (s.par a);rw [pa.2.2.2.2]
   have e2:anc s.par (d+1) q=q:=by rw [anc_succ',e1,pb.2.2.2.2]
   exact no_loop h.z (by omega) (h.acy q pa.2.1) d e2
 rcases Nat.le_total i j with hij | hij
 ·exact key a b i j hij hi hj ha hb
 ·exact (key b a j i hij hj hi hb ha).symm
theorem pre_congr {K K':Nat→List Nat} {f:Nat→Nat} (hk:∀ p k,k∈K p→f k=p):∀ m n,(∀ x,Desc f x n→K' x=K x)→pre K' m n=pre K m n
 | 0,n,_=>rfl
 | m+1,n,h=>by
  simp only [pre]
  rw [h n (Desc.refl f n)]
  rw [flatMap_congr' (fun k hkn=>pre_congr hk m k (fun x hx=>h x (hx.trans ⟨1,hk n k hkn⟩)))]
theorem P_drop_other (h:WF N s K) {c y:Nat} (hc1:1≤c) (hcN:c≤N) (hn:Desc s.par c y→c=y):P N (dropK K c) y=P N K y:=by
 refine pre_congr (f:=s.par) (fun p k hk=>(h.kid p k hk).2.2.2.2) N y (fun x hx=>?_)
 refine filter_out (fun hm=>?_)
 have hp:=(h.kid x c hm).2.2.2.2
 have hd:Desc s.par c y:=(Desc.trans ⟨1,hp⟩ hx)
 have e:=hn hd
 subst e
 obtain ⟨m,hm⟩:=hx
 apply no_loop h.z (x:=c) (by omega) (h.acy c hcN) m
 show anc s.par m (s.par c)=c
 rw [hp];exact hm
theorem blk (h:WF N s K) (hN:1≤N) {c:Nat} (hc1:1≤c) (hcN:c≤N):∀ (m x:Nat),anc s.par m c=x→1≤x →
  ∃ us vs,P N K x=us++P N K c++vs∧(∀ f,m<f→pastF s f c x=vs.headD 0)∧(∀ f,N≤f→prevF s f c x=us.getLastD 0)∧(m≠0→us≠[])∧(m≠0→P N (dropK K c) x=us++vs)
 | 0,x,hx,_=>by
  simp only [anc] at hx
  subst hx
  refine ⟨[],[],by simp,fun f hf=>?_,fun f _=>by simp [prevF],fun h=>absurd rfl h,fun h=>absurd rfl h⟩
  cases f with
  | zero=>omega
  | succ f=>simp [pastF]
 | m+1,x,hx,hx1=>by
  rw [anc_succ'] at hx
  have hy0:anc s.par m c≠0:=by intro e;rw [e,h.z] at hx;omega
  obtain ⟨y,hy⟩:∃ y,anc s.par m c=y:=⟨_,rfl⟩
  rw [hy] at hx hy0
  have hyN:y≤N:=by
   have:∀ j,anc s.par j c≤N:=fun j=>by
    induction j with
    | zero=>exact hcN
    | succ j ih=>rw [anc_succ'];exact h.parLe _ ih
   rw [← hy];exact this m
  have hxN:x≤N:=by rw [← hx];exact h.parLe y hyN
  obtain ⟨us,vs,e1,e2,e3,e4,e5⟩:=blk h hN hc1 hcN m y hy (by omega)
  have hyk:y∈K x:=by have:=h.own y (by omega) hyN (by omega);rwa [hx] at this
  obtain ⟨as,bs,hK⟩:=split_of_mem hyk
  have hsd:=h.sides hK
  have ePx:P N K x=x :: (as.flatMap (P N K)++(P N K y++bs.flatMap (P N K))):=by
   rw [P_eq h hx1 hN,hK,List.flatMap_append,List.flatMap_cons]
  have hcx:c≠x:=by
   intro e
   have h2:anc s.par (m+1) c=c:=by rw [anc_succ',hy,hx,e]
   exact no_loop h.z (by omega) (h.acy c hcN) m h2
  have hsib:∀ k,k∈as∨k∈bs→¬ Desc s.par c k:=by
   intro k hk hd
   have hkK:k∈K x:=by rw [hK];simp;rcases hk with hk | hk <;> simp [hk]
   have e:=desc_unique h hkK hyk hd ⟨m,hy⟩
   have hn:=h.nd x
   rw [hK] at hn
   have:=split_nodup hn
   rcases hk with hk | hk
   ·exact this.1 (e ▸ hk)
   ·exact this.2 (e ▸ hk)
  refine ⟨x :: as.flatMap (P N K)++us,vs++bs.flatMap (P N K),?_,?_,?_,by simp,?_⟩
  ·rw [ePx,e1];simp
  ·intro f hf
   -- the way up from c to y, then beside y
   have key:∀ (j z f:Nat),anc s.par j z=y→m<f+(m-j)→j≤m→(∀ g,j<g→pastF s g z y=vs.headD 0)→z≠0→(∀ i,i≤j→anc s.par i z≠x)→j<f→pastF s (f+1) z x=(vs++bs.flatMap (P N K)).headD 0:=by
    intro j
    induction j with
    | zero =>
     intro z f hz _ _ hg hz0 hnx hf
     simp only [anc] at hz
     subst hz
     have hv:vs.headD 0=0:=by rw [← hg 1 (by omega)];simp [pastF]
     have hvs:vs=[]∨vs≠[]:=by cases vs <;> simp
     have hzx:z≠x:=hnx 0 (Nat.le_refl _)
     have hvn:vs=[]:=by
      cases vs with
      | nil=>rfl
      | cons v vt =>
       exfalso
       simp at hv
       have hmem:v∈P N K z:=by rw [e1];simp
       have:=(pre_desc h N z v hmem).pos h.z (by omega)
       omega
     rw [hvn,List.nil_append]
     show (if z=0 then 0 else if z=x then 0 else if s.bhd z=0 then pastF s f (s.par z) x else s.bhd z)=_
     rw [if_neg hz0,if_neg hzx,hsd.2]
     by_cases hb:bs=[]
     ·subst hb
      simp only [List.headD_nil,if_true,hx,List.flatMap_nil]
      cases f with
      | zero=>rfl
      | succ f=>simp [pastF]
     ·have hb0:bs.headD 0≠0:=nz_of_kid h (p:=x) (by rw [hK];exact List.mem_append.2 (.inr (List.mem_cons_of_mem _ (head_mem hb 0))))
      rw [if_neg hb0]
      have:=fm_head K N bs [] hb
      simpa using this.symm
    | succ j ih =>
     intro z f hz hm hjm hg hz0 hnx hf
     have hzx:z≠x:=hnx 0 (Nat.zero_le _)
     have hzy:z≠y:=by
      rintro rfl
      have hzN:z≤N:=hyN
      exact no_loop h.z hz0 (h.acy z hzN) j hz
     have hg2:=hg (j+2) (by omega)
     have e0:pastF s (j+2) z y=if z=0 then 0 else if z=y then 0 else if s.bhd z=0 then pastF s (j+1) (s.par z) y else s.bhd z:=rfl
     rw [e0,if_neg hz0,if_neg hzy] at hg2
     show (if z=0 then 0 else if z=x then 0 else if s.bhd z=0 then pastF s f (s.par z) x else s.bhd z)=_
     rw [if_neg hz0,if_neg hzx]
     by_cases hb:s.bhd z=0
     ·rw [if_pos hb]
      have hp0:s.par z≠0:=by
       intro e
       have:anc s.par j (s.par z)=y:=hz
       rw [e,anc_zero h.z] at this
       omega
      cases f with
      | zero=>omega
      | succ f =>
       refine ih (s.par z) f hz (by omega) (by omega) (fun g hgj=>?_) hp0 (fun i hi=>?_) (by omega)
       ·have h3:=hg (g+1) (by omega)
        have e0:pastF s (g+1) z y=if z=0 then 0 else if z=y then 0 else if s.bhd z=0 then pastF s g (s.par z) y else s.bhd z:=rfl
        rwa [e0,if_neg hz0,if_neg hzy,if_pos hb] at h3
       ·exact hnx (i+1) (by omega)
     ·rw [if_neg hb] at hg2 ⊢
      cases vs with
      | nil=>simp at hg2;exact absurd hg2 hb
      | cons v vt=>simpa using hg2
   cases f with
   | zero=>omega
   | succ f =>
    refine key m c f hy (by omega) (Nat.le_refl _) e2 (by omega) (fun i hi e=>?_) (by omega)
    -- x is above y, so none of these
    have h1:anc s.par (m-i) x=y:=by
     rw [← e,← anc_add,show i+(m-i)=m by omega];exact hy
    have h2:anc s.par (m-i+1) x=x:=by rw [anc_succ',h1,hx]
    exact no_loop h.z (by omega) (h.acy x hxN) _ h2
  ·intro f hf
   by_cases hm:m=0
   ·subst hm
    simp only [anc] at hy
    subst hy
    have hu:us=[]:=by
     cases us with
     | nil=>rfl
     | cons u ut =>
      exfalso
      have:=congrArg List.length e1
      simp at this
      omega
    subst hu
    unfold prevF
    rw [if_neg hcx,hsd.1]
    by_cases ha:as=[]
    ·subst ha;simp [hx]
    ·have ham:=last_mem ha 0
     have hak:=h.kid x _ (show as.getLastD 0∈K x by rw [hK];exact List.mem_append.2 (.inl ham))
     rw [if_neg (by omega),inm_last h hN _ _ f hak.2.2.1 hak.2.2.2.1 (h.deepN hak.2.2.1 hN) hf]
     obtain ⟨xs,hxs⟩:=split_last ha
     generalize as.getLastD 0=z at *
     have hz:P N K z≠[]:=by obtain ⟨t,ht⟩:=P_head N K z;rw [ht];simp
     rw [hxs,List.flatMap_append,show [z].flatMap (P N K)=P N K z by simp,List.append_nil,← List.cons_append,getLastD_append' hz]
   ·have e3':=e3 f hf
    rw [getLastD_append' (e4 hm),← e3']
    unfold prevF
    have hcy:c≠y:=by
     intro e
     obtain ⟨j,rfl⟩:=Nat.exists_eq_succ_of_ne_zero hm
     exact no_loop h.z (by omega) (h.acy c hcN) j (hy.trans e.symm)
    rw [if_neg hcx,if_neg hcy]
  ·intro _
   have hfa:as.flatMap (P N (dropK K c))=as.flatMap (P N K):=flatMap_congr' (fun k hk=>P_drop_other h hc1 hcN (fun hd=>absurd hd (hsib k (.inl hk))))
   have hfb:bs.flatMap (P N (dropK K c))=bs.flatMap (P N K):=flatMap_congr' (fun k hk=>P_drop_other h hc1 hcN (fun hd=>absurd hd (hsib k (.inr hk))))
   have hwf:=out_wf h hc1 hcN
   rw [P_eq hwf hx1 hN]
   by_cases hm:m=0
   ·subst hm
    simp only [anc] at hy
    subst hy
    have hn:=h.nd x
    rw [hK] at hn
    have hlen:=congrArg List.length e1
    have hu:us=[]:=by
     cases us with
     | nil=>rfl
     | cons u ut=>exfalso;simp at hlen;omega
    have hv:vs=[]:=by
     cases vs with
     | nil=>rfl
     | cons u ut=>exfalso;simp at hlen;omega
    subst hu hv
    have:dropK K c x=as++bs:=by simp only [dropK,hK];exact filter_split (split_nodup hn).1 (split_nodup hn).2
    rw [this,List.flatMap_append,hfa,hfb]
    simp
   ·have hcy:c≠y:=by
     intro e
     obtain ⟨j,rfl⟩:=Nat.exists_eq_succ_of_ne_zero hm
     exact no_loop h.z (by omega) (h.acy c hcN) j (hy.trans e.symm)
    have hck:c ∉ K x:=by
     intro hk
     have e:=desc_unique h hk hyk (Desc.refl _ _) ⟨m,hy⟩
     exact hcy e
    have:dropK K c x=as++y :: bs:=by simp only [dropK];rw [filter_out hck,hK]
    rw [this,List.flatMap_append,List.flatMap_cons,hfa,hfb,e5 hm]
    simp
theorem P_mem (h:WF N s K) (hN:1≤N) {x y:Nat} (hy1:1≤y) (hyN:y≤N) (hx:1≤x):y∈P N K x↔Desc s.par y x:=by
 constructor
 ·exact pre_desc h N x y
 ·rintro ⟨m,hm⟩
  obtain ⟨us,vs,e,_⟩:=blk h hN hy1 hyN m x hm hx
  rw [e]
  simp [P_self]
theorem pre_nodup (h:WF N s K):∀ (f x:Nat),1≤x→x≤N→(pre K f x).Nodup
 | 0,x,_,_=>by simp [pre]
 | f+1,x,hx,hxN=>by
  show (x :: (K x).flatMap (pre K f)).Nodup
  have hkids:∀ (l:List Nat),l.Nodup→(∀ k,k∈l→k∈K x)→(l.flatMap (pre K f)).Nodup:=by
   intro l
   induction l with
   | nil=>intro _ _;simp
   | cons k l ih =>
    intro hn hl
    rw [List.flatMap_cons,List.nodup_append]
    have hk:=h.kid x k (hl k (by simp))
    refine ⟨pre_nodup h f k hk.2.2.1 hk.2.2.2.1,ih (List.nodup_cons.1 hn).2 (fun k' hk'=>hl k' (by simp [hk'])),?_⟩
    rintro a ha b hb rfl
    obtain ⟨k',hk',hb⟩:=List.mem_flatMap.1 hb
    have e:=desc_unique h (hl k (by simp)) (hl k' (by simp [hk'])) (pre_desc h f k a ha) (pre_desc h f k' a hb)
    exact (List.nodup_cons.1 hn).1 (e ▸ hk')
  refine List.nodup_cons.2 ⟨?_,hkids _ (h.nd x) (fun k hk=>hk)⟩
  intro hm
  obtain ⟨k,hk,hm⟩:=List.mem_flatMap.1 hm
  obtain ⟨j,hj⟩:=pre_desc h f k x hm
  have h2:anc s.par (j+1) x=x:=by rw [anc_succ',hj];exact (h.kid x k hk).2.2.2.2
  exact no_loop h.z (by omega) (h.acy x hxN) j h2
theorem P_nodup (h:WF N s K) {x:Nat} (hx:1≤x) (hxN:x≤N):(P N K x).Nodup:=pre_nodup h N x hx hxN
theorem pre_le (h:WF N s K):∀ (f x y:Nat),1≤x→x≤N→y∈pre K f x→1≤y∧y≤N
 | 0,x,y,hx,hxN,hy=>by simp [pre] at hy;omega
 | f+1,x,y,hx,hxN,hy=>by
  simp only [pre,List.mem_cons,List.mem_flatMap] at hy
  rcases hy with rfl | ⟨k,hk,hy⟩
  ·exact ⟨hx,hxN⟩
  ·have:=h.kid x k hk
   exact pre_le h f k y this.2.2.1 this.2.2.2.1 hy
theorem P_len (h:WF N s K) {x:Nat} (hx:1≤x) (hxN:x≤N):(P N K x).length≤N :=
 nodup_len (P_nodup h hx hxN) (fun y hy=>pre_le h N x y hx hxN hy)
theorem wi_pre (K:Nat→List Nat):∀ (f x most:Nat),wi K f x most=(pre K f x).take (max 1 most)
 | 0,x,most=>by
  have:max 1 most=(max 1 most-1)+1:=by omega
  rw [this];simp [wi,pre]
 | f+1,x,most=>by
  have key:∀ (ks l:List Nat),1≤l.length→l.length≤max 1 most→ks.foldl (fun l k=>if l.length<most then l++wi K f k (most-l.length) else l) l=(l++ks.flatMap (pre K f)).take (max 1 most):=by
   intro ks
   induction ks with
   | nil=>intro l h1 h2;simp [List.take_of_length_le h2]
   | cons k ks ih =>
    intro l h1 h2
    rw [List.foldl_cons]
    by_cases hl:l.length<most
    ·rw [if_pos hl,wi_pre K f k (most-l.length)]
     have em:max 1 (most-l.length)=most-l.length:=by omega
     have em2:max 1 most=most:=by omega
     rw [em,em2]
     rw [em2] at ih
     rw [ih _ (by simp;omega) (by rw [List.length_append,List.length_take];omega)]
     rw [List.flatMap_cons,← List.append_assoc,List.take_append (l₁:=l++pre K f k),List.take_append (l₁:=l++_)]
     rw [List.take_append,List.take_append,List.take_take]
     simp only [List.length_append,List.length_take,Nat.min_self]
     by_cases hk:(pre K f k).length≤most-l.length
     ·rw [Nat.min_eq_right hk]
     ·rw [Nat.min_eq_left (by omega)]
      rw [show most-(l.length+(most-l.length))=0 by omega,show most-(l.length+(pre K f k).length)=0 by omega]
    ·rw [if_neg hl,ih l h1 h2]
     have e:max 1 most=l.length:=by omega
     rw [e,List.take_append_of_le_length (Nat.le_refl _),List.take_append_of_le_length (Nat.le_refl _)]
  show (K x).foldl _ [x]=_
  rw [key (K x) [x] (by simp) (by simp;omega)]
  rfl
theorem wi_P (h:WF N s K) (hN:1≤N) {x:Nat} (hx:1≤x) (hxN:x≤N):wi K (N+1) x N=P N K x:=by
 rw [wi_pre,P_succ h hx hN,List.take_of_length_le]
 have:=P_len h hx hxN
 omega
end
end Go.Proofs.YtcedebpoihcbdaaGreatDoor.Gv
namespace Go.Proofs.YtcedebpoihcbdaaGreatDoor.Gv
def withF (s:Fo):Nat→Nat→Nat→Bool
 | 0,n,t=>decide (n=t)
 | f+1,n,t=>if n=0 then decide (n=t) else if n=t then true else withF s f (s.par n) t
theorem idx_unique {l:List Nat} {a b x:Nat} (hn:l.Nodup) (ha:l[a]?=some x) (hb:l[b]?=some x):a=b:=by
 obtain ⟨h1,e1⟩:=List.getElem?_eq_some_iff.1 ha
 obtain ⟨h2,e2⟩:=List.getElem?_eq_some_iff.1 hb
 rcases Nat.lt_trichotomy a b with h | h | h
 ·exact absurd (e1.trans e2.symm) (List.pairwise_iff_getElem.1 hn a b h1 h2 h)
 ·exact h
 ·exact absurd (e2.trans e1.symm) (List.pairwise_iff_getElem.1 hn b a h2 h1 h)
section
variable {N:Nat} {s:Fo} {K:Nat→List Nat}
theorem withF_iff (h0:s.par 0=0) {t:Nat} (ht:1≤t):∀ (f n:Nat),anc s.par f n=0→(withF s f n t=true↔Desc s.par n t)
 | 0,n,hn=>by
  simp only [anc] at hn
  subst hn
  simp only [withF,decide_eq_true_eq]
  constructor
  ·intro e;omega
  ·rintro ⟨m,hm⟩;rw [anc_zero h0] at hm;exact hm
 | f+1,n,hn=>by
  unfold withF
  by_cases e0:n=0
  ·subst e0
   rw [if_pos rfl]
   simp only [decide_eq_true_eq]
   constructor
   ·intro e;omega
   ·rintro ⟨m,hm⟩;rw [anc_zero h0] at hm;exact hm
  ·rw [if_neg e0]
   by_cases et:n=t
   ·rw [if_pos et];simp only [true_iff];exact et ▸ Desc.refl _ _
   ·rw [if_neg et,withF_iff h0 ht f (s.par n) hn]
    constructor
    ·exact Desc.head
    ·rintro ⟨m,hm⟩
     cases m with
     | zero=>exact absurd hm et
     | succ m=>exact ⟨m,hm⟩
theorem within_iff (h:WF N s K) {n t:Nat} (hn:n≤N) (ht:1≤t):withF s N n t=true↔Desc s.par n t:=withF_iff h.z ht N n (h.top n hn)
theorem getLastD_idx {us:List Nat}:us.getLastD 0=if us.length=0 then 0 else us.getD (us.length-1) 0:=by
 cases us with
 | nil=>rfl
 | cons a l =>
  rw [if_neg (by simp),List.getLastD_eq_getLast?,List.getLast?_eq_getElem?,List.getD_eq_getElem?_getD]
theorem anc_small (h:WF N s K) {x t m:Nat} (hx:x≤N) (ht:1≤t) (hm:anc s.par m x=t):m≤N:=by
 rcases Nat.lt_or_ge N m with h1 | h1
 ·have:=anc_later h.z (h.top x hx) (Nat.le_of_lt h1)
  omega
 ·exact h1
theorem nb_fact (h:WF N s K) (hN:1≤N) {t p k:Nat} (ht:1≤t) (htN:t≤N) (hk:(P N K t)[k]?=some p) :
  prevF s N p t=(if k=0 then 0 else (P N K t).getD (k-1) 0)∧nextF s (N+1) p t=(P N K t).getD (k+1) 0:=by
 have hmem:p∈P N K t:=List.mem_of_getElem? hk
 have hp:=pre_le h N t p ht htN hmem
 obtain ⟨m,hm⟩:=pre_desc h N t p hmem
 obtain ⟨us,vs,e1,e2,e3,e4,-⟩:=blk h hN hp.1 hp.2 m t hm ht
 obtain ⟨pt,hpt⟩:=P_head N K p
 have hmN:=anc_small h hp.2 ht hm
 have hu:(P N K t)[us.length]?=some p:=by rw [e1,List.append_assoc,List.getElem?_append_right (Nat.le_refl _),hpt];simp
 have hku:k=us.length:=idx_unique (P_nodup h ht htN) hk hu
 subst hku
 constructor
 ·rw [e3 N (Nat.le_refl _),getLastD_idx]
  by_cases hz:us.length=0
  ·rw [if_pos hz,if_pos hz]
  ·rw [if_neg hz,if_neg hz,e1,List.append_assoc,List.getD_eq_getElem?_getD,List.getD_eq_getElem?_getD,List.getElem?_append_left (by omega)]
 ·unfold nextF
  rw [h.fst p hp.1 hp.2,e2 (N+1) (by omega),e1,List.append_assoc,List.getD_eq_getElem?_getD,List.getElem?_append_right (by omega),show us.length+1-us.length=1 by omega]
  have ep:=P_eq h hp.1 hN
  rw [ep]
  by_cases hK:K p=[]
  ·rw [hK]
   simp only [List.headD_nil,if_true,List.flatMap_nil,List.cons_append,List.nil_append,List.getElem?_cons_succ]
   cases vs <;> simp
  ·have hz:=nz_of_kid h (head_mem hK 0)
   rw [if_neg hz]
   have:=fm_head K N (K p) vs hK
   rw [← this]
   simp only [List.cons_append,List.getElem?_cons_succ]
   cases (K p).flatMap (P N K)++vs <;> simp
theorem desc_line {f:Nat→Nat} {y a b:Nat} (h1:Desc f y a) (h2:Desc f y b):Desc f a b∨Desc f b a:=by
 obtain ⟨i,hi⟩:=h1
 obtain ⟨j,hj⟩:=h2
 rcases Nat.le_total i j with hij | hij
 ·obtain ⟨d,rfl⟩:=Nat.exists_eq_add_of_le hij
  rw [anc_add,hi] at hj
  exact .inl ⟨d,hj⟩
 ·obtain ⟨d,rfl⟩:=Nat.exists_eq_add_of_le hij
  rw [anc_add,hj] at hi
  exact .inr ⟨d,hi⟩
end
structure Spot where
 root:Nat
 place:Nat
 ahead:Bool
def Spot.leave (N:Nat) (s:Fo) (c:Nat) (i:Spot):Spot :=
 if withF s N i.place c=true∧withF s N i.root c=false then
  if i.ahead=true∧pastF s (N+1) c i.root≠0 then { i with place:=pastF s (N+1) c i.root }
  else { i with place:=prevF s N c i.root,ahead:=false }
 else i
def Spot.at_ (i:Spot) (k:Nat):Nat:=if i.ahead=true then k else k+1
theorem Spot.leave_root (N:Nat) (s:Fo) (c:Nat) (i:Spot):(i.leave N s c).root=i.root:=by
 unfold Spot.leave
 split
 ·split <;> rfl
 ·rfl
section
variable {N:Nat} {s:Fo} {K:Nat→List Nat}
theorem filter_in {us m:List Nat} (h:∀ x,x∈us→x ∉ m):us.filter (fun x=>decide (x ∉ m))=us:=by
 rw [List.filter_eq_self]
 intro a ha
 simp [h a ha]
theorem filter_none {us m:List Nat} (h:∀ x,x∈us→x∈m):us.filter (fun x=>decide (x ∉ m))=[]:=by
 rw [List.filter_eq_nil_iff]
 intro a ha
 simp [h a ha]
theorem leave_fact (h:WF N s K) (hN:1≤N) {c k:Nat} (hc1:1≤c) (hcN:c≤N) (i:Spot) (ht:1≤i.root) (htN:i.root≤N) (hk:(P N K i.root)[k]?=some i.place) :
  (Desc s.par i.root c→i.leave N s c=i) ∧
  (¬ Desc s.par i.root c→∃ k',(P N (dropK K c) i.root)[k']?=some (i.leave N s c).place∧(¬ Desc s.par i.place c→i.leave N s c=i)∧(i.leave N s c).at_ k'=(((P N K i.root).take (i.at_ k)).filter (fun x=>decide (x ∉ P N K c))).length):=by
 have hmem:i.place∈P N K i.root:=List.mem_of_getElem? hk
 have hp:=pre_le h N i.root i.place ht htN hmem
 have hpd:=pre_desc h N i.root i.place hmem
 have w1:=within_iff h (n:=i.place) (t:=c) hp.2 hc1
 have w2:=within_iff h (n:=i.root) (t:=c) htN hc1
 refine ⟨fun hd=>?_,fun hd=>?_⟩
 ·unfold Spot.leave
  rw [if_neg]
  rintro ⟨_,h2⟩
  rw [w2.2 hd] at h2
  cases h2
 have r2:withF s N i.root c=false:=by
  cases e:withF s N i.root c with
  | false=>rfl
  | true=>exact absurd (w2.1 e) hd
 have same:¬ Desc s.par i.place c→i.leave N s c=i:=by
  intro hn
  unfold Spot.leave
  rw [if_neg]
  rintro ⟨h1,_⟩
  exact hn (w1.1 h1)
 by_cases hcr:Desc s.par c i.root
 ·obtain ⟨m,hm⟩:=hcr
  have hm0:m≠0:=by
   rintro rfl
   simp only [anc] at hm
   exact hd (hm ▸ Desc.refl _ _)
  obtain ⟨us,vs,e1,e2,e3,e4,e5⟩:=blk h hN hc1 hcN m i.root hm ht
  have e5':=e5 hm0
  have hnd:=P_nodup h ht htN
  rw [e1] at hnd
  have hnd1:=List.nodup_append.1 hnd
  have hnd2:=List.nodup_append.1 hnd1.1
  have hud:∀ x,x∈us→x ∉ P N K c:=fun x hx hc=>hnd2.2.2 x hx x hc rfl
  have hvd:∀ x,x∈vs→x ∉ P N K c:=fun x hx hc=>hnd1.2.2 x (List.mem_append.2 (.inr hc)) x hx rfl
  have hmN:=anc_small h hcN ht hm
  by_cases hpc:Desc s.par i.place c
  ·have hpm:i.place∈P N K c:=(P_mem h hN hp.1 hp.2 hc1).2 hpc
   -- its place is in the midst
   have hklo:us.length≤k:=by
    rcases Nat.lt_or_ge k us.length with hlt | hge
    ·exfalso
     rw [e1,List.append_assoc,List.getElem?_append_left hlt] at hk
     exact hud _ (List.mem_of_getElem? hk) hpm
    ·exact hge
   have hkhi:k<us.length+(P N K c).length:=by
    rcases Nat.lt_or_ge k (us.length+(P N K c).length) with hlt | hge
    ·exact hlt
    ·exfalso
     rw [e1,List.getElem?_append_right (by simp;omega)] at hk
     exact hvd _ (List.mem_of_getElem? hk) hpm
   have hat:us.length≤i.at_ k∧i.at_ k≤us.length+(P N K c).length:=by unfold Spot.at_;split <;> omega
   have hpass:(((P N K i.root).take (i.at_ k)).filter (fun x=>decide (x ∉ P N K c))).length=us.length:=by
    rw [e1,List.append_assoc,List.take_append,List.filter_append,List.take_of_length_le hat.1,filter_in hud,filter_none,List.append_nil]
    intro x hx
    rw [List.take_append_of_le_length (by omega)] at hx
    exact List.mem_of_mem_take hx
   rw [hpass,e5']
   have hle:withF s N i.place c=true∧withF s N i.root c=false:=⟨w1.2 hpc,r2⟩
   have hu0:us≠[]:=e4 hm0
   have hback:(us++vs)[us.length-1]?=some (us.getLastD 0):=by
    have hl:0<us.length:=List.length_pos_iff.2 hu0
    rw [List.getElem?_append_left (by omega),getLastD_idx,if_neg (by omega),List.getD_eq_getElem?_getD,List.getElem?_eq_getElem (by omega)]
    rfl
   unfold Spot.leave
   rw [if_pos hle,e2 (N+1) (by omega),e3 N (Nat.le_refl _)]
   by_cases ha:i.ahead=true∧vs.headD 0≠0
   ·rw [if_pos ha]
    refine ⟨us.length,?_,fun hn=>absurd hpc hn,?_⟩
    ·rw [List.getElem?_append_right (Nat.le_refl _)]
     cases vs with
     | nil=>exact absurd rfl ha.2
     | cons v vt=>simp
    ·simp [Spot.at_,ha.1]
   ·rw [if_neg ha]
    refine ⟨us.length-1,hback,fun hn=>absurd hpc hn,?_⟩
    have hl:0<us.length:=List.length_pos_iff.2 hu0
    simp only [Spot.at_]
    simp
    omega
  ·rw [same hpc,e5']
   have hpm:i.place ∉ P N K c:=fun e=>hpc ((P_mem h hN hp.1 hp.2 hc1).1 e)
   rcases Nat.lt_or_ge k us.length with hlt | hge
   ·refine ⟨k,?_,fun _=>rfl,?_⟩
    ·rw [e1,List.append_assoc,List.getElem?_append_left hlt] at hk
     rw [List.getElem?_append_left hlt];exact hk
    ·have hat:i.at_ k≤us.length:=by unfold Spot.at_;split <;> omega
     rw [e1,List.append_assoc,List.take_append_of_le_length hat,filter_in (fun x hx=>hud x (List.mem_of_mem_take hx)),List.length_take]
     omega
   ·have hge2:us.length+(P N K c).length≤k:=by
     rcases Nat.lt_or_ge k (us.length+(P N K c).length) with hlt | hge'
     ·exfalso
      rw [e1,List.append_assoc,List.getElem?_append_right hge,List.getElem?_append_left (by omega)] at hk
      exact hpm (List.mem_of_getElem? hk)
     ·exact hge'
    have hklen:k<us.length+(P N K c).length+vs.length:=by
     obtain ⟨hh,_⟩:=List.getElem?_eq_some_iff.1 hk
     rw [e1] at hh
     simp at hh
     omega
    refine ⟨k-(P N K c).length,?_,fun _=>rfl,?_⟩
    ·rw [e1,List.getElem?_append_right (by simp;omega)] at hk
     rw [List.getElem?_append_right (by omega),← hk]
     congr 1
     simp
     omega
    ·have hat:us.length+(P N K c).length≤i.at_ k∧i.at_ k≤us.length+(P N K c).length+vs.length:=by unfold Spot.at_;split <;> omega
     rw [e1,List.take_append,List.take_of_length_le (by simp;omega),List.filter_append,List.filter_append,filter_in hud,filter_none (fun x hx=>hx),List.append_nil,filter_in (fun x hx=>hvd x (List.mem_of_mem_take hx)),List.length_append,List.length_take]
     simp only [List.length_append]
     have:i.at_ (k-(P N K c).length)=i.at_ k-(P N K c).length:=by unfold Spot.at_;split <;> omega
     omega
 ·-- neither is within the other
  have hpc:¬ Desc s.par i.place c:=by
   intro hpc
   rcases desc_line hpd hpc with h1 | h1
   ·exact hd h1
   ·exact hcr h1
  rw [same hpc,P_drop_other h hc1 hcN (fun e=>absurd e hcr)]
  refine ⟨k,hk,fun _=>rfl,?_⟩
  rw [filter_in,List.length_take]
  ·obtain ⟨hh,_⟩:=List.getElem?_eq_some_iff.1 hk
   have:i.at_ k≤(P N K i.root).length:=by unfold Spot.at_;split <;> omega
   omega
  ·intro x hx hxc
   have hxm:=List.mem_of_mem_take hx
   rcases desc_line (pre_desc h N i.root x hxm) (pre_desc h N c x hxc) with h1 | h1
   ·exact hd h1
   ·exact hcr h1
theorem leave_within (h:WF N s K) (hN:1≤N) {c:Nat} (hc1:1≤c) (hcN:c≤N) (i:Spot) (ht:1≤i.root) (htN:i.root≤N) (hp1:1≤i.place) (hpN:i.place≤N) (hd:Desc s.par i.place i.root) :
  Desc (Fo.out s c).par (i.leave N s c).place i.root∧1≤(i.leave N s c).place∧(i.leave N s c).place≤N:=by
 have hm:i.place∈P N K i.root:=(P_mem h hN hp1 hpN ht).2 hd
 obtain ⟨k,hk⟩:=List.getElem?_of_mem hm
 have F:=leave_fact h hN hc1 hcN i ht htN hk
 by_cases hr:Desc s.par i.root c
 ·rw [F.1 hr]
  refine ⟨?_,hp1,hpN⟩
  rw [out_par]
  -- the way from the place up to the root is not cut
  obtain ⟨m,hm⟩:=hd
  have key:∀ m x,anc s.par m x=i.root→anc (up s.par c 0) m x=i.root∨∃ j,j<m∧anc s.par j x=c:=by
   intro m
   induction m with
   | zero=>intro x hx;exact .inl hx
   | succ m ih =>
    intro x hx
    by_cases e:x=c
    ·exact .inr ⟨0,by omega,e⟩
    ·rcases ih (s.par x) hx with h1 | ⟨j,hj,h1⟩
     ·left
      show anc (up s.par c 0) m (up s.par c 0 x)=_
      rw [up_other _ _ _ e];exact h1
     ·exact .inr ⟨j+1,by omega,h1⟩
  rcases key m i.place hm with h1 | ⟨j,hj,h1⟩
  ·exact ⟨m,h1⟩
  ·exfalso
   -- c is under the root, and the root within c
   obtain ⟨d,hd⟩:=hr
   have hcr:anc s.par (m-j) c=i.root:=by rw [← h1,← anc_add,show j+(m-j)=m by omega];exact hm
   have h2:anc s.par (m-j+d) c=c:=by rw [anc_add,hcr,hd]
   have:m-j+d=(m-j+d-1)+1:=by omega
   rw [this] at h2
   exact no_loop h.z (by omega) (h.acy c hcN) _ h2
 ·obtain ⟨k',hk',_,_⟩:=F.2 hr
  have hwf:=out_wf h hc1 hcN
  have hm':=List.mem_of_getElem? hk'
  exact ⟨pre_desc hwf N i.root _ hm',pre_le hwf N i.root _ ht htN hm'⟩
theorem insert_within (h:WF N s K) {p c b x t:Nat} (hc0:s.par c=0) (hc1:1≤c) (ht:1≤t) (hd:Desc s.par x t):Desc (s.insert p c b).par x t:=by
 have e:(s.insert p c b).par=up s.par c p:=rfl
 rw [e]
 obtain ⟨m,hm⟩:=hd
 induction m generalizing x with
 | zero=>exact ⟨0,hm⟩
 | succ m ih =>
  have hm':anc s.par m (s.par x)=t:=hm
  by_cases ex:x=c
  ·subst ex
   rw [hc0,anc_zero h.z] at hm'
   omega
  ·obtain ⟨j,hj⟩:=ih hm'
   exact ⟨j+1,by show anc _ j (up s.par c p x)=t;rw [up_other _ _ _ ex];exact hj⟩
end
end Go.Proofs.YtcedebpoihcbdaaGreatDoor.Gv
namespace Go.Proofs.YtcedebpoihcbdaaGreatDoor.Gv
def insK (l:List Nat) (m c:Nat):List Nat:=l.takeWhile (fun x=>x != m)++c :: l.dropWhile (fun x=>x != m)
def chK (K:Nat→List Nat) (p c m:Nat):Nat→List Nat:=up (dropK K c) p (insK (dropK K c p) m c)
theorem takeWhile_in {us vs:List Nat} {m:Nat} (h:m ∉ us):(us++vs).takeWhile (fun x=>x != m)=us++vs.takeWhile (fun x=>x != m)∧(us++vs).dropWhile (fun x=>x != m)=vs.dropWhile (fun x=>x != m):=by
 induction us with
 | nil=>exact ⟨rfl,rfl⟩
 | cons a us ih =>
  have ha:(a != m)=true:=by simp;rintro rfl;exact h (by simp)
  have:=ih (fun e=>h (by simp [e]))
  rw [List.cons_append,List.takeWhile_cons,List.dropWhile_cons,ha]
  simp only [if_true]
  exact ⟨by rw [this.1];rfl,this.2⟩
theorem insK_eq {us vs:List Nat} {m c:Nat} (hn:(us++vs).Nodup) (hz:∀ x,x∈us++vs→x≠0) (hm:vs.headD 0=m):insK (us++vs) m c=us++c :: vs:=by
 unfold insK
 cases vs with
 | nil =>
  simp at hm
  subst hm
  have h0:0 ∉ us:=fun e=>hz 0 (by simp [e]) rfl
  have:=takeWhile_in (us:=us) (vs:=[]) h0
  rw [this.1,this.2]
  simp
 | cons v vt =>
  simp at hm
  subst hm
  have h0:v ∉ us:=fun e=>(List.nodup_append.1 hn).2.2 v e v (by simp) rfl
  have:=takeWhile_in (us:=us) (vs:=v :: vt) h0
  rw [this.1,this.2]
  simp
section
variable {N:Nat} {s:Fo} {K:Nat→List Nat}
theorem put_chK (h:WF N s K) {p c b:Nat} (hc1:1≤c) (hcN:c≤N) (hp1:1≤p) (hpN:p≤N) (hd:¬ Desc s.par p c) (hb:b=0∨b∈K p) :
  WF N ((Fo.out s c).insert p c (markOf s c b)) (chK K p c (markOf s c b)):=by
 obtain ⟨us,vs,e1,e2,e3,_,_⟩:=put_wf h hc1 hcN hp1 hpN hd hb
 have ho:=out_wf h hc1 hcN
 unfold chK
 rw [e1,insK_eq (by rw [← e1];exact ho.nd p) (fun x hx=>nz_of_kid ho (p:=p) (by rw [e1];exact hx)) e2]
 exact e3
end
end Go.Proofs.YtcedebpoihcbdaaGreatDoor.Gv
namespace Go.Proofs.YtcedebpoihcbdaaGreatDoor.Gv
def seqOf (l:List Nat) (j:Nat) (back:Bool):List Nat:=if back=true then (l.take j).reverse else l.drop j
def besF (s:Fo) (N n t:Nat) (back:Bool):Nat:=if back=true then prevF s N n t else nextF s (N+1) n t
def stepTo (N:Nat) (K:Nat→List Nat) (acc:Nat→Bool) (i:Spot) (back:Bool):Nat :=
 ((seqOf (P N K i.root) (i.at_ ((P N K i.root).idxOf i.place)) back).find? acc).getD 0
def Spot.stepped (N:Nat) (K:Nat→List Nat) (acc:Nat→Bool) (i:Spot) (back:Bool):Spot :=
 if stepTo N K acc i back=0 then i else { i with place:=stepTo N K acc i back,ahead:=back }
section
variable {N:Nat} {s:Fo} {K:Nat→List Nat}
theorem idxOf_get {l:List Nat} {x:Nat} (h:x∈l):l[l.idxOf x]?=some x:=by
 induction l with
 | nil=>simp at h
 | cons a l ih =>
  rw [List.idxOf_cons]
  by_cases e:a=x
  ·subst e;simp
  ·have hx:x∈l:=by
    rcases List.mem_cons.1 h with h | h
    ·exact absurd h.symm e
    ·exact h
   have:(a == x)=false:=by simp [e]
   rw [this]
   simp only [cond_false]
   rw [List.getElem?_cons_succ]
   exact ih hx
theorem getD_of {l:List Nat} {k x:Nat} (h:l[k]?=some x):l.getD k 0=x:=by rw [List.getD_eq_getElem?_getD,h];rfl
theorem seq_beside (h:WF N s K) (hN:1≤N) {t j:Nat} {back:Bool} (ht:1≤t) (htN:t≤N) {xs ys:List Nat} {y:Nat} (hq:seqOf (P N K t) j back=xs++y :: ys):besF s N y t back=ys.headD 0:=by
 cases back with
 | false =>
  simp only [seqOf,Bool.false_eq_true,if_false] at hq
  have hk:(P N K t)[j+xs.length]?=some y:=by
   rw [← List.getElem?_drop,hq,List.getElem?_append_right (Nat.le_refl _)];simp
  have hb:=(nb_fact h hN ht htN hk).2
  simp only [besF,Bool.false_eq_true,if_false]
  rw [hb,List.getD_eq_getElem?_getD,show j+xs.length+1=j+(xs.length+1) by omega,← List.getElem?_drop,hq,List.getElem?_append_right (by omega),show xs.length+1-xs.length=1 by omega]
  cases ys <;> simp
 | true =>
  simp only [seqOf,if_true] at hq
  have hq':(P N K t).take j=ys.reverse++y :: xs.reverse:=by
   have:=congrArg List.reverse hq
   rw [List.reverse_reverse] at this
   rw [this];simp
  have hlen:ys.length<j∧ys.length<(P N K t).length:=by
   have:=congrArg List.length hq'
   simp at this
   omega
  have hk:(P N K t)[ys.length]?=some y:=by
   have:((P N K t).take j)[ys.length]?=some y:=by
    rw [hq',List.getElem?_append_right (by simp)];simp
   rwa [List.getElem?_take_of_lt hlen.1] at this
  have hb:=(nb_fact h hN ht htN hk).1
  simp only [besF,if_true]
  rw [hb]
  cases ys with
  | nil=>rfl
  | cons a ys =>
   rw [if_neg (by simp)]
   have:((P N K t).take j)[ys.length]?=some a:=by
    rw [hq',List.getElem?_append_left (by simp)];simp
   rw [List.getElem?_take_of_lt (by simp at hlen;omega)] at this
   have hl:(a :: ys).length-1=ys.length:=by simp
   rw [hl,getD_of this]
   rfl
theorem seq_start (h:WF N s K) (hN:1≤N) (i:Spot) (ht:1≤i.root) (htN:i.root≤N) (hm:i.place∈P N K i.root) (back:Bool) :
  (if i.ahead=back then besF s N i.place i.root back else i.place)=(seqOf (P N K i.root) (i.at_ ((P N K i.root).idxOf i.place)) back).headD 0:=by
 have hk:=idxOf_get hm
 generalize (P N K i.root).idxOf i.place=k at *
 have hnb:=nb_fact h hN ht htN hk
 have hlt:=(List.getElem?_eq_some_iff.1 hk).1
 have hd:=getD_of hk
 have head_drop:∀ m,((P N K i.root).drop m).headD 0=(P N K i.root).getD m 0:=by
  intro m
  rw [List.getD_eq_getElem?_getD,show m=m+0 by rfl,← List.getElem?_drop]
  cases (P N K i.root).drop (m+0) <;> simp
 have last_take:∀ m,m≤(P N K i.root).length→((P N K i.root).take m).reverse.headD 0=if m=0 then 0 else (P N K i.root).getD (m-1) 0:=by
  intro m hm
  cases m with
  | zero=>simp
  | succ m =>
   rw [List.take_succ_eq_append_getElem (by omega),List.reverse_append,if_neg (by omega),Nat.add_sub_cancel,getD_of (List.getElem?_eq_getElem (by omega))]
   rfl
 cases back <;> cases ha:i.ahead
 ·-- on, behind
  simp only [Spot.at_,ha,seqOf,besF,Bool.false_eq_true,if_false,if_true]
  rw [head_drop];exact hnb.2
 ·simp only [Spot.at_,ha,seqOf,Bool.true_eq_false,Bool.false_eq_true,if_false,if_true]
  rw [head_drop];exact hd.symm
 ·simp only [Spot.at_,ha,seqOf,Bool.false_eq_true,if_false,if_true]
  rw [last_take _ (by omega),if_neg (by omega)];exact hd.symm
 ·simp only [Spot.at_,ha,seqOf,besF,if_true]
  rw [last_take _ (by omega)];exact hnb.1
theorem seq_mem {l:List Nat} {j:Nat} {back:Bool} {x:Nat} (h:x∈seqOf l j back):x∈l:=by
 unfold seqOf at h
 split at h
 ·exact List.mem_of_mem_take (List.mem_reverse.1 h)
 ·exact List.mem_of_mem_drop h
theorem par_of_under (h0:s.par 0=0) {x t:Nat} (hd:Desc s.par x t) (ht:1≤t) (hne:x≠t):s.par x≠0:=by
 obtain ⟨m,hm⟩:=hd
 cases m with
 | zero=>exact absurd hm hne
 | succ m =>
  intro e
  have:anc s.par m (s.par x)=t:=hm
  rw [e,anc_zero h0] at this
  omega
theorem stepTo_mem {acc:Nat→Bool} {i:Spot} {back:Bool} (h:stepTo N K acc i back≠0):stepTo N K acc i back∈P N K i.root:=by
 unfold stepTo at h ⊢
 cases e:(seqOf (P N K i.root) (i.at_ ((P N K i.root).idxOf i.place)) back).find? acc with
 | none=>rw [e] at h;exact absurd rfl h
 | some x=>exact seq_mem (List.mem_of_find?_eq_some e)
end
end Go.Proofs.YtcedebpoihcbdaaGreatDoor.Gv
namespace Go.Proofs.YtcedebpoihcbdaaGreatDoor.Gv
def kidD (s:Fo) (n:Nat) (back:Bool):Nat:=if back=true then s.lst n else s.fst n
def besD (s:Fo) (n:Nat) (back:Bool):Nat:=if back=true then s.ahd n else s.bhd n
def Lo (N:Nat) (s:Fo):Prop:=∀ k,1≤k→k≤N→s.par k=0→s.ahd k=0∧s.bhd k=0
section
variable {N:Nat} {s:Fo} {K:Nat→List Nat}
def sz (N:Nat) (K:Nat→List Nat) (x:Nat):Nat:=(P N K x).length
def szs (N:Nat) (K:Nat→List Nat):List Nat→Nat
 | []=>0
 | x :: l=>sz N K x+szs N K l
theorem szs_append (l m:List Nat):szs N K (l++m)=szs N K l+szs N K m:=by
 induction l with
 | nil=>simp [szs]
 | cons x l ih=>simp [szs,ih];omega
theorem szs_flat (l:List Nat):(l.flatMap (P N K)).length=szs N K l:=by
 induction l with
 | nil=>rfl
 | cons x l ih=>rw [List.flatMap_cons,List.length_append,ih];rfl
theorem sz_eq (h:WF N s K) {x:Nat} (hx:1≤x) (hN:1≤N):sz N K x=1+szs N K (K x):=by
 unfold sz
 rw [P_eq h hx hN,List.length_cons,szs_flat];omega
theorem sz_pos (x:Nat):1≤sz N K x:=by
 obtain ⟨t,e⟩:=P_head N K x
 unfold sz;rw [e];simp
def later (s:Fo) (K:Nat→List Nat) (n:Nat) (back:Bool):List Nat :=
 if back=true then (K (s.par n)).takeWhile (fun x=>x != n) else ((K (s.par n)).dropWhile (fun x=>x != n)).tail
theorem later_split {p n:Nat} {xs ys:List Nat} (h:WF N s K) (hK:K p=xs++n :: ys) (back:Bool):later s K n back=if back=true then xs else ys:=by
 have hp:s.par n=p:=(h.kid p n (by rw [hK];simp)).2.2.2.2
 have hn:n ∉ xs:=by have:=h.nd p;rw [hK] at this;exact (split_nodup this).1
 have hw:=takeWhile_in (us:=xs) (vs:=n :: ys) (m:=n) hn
 unfold later
 rw [hp,hK,hw.1,hw.2]
 simp
def rem (N:Nat) (s:Fo) (K:Nat→List Nat) (back:Bool):Nat→Nat→Nat
 | 0,_=>0
 | f+1,n=>if s.par n=0 then 0 else szs N K (later s K n back)+rem N s K back f (s.par n)
theorem rem_stable (back:Bool):∀ (f n:Nat),anc s.par f n=0→s.par 0=0→rem N s K back (f+1) n=rem N s K back f n
 | 0,n,h,h0=>by
  simp only [anc] at h
  subst h
  simp [rem,h0]
 | f+1,n,h,h0=>by
  show (if s.par n=0 then 0 else _+rem N s K back (f+1) (s.par n))=if s.par n=0 then 0 else _+rem N s K back f (s.par n)
  rw [rem_stable back f (s.par n) h h0]
def lies (N:Nat) (s:Fo) (K:Nat→List Nat) (back:Bool) (n:Nat):Nat:=rem N s K back N n
theorem lies_eq (h:WF N s K) {n:Nat} (hn:n≤N) (back:Bool):lies N s K back n=if s.par n=0 then 0 else szs N K (later s K n back)+lies N s K back (s.par n):=by
 unfold lies
 rw [← rem_stable back N n (h.top n hn) h.z]
 rfl
theorem kid_split (h:WF N s K) {n:Nat} (h1:1≤n) (hn:n≤N) (hp:s.par n≠0):∃ xs ys,K (s.par n)=xs++n :: ys:=split_of_mem (h.own n h1 hn hp)
theorem besD_zero (h:WF N s K) {n:Nat} {xs ys:List Nat} (hK:K (s.par n)=xs++n :: ys) (back:Bool):besD s n back=if back=true then xs.getLastD 0 else ys.headD 0:=by
 have:=h.sides hK
 unfold besD
 rw [this.1,this.2]
theorem bes_fact (h:WF N s K) {n:Nat} (h1:1≤n) (hn:n≤N) (hp:s.par n≠0) (back:Bool) (hb:besD s n back≠0) :
  besD s n back∈K (s.par n)∧sz N K (besD s n back)+lies N s K back (besD s n back)=lies N s K back n:=by
 obtain ⟨xs,ys,hK⟩:=kid_split h h1 hn hp
 have hbe:=besD_zero h hK back
 obtain ⟨b,rfl | rfl⟩:∃ b:Bool,back=true∨back=false:=⟨true,by cases back <;> simp⟩
 ·simp only [if_true] at hbe
  have hx:xs≠[]:=by rintro rfl;exact hb (by rw [hbe];rfl)
  obtain ⟨zs,hz⟩:=split_last hx
  rw [← hbe] at hz
  generalize besD s n true=m at *
  have hm:m∈K (s.par n):=by rw [hK,hz];simp
  have hmk:=h.kid _ _ hm
  refine ⟨hm,?_⟩
  have hK2:K (s.par n)=zs++m :: (n :: ys):=by rw [hK,hz];simp
  rw [lies_eq h hn,lies_eq h hmk.2.2.2.1,hmk.2.2.2.2,if_neg hp,if_neg hp,later_split h hK,later_split h hK2]
  simp only [if_true]
  rw [hz,szs_append]
  simp [szs];omega
 ·simp only [Bool.false_eq_true,if_false] at hbe
  cases ys with
  | nil=>exact absurd (by rw [hbe];rfl) hb
  | cons m zs =>
   simp only [List.headD_cons] at hbe
   rw [hbe]
   have hm:m∈K (s.par n):=by rw [hK];simp
   have hmk:=h.kid _ _ hm
   refine ⟨hm,?_⟩
   have hK2:K (s.par n)=(xs++[n])++m :: zs:=by rw [hK];simp
   rw [lies_eq h hn,lies_eq h hmk.2.2.2.1,hmk.2.2.2.2,if_neg hp,if_neg hp,later_split h hK,later_split h hK2]
   simp only [Bool.false_eq_true,if_false]
   simp [szs];omega
theorem bes_none (h:WF N s K) {n:Nat} (h1:1≤n) (hn:n≤N) (hp:s.par n≠0) (back:Bool) (hb:besD s n back=0):lies N s K back (s.par n)=lies N s K back n:=by
 obtain ⟨xs,ys,hK⟩:=kid_split h h1 hn hp
 have hbe:=besD_zero h hK back
 rw [hb] at hbe
 rw [lies_eq h hn,if_neg hp,later_split h hK]
 have hnz:∀ k,k∈xs∨k∈ys→k≠0:=fun k hk=>nz_of_kid h (p:=s.par n) (by rw [hK];simp;rcases hk with hk | hk <;> simp [hk])
 cases back with
 | true =>
  simp only [if_true] at hbe ⊢
  rw [(getLastD_zero (fun k hk=>hnz k (.inl hk))).1 hbe.symm];simp [szs]
 | false =>
  simp only [Bool.false_eq_true,if_false] at hbe ⊢
  rw [(headD_zero (fun k hk=>hnz k (.inr hk))).1 hbe.symm];simp [szs]
theorem kid_fact (h:WF N s K) {n:Nat} (h1:1≤n) (hn:n≤N) (back:Bool) (hb:kidD s n back≠0) :
  kidD s n back∈K n∧sz N K (kidD s n back)+lies N s K back (kidD s n back)+1=sz N K n+lies N s K back n:=by
 have hs:=sz_eq h h1 (by omega)
 cases back with
 | true =>
  have e:kidD s n true=(K n).getLastD 0:=by unfold kidD;simp only [if_true];exact h.lst n h1 hn
  have hx:K n≠[]:=by intro e0;exact hb (by rw [e,e0];rfl)
  obtain ⟨zs,hz⟩:=split_last hx
  rw [← e] at hz
  generalize kidD s n true=m at *
  have hm:m∈K n:=by rw [hz];simp
  have hmk:=h.kid _ _ hm
  refine ⟨hm,?_⟩
  have hp:s.par m=n:=hmk.2.2.2.2
  rw [lies_eq h hmk.2.2.2.1,hp,if_neg (by omega),later_split h (p:=n) (xs:=zs) (ys:=[]) hz,hs,hz,szs_append]
  simp [szs];omega
 | false =>
  have e:kidD s n false=(K n).headD 0:=by unfold kidD;simp only [Bool.false_eq_true,if_false];exact h.fst n h1 hn
  cases hK:K n with
  | nil=>exact absurd (by rw [e,hK];rfl) hb
  | cons m zs =>
   rw [hK] at e
   simp only [List.headD_cons] at e
   rw [e]
   have hm:m∈K n:=by rw [hK];simp
   have hmk:=h.kid _ _ hm
   refine ⟨by simp,?_⟩
   have hp:s.par m=n:=hmk.2.2.2.2
   rw [lies_eq h hmk.2.2.2.1,hp,if_neg (by omega),later_split h (p:=n) (xs:=[]) (ys:=zs) hK,hs,hK]
   simp [szs];omega
def dep (s:Fo):Nat→Nat→Nat
 | 0,_=>0
 | f+1,n=>if n=0 then 0 else 1+dep s f (s.par n)
theorem dep_stable:∀ (f n:Nat),anc s.par f n=0→dep s (f+1) n=dep s f n
 | 0,n,h=>by
  simp only [anc] at h
  subst h
  simp [dep]
 | f+1,n,h=>by
  show (if n=0 then 0 else 1+dep s (f+1) (s.par n))=if n=0 then 0 else 1+dep s f (s.par n)
  rw [dep_stable f (s.par n) h]
theorem dep_par (h:WF N s K) {n:Nat} (h1:1≤n) (hn:n≤N):dep s N n=1+dep s N (s.par n):=by
 rw [← dep_stable N n (h.top n hn)]
 show (if n=0 then 0 else _)=_
 rw [if_neg (by omega)]
theorem dep_le:∀ (f n:Nat),dep s f n≤f
 | 0,_=>Nat.le_refl _
 | f+1,n=>by
  show (if n=0 then 0 else 1+dep s f (s.par n))≤f+1
  have:=dep_le f (s.par n)
  split <;> omega
theorem past_fact (h:WF N s K) (hlo:Lo N s):∀ (f n t:Nat),n≤N→pastF s f n t≠0→1≤pastF s f n t∧pastF s f n t≤N∧sz N K (pastF s f n t)+lies N s K false (pastF s f n t)=lies N s K false n
 | 0,_,_,_,h0=>absurd rfl h0
 | f+1,n,t,hn,h0=>by
  unfold pastF at h0 ⊢
  by_cases e0:n=0
  ·rw [if_pos e0] at h0;exact absurd rfl h0
  rw [if_neg e0] at h0 ⊢
  by_cases et:n=t
  ·rw [if_pos et] at h0;exact absurd rfl h0
  rw [if_neg et] at h0 ⊢
  have h1:1≤n:=by omega
  by_cases eb:s.bhd n=0
  ·rw [if_pos eb] at h0 ⊢
   have hp:s.par n≠0:=by
    intro e
    rw [e] at h0
    apply h0
    cases f with
    | zero=>rfl
    | succ f=>simp [pastF]
   have ih:=past_fact h hlo f (s.par n) t (h.parLe n hn) h0
   have hb:=bes_none h h1 hn hp false (by simpa [besD] using eb)
   exact ⟨ih.1,ih.2.1,by rw [ih.2.2,hb]⟩
  ·rw [if_neg eb] at h0 ⊢
   have hp:s.par n≠0:=fun e=>eb (hlo n h1 hn e).2
   have hb:=bes_fact h h1 hn hp false (by simpa [besD] using eb)
   have e:besD s n false=s.bhd n:=by simp [besD]
   rw [e] at hb
   have hk:=h.kid _ _ hb.1
   exact ⟨hk.2.2.1,hk.2.2.2.1,hb.2⟩
end
def Lf {α:Type} (done:α→Nat→Prop) (step:α→α→Prop) (x:α) (a:Nat):Prop:=∀ R:α→Prop,(∀ x,done x a→R x)→(∀ x y,step x y→R y→R x)→R x
theorem Lf.done {α:Type} {done:α→Nat→Prop} {step:α→α→Prop} {x:α} {a:Nat} (h:done x a):Lf done step x a:=fun _ h1 _=>h1 x h
theorem Lf.more {α:Type} {done:α→Nat→Prop} {step:α→α→Prop} {x y:α} {a:Nat} (h:step x y) (k:Lf done step y a):Lf done step x a:=fun R h1 h2=>h2 x y h (k R h1 h2)
theorem Lf.inv {α:Type} {done:α→Nat→Prop} {step:α→α→Prop} {x:α} {a:Nat} (h:Lf done step x a):done x a∨∃ y,step x y∧Lf done step y a :=
 (h (fun x=>Lf done step x a∧(done x a∨∃ y,step x y∧Lf done step y a)) (fun _ k=>⟨Lf.done k,.inl k⟩) (fun _ y k r=>⟨Lf.more k r.1,.inr ⟨y,k,r.1⟩⟩)).2
theorem Lf.det {α:Type} {done:α→Nat→Prop} {step:α→α→Prop} {x:α} {a b:Nat} (h1:∀ x a b,done x a→done x b→a=b) (h2:∀ x y a,done x a→step x y→False) (h3:∀ x y z,step x y→step x z→y=z) (h:Lf done step x a) (k:Lf done step x b):a=b :=
 h (fun x=>Lf done step x b→a=b)
  (fun x hd k=>k.inv.elim (fun kd=>h1 x a b hd kd) (fun ⟨y,ks,_⟩=>(h2 x y a hd ks).elim))
  (fun x y hs ih k=>k.inv.elim (fun kd=>(h2 x y b kd hs).elim) (fun ⟨z,ks,kz⟩=>ih (h3 x z y ks hs ▸ kz))) k
section
variable (s:Fo) (v:Nat→Int) (root here:Nat) (back:Bool)
def EvUp (n a:Nat):Prop:=Lf (fun n a=>(n=root∧a=0)∨(n≠root∧s.par n=0∧a=0)∨(n≠root∧s.par n≠0∧v (s.par n)=1∧a=s.par n)) (fun n m=>n≠root∧s.par n≠0∧v (s.par n)≠1∧m=s.par n) n a
def EvPast (n a:Nat):Prop:=Lf (fun n a=>(besD s n back≠0∧a=besD s n back)∨(besD s n back=0∧(s.par n=0∨s.par n=root∨s.par n=here)∧a=0)) (fun n m=>besD s n back=0∧¬ (s.par n=0∨s.par n=root∨s.par n=here)∧m=s.par n) n a
def EvKid (n a:Nat):Prop:=Lf (fun n a=>(n=0∧a=0)∨(n≠0∧v n=1∧a=n)) (fun n m=>(n≠0∧v n=3∧kidD s n back≠0∧m=kidD s n back)∨(n≠0∧v n≠1∧¬ (v n=3∧kidD s n back≠0)∧EvPast s root here back n m)) n a
def EvSib (n t a:Nat):Prop:=Lf (fun (p:Nat × Nat) a=>(p.2=0∧(s.par p.1=0∨s.par p.1=root∨v (s.par p.1)=1)∧a=0)∨(p.2≠0∧v p.2=1∧a=p.2))
 (fun p q=>(p.2=0∧¬ (s.par p.1=0∨s.par p.1=root∨v (s.par p.1)=1)∧q=(s.par p.1,besD s (s.par p.1) back))∨(p.2≠0∧v p.2=3∧kidD s p.2 back≠0∧q=(p.2,kidD s p.2 back))∨(p.2≠0∧v p.2≠1∧¬ (v p.2=3∧kidD s p.2 back≠0)∧q=(p.2,besD s p.2 back))) (n,t) a
def EvIn (n a:Nat):Prop:=Lf (fun n a=>(s.lst n=0∨v n=2)∧a=n) (fun n m=>s.lst n≠0∧v n≠2∧m=s.lst n) n a
def EvBack (n a:Nat):Prop:=Lf (fun n a=>(s.ahd n≠0∧EvIn s v (s.ahd n) a∧v a=1)∨(s.ahd n=0∧(n=root∨s.par n=0)∧a=0)∨(s.ahd n=0∧n≠root∧s.par n≠0∧v (s.par n)=1∧a=s.par n)∨(s.ahd n=0∧n≠root∧s.par n≠0∧v (s.par n)≠1∧s.par n=root∧a=0))
 (fun n m=>(s.ahd n≠0∧EvIn s v (s.ahd n) m∧v m≠1)∨(s.ahd n=0∧n≠root∧s.par n≠0∧v (s.par n)≠1∧s.par n≠root∧m=s.par n)) n a
def EvOn (N n a:Nat):Prop:=Lf (fun n a=>(n=0∧a=0)∨(n≠0∧v n=1∧a=n)) (fun n m=>(n≠0∧v n=2∧m=pastF s (N+1) n root)∨(n≠0∧v n≠1∧v n≠2∧m=nextF s (N+1) n root)) n a
end
section
variable {s:Fo} {v:Nat→Int} {root here:Nat} {back:Bool}
theorem EvUp.top {n:Nat} (h:n=root):EvUp s v root n 0:=Lf.done (.inl ⟨h,rfl⟩)
theorem EvUp.none {n:Nat} (h:n≠root) (hp:s.par n=0):EvUp s v root n 0:=Lf.done (.inr (.inl ⟨h,hp,rfl⟩))
theorem EvUp.hit {n:Nat} (h:n≠root) (hp:s.par n≠0) (hv:v (s.par n)=1):EvUp s v root n (s.par n):=Lf.done (.inr (.inr ⟨h,hp,hv,rfl⟩))
theorem EvUp.go {n a:Nat} (h:n≠root) (hp:s.par n≠0) (hv:v (s.par n)≠1) (ha:EvUp s v root (s.par n) a):EvUp s v root n a:=Lf.more ⟨h,hp,hv,rfl⟩ ha
theorem EvUp.det {n a b:Nat} (h:EvUp s v root n a) (k:EvUp s v root n b):a=b :=
 Lf.det (fun _ _ _ h k=>by omega) (fun _ _ _ h k=>by omega) (fun _ _ _ h k=>h.2.2.2.trans k.2.2.2.symm) h k
theorem EvPast.bes {n:Nat} (h:besD s n back≠0):EvPast s root here back n (besD s n back):=Lf.done (.inl ⟨h,rfl⟩)
theorem EvPast.top {n:Nat} (h:besD s n back=0) (hp:s.par n=0∨s.par n=root∨s.par n=here):EvPast s root here back n 0:=Lf.done (.inr ⟨h,hp,rfl⟩)
theorem EvPast.up {n x:Nat} (h:besD s n back=0) (hp:¬ (s.par n=0∨s.par n=root∨s.par n=here)) (hx:EvPast s root here back (s.par n) x):EvPast s root here back n x:=Lf.more ⟨h,hp,rfl⟩ hx
theorem EvPast.det {n a b:Nat} (h:EvPast s root here back n a) (k:EvPast s root here back n b):a=b :=
 Lf.det (fun _ _ _ h k=>by omega) (fun _ _ _ h k=>by omega) (fun _ _ _ h k=>h.2.2.trans k.2.2.symm) h k
theorem EvKid.none {n:Nat} (h:n=0):EvKid s v root here back n 0:=Lf.done (.inl ⟨h,rfl⟩)
theorem EvKid.hit {n:Nat} (h:n≠0) (hv:v n=1):EvKid s v root here back n n:=Lf.done (.inr ⟨h,hv,rfl⟩)
theorem EvKid.kid {n a:Nat} (h:n≠0) (hv:v n=3) (hk:kidD s n back≠0) (ha:EvKid s v root here back (kidD s n back) a):EvKid s v root here back n a:=Lf.more (.inl ⟨h,hv,hk,rfl⟩) ha
theorem EvKid.past {n x a:Nat} (h:n≠0) (hv:v n≠1) (hk:¬ (v n=3∧kidD s n back≠0)) (hx:EvPast s root here back n x) (ha:EvKid s v root here back x a):EvKid s v root here back n a:=Lf.more (.inr ⟨h,hv,hk,hx⟩) ha
theorem EvKid.det {n a b:Nat} (h:EvKid s v root here back n a) (k:EvKid s v root here back n b):a=b:=by
 refine Lf.det (fun _ _ _ h k=>by omega) (fun x _ _ h k=>?_) (fun _ _ _ h k=>?_) h k
 ·rcases k with k | ⟨k1,k2,_⟩ <;> omega
 ·rcases h with h | ⟨h1,h2,h3,h⟩ <;> rcases k with k | ⟨k1,k2,k3,k⟩
  ·omega
  ·exact absurd ⟨h.2.1,h.2.2.1⟩ k3
  ·exact absurd ⟨k.2.1,k.2.2.1⟩ h3
  ·exact h.det k
theorem EvSib.stop {n t:Nat} (ht:t=0) (h:s.par n=0∨s.par n=root∨v (s.par n)=1):EvSib s v root back n t 0:=Lf.done (.inl ⟨ht,h,rfl⟩)
theorem EvSib.up {n t a:Nat} (ht:t=0) (h:¬ (s.par n=0∨s.par n=root∨v (s.par n)=1)) (ha:EvSib s v root back (s.par n) (besD s (s.par n) back) a):EvSib s v root back n t a:=Lf.more (.inl ⟨ht,h,rfl⟩) ha
theorem EvSib.hit {n t:Nat} (ht:t≠0) (hv:v t=1):EvSib s v root back n t t:=Lf.done (.inr ⟨ht,hv,rfl⟩)
theorem EvSib.kid {n t a:Nat} (ht:t≠0) (hv:v t=3) (hk:kidD s t back≠0) (ha:EvSib s v root back t (kidD s t back) a):EvSib s v root back n t a:=Lf.more (.inr (.inl ⟨ht,hv,hk,rfl⟩)) ha
theorem EvSib.bes {n t a:Nat} (ht:t≠0) (hv:v t≠1) (hk:¬ (v t=3∧kidD s t back≠0)) (ha:EvSib s v root back t (besD s t back) a):EvSib s v root back n t a:=Lf.more (.inr (.inr ⟨ht,hv,hk,rfl⟩)) ha
theorem EvSib.det {n t a b:Nat} (h:EvSib s v root back n t a) (k:EvSib s v root back n t b):a=b:=by
 refine Lf.det (fun _ _ _ h k=>by omega) (fun x _ _ h k=>?_) (fun _ _ _ h k=>?_) h k
 ·rcases k with ⟨k1,k2,_⟩ | ⟨k1,k2,k3,_⟩ | ⟨k1,k2,k3,_⟩ <;> omega
 ·rcases h with ⟨h1,h2,h⟩ | ⟨h1,h2,h3,h⟩ | ⟨h1,h2,h3,h⟩ <;> rcases k with ⟨k1,k2,k⟩ | ⟨k1,k2,k3,k⟩ | ⟨k1,k2,k3,k⟩
  all_goals first | exact h.trans k.symm | omega
theorem EvIn.stop {n:Nat} (h:s.lst n=0∨v n=2):EvIn s v n n:=Lf.done ⟨h,rfl⟩
theorem EvIn.go {n x:Nat} (h:s.lst n≠0) (hv:v n≠2) (hx:EvIn s v (s.lst n) x):EvIn s v n x:=Lf.more ⟨h,hv,rfl⟩ hx
theorem EvIn.det {n a b:Nat} (h:EvIn s v n a) (k:EvIn s v n b):a=b :=
 Lf.det (fun _ _ _ h k=>h.2.trans k.2.symm) (fun _ _ _ h k=>h.1.elim (fun e=>k.1 e) (fun e=>k.2.1 e)) (fun _ _ _ h k=>h.2.2.trans k.2.2.symm) h k
theorem EvBack.hit {n x:Nat} (h:s.ahd n≠0) (hx:EvIn s v (s.ahd n) x) (hv:v x=1):EvBack s v root n x:=Lf.done (.inl ⟨h,hx,hv⟩)
theorem EvBack.go {n x a:Nat} (h:s.ahd n≠0) (hx:EvIn s v (s.ahd n) x) (hv:v x≠1) (ha:EvBack s v root x a):EvBack s v root n a:=Lf.more (.inl ⟨h,hx,hv⟩) ha
theorem EvBack.top {n:Nat} (h:s.ahd n=0) (hn:n=root∨s.par n=0):EvBack s v root n 0:=Lf.done (.inr (.inl ⟨h,hn,rfl⟩))
theorem EvBack.par {n:Nat} (h:s.ahd n=0) (hn:n≠root) (hp:s.par n≠0) (hv:v (s.par n)=1):EvBack s v root n (s.par n):=Lf.done (.inr (.inr (.inl ⟨h,hn,hp,hv,rfl⟩)))
theorem EvBack.end_ {n:Nat} (h:s.ahd n=0) (hn:n≠root) (hp:s.par n≠0) (hv:v (s.par n)≠1) (hr:s.par n=root):EvBack s v root n 0:=Lf.done (.inr (.inr (.inr ⟨h,hn,hp,hv,hr,rfl⟩)))
theorem EvBack.up {n a:Nat} (h:s.ahd n=0) (hn:n≠root) (hp:s.par n≠0) (hv:v (s.par n)≠1) (hr:s.par n≠root) (ha:EvBack s v root (s.par n) a):EvBack s v root n a:=Lf.more (.inr ⟨h,hn,hp,hv,hr,rfl⟩) ha
theorem EvBack.det {n a b:Nat} (h:EvBack s v root n a) (k:EvBack s v root n b):a=b:=by
 refine Lf.det (fun _ _ _ h k=>?_) (fun x _ _ h k=>?_) (fun _ _ _ h k=>?_) h k
 ·rcases h with ⟨h1,h2,h3⟩ | h | h | h <;> rcases k with ⟨k1,k2,k3⟩ | k | k | k
  all_goals first | exact h2.det k2 | omega
 ·rcases h with ⟨h1,h2,h3⟩ | h | h | h <;> rcases k with ⟨k1,k2,k3⟩ | k
  all_goals first | omega | skip
  rw [h2.det k2] at h3
  exact k3 h3
 ·rcases h with ⟨h1,h2,h3⟩ | h <;> rcases k with ⟨k1,k2,k3⟩ | k
  all_goals first | exact h2.det k2 | omega
theorem EvOn.none {N n:Nat} (h:n=0):EvOn s v root N n 0:=Lf.done (.inl ⟨h,rfl⟩)
theorem EvOn.hit {N n:Nat} (h:n≠0) (hv:v n=1):EvOn s v root N n n:=Lf.done (.inr ⟨h,hv,rfl⟩)
theorem EvOn.past {N n a:Nat} (h:n≠0) (hv:v n=2) (ha:EvOn s v root N (pastF s (N+1) n root) a):EvOn s v root N n a:=Lf.more (.inl ⟨h,hv,rfl⟩) ha
theorem EvOn.next {N n a:Nat} (h:n≠0) (hv:v n≠1) (hv2:v n≠2) (ha:EvOn s v root N (nextF s (N+1) n root) a):EvOn s v root N n a:=Lf.more (.inr ⟨h,hv,hv2,rfl⟩) ha
theorem EvOn.det {N n a b:Nat} (h:EvOn s v root N n a) (k:EvOn s v root N n b):a=b :=
 Lf.det (fun _ _ _ h k=>by omega) (fun _ _ _ h k=>by omega) (fun _ _ _ h k=>by omega) h k
end
def MoveTo (N:Nat) (s:Fo) (v:Nat→Int) (root here how a:Nat):Prop :=
 (how=1∧EvUp s v root here a)∨(how=2∧EvKid s v root here false (kidD s here false) a)∨(how=3∧EvKid s v root here true (kidD s here true) a) ∨
 (how=4∧((here=root∧a=0)∨(here≠root∧EvSib s v root true here (besD s here true) a)))∨(how=5∧((here=root∧a=0)∨(here≠root∧EvSib s v root false here (besD s here false) a))) ∨
 (how=6∧((here=root∧a=0)∨(here≠root∧EvBack s v root here a)))∨(how=7∧EvOn s v root N (nextF s (N+1) here root) a)
theorem MoveTo.det {N:Nat} {s:Fo} {v:Nat→Int} {root here how a b:Nat} (h:MoveTo N s v root here how a) (k:MoveTo N s v root here how b):a=b:=by
 rcases h with ⟨rfl,h⟩ | ⟨rfl,h⟩ | ⟨rfl,h⟩ | ⟨rfl,h⟩ | ⟨rfl,h⟩ | ⟨rfl,h⟩ | ⟨rfl,h⟩
 ·rcases k with ⟨_,k⟩ | ⟨e,_⟩ | ⟨e,_⟩ | ⟨e,_⟩ | ⟨e,_⟩ | ⟨e,_⟩ | ⟨e,_⟩ <;> first | exact h.det k | omega
 ·rcases k with ⟨e,_⟩ | ⟨_,k⟩ | ⟨e,_⟩ | ⟨e,_⟩ | ⟨e,_⟩ | ⟨e,_⟩ | ⟨e,_⟩ <;> first | exact h.det k | omega
 ·rcases k with ⟨e,_⟩ | ⟨e,_⟩ | ⟨_,k⟩ | ⟨e,_⟩ | ⟨e,_⟩ | ⟨e,_⟩ | ⟨e,_⟩ <;> first | exact h.det k | omega
 ·rcases k with ⟨e,_⟩ | ⟨e,_⟩ | ⟨e,_⟩ | ⟨_,k⟩ | ⟨e,_⟩ | ⟨e,_⟩ | ⟨e,_⟩
  all_goals first | omega | skip
  rcases h with ⟨h1,rfl⟩ | ⟨h1,h⟩ <;> rcases k with ⟨k1,rfl⟩ | ⟨k1,k⟩ <;> first | rfl | exact absurd h1 k1 | exact absurd k1 h1 | exact h.det k
 ·rcases k with ⟨e,_⟩ | ⟨e,_⟩ | ⟨e,_⟩ | ⟨e,_⟩ | ⟨_,k⟩ | ⟨e,_⟩ | ⟨e,_⟩
  all_goals first | omega | skip
  rcases h with ⟨h1,rfl⟩ | ⟨h1,h⟩ <;> rcases k with ⟨k1,rfl⟩ | ⟨k1,k⟩ <;> first | rfl | exact absurd h1 k1 | exact absurd k1 h1 | exact h.det k
 ·rcases k with ⟨e,_⟩ | ⟨e,_⟩ | ⟨e,_⟩ | ⟨e,_⟩ | ⟨e,_⟩ | ⟨_,k⟩ | ⟨e,_⟩
  all_goals first | omega | skip
  rcases h with ⟨h1,rfl⟩ | ⟨h1,h⟩ <;> rcases k with ⟨k1,rfl⟩ | ⟨k1,k⟩ <;> first | rfl | exact absurd h1 k1 | exact absurd k1 h1 | exact h.det k
 ·rcases k with ⟨e,_⟩ | ⟨e,_⟩ | ⟨e,_⟩ | ⟨e,_⟩ | ⟨e,_⟩ | ⟨e,_⟩ | ⟨_,k⟩ <;> first | exact h.det k | omega
end Go.Proofs.YtcedebpoihcbdaaGreatDoor.Gv
namespace Go.Proofs.YtcedebpoihcbdaaGreatDoor.Gv
section
variable {N:Nat} {s:Fo} {K:Nat→List Nat}
theorem side_par (h:WF N s K) {n:Nat} (h1:1≤n) (hn:n≤N) (hp:s.par n≠0):(s.ahd n≠0→s.par (s.ahd n)=s.par n)∧(s.bhd n≠0→s.par (s.bhd n)=s.par n):=by
 constructor
 ·intro e
  have:=bes_fact h h1 hn hp true (by simpa [besD] using e)
  have e2:besD s n true=s.ahd n:=by simp [besD]
  rw [e2] at this
  exact (h.kid _ _ this.1).2.2.2.2
 ·intro e
  have:=bes_fact h h1 hn hp false (by simpa [besD] using e)
  have e2:besD s n false=s.bhd n:=by simp [besD]
  rw [e2] at this
  exact (h.kid _ _ this.1).2.2.2.2
theorem Lo.remove (hl:Lo N s) (h:WF N s K) {c:Nat} (hc1:1≤c) (hcN:c≤N) (hp:s.par c≠0):Lo N (s.remove c):=by
 have hs:=side_par h hc1 hcN hp
 intro k h1 hk hpk
 by_cases e:k=c
 ·subst e
  exact ⟨by simp [Fo.remove,Fo.lift,up_same],by simp [Fo.remove,Fo.lift,up_same]⟩
 ·have hpk':s.par k=0:=by simpa [Fo.remove,Fo.lift,Fo.join,up_other _ _ _ e] using hpk
  obtain ⟨l1,l2⟩:=hl k h1 hk hpk'
  constructor
  ·have:(s.remove c).ahd k=(if s.bhd c=0 then s.ahd else up s.ahd (s.bhd c) (s.ahd c)) k:=by simp [Fo.remove,Fo.lift,Fo.join,up_other _ _ _ e]
   rw [this]
   by_cases eb:s.bhd c=0
   ·rw [if_pos eb];exact l1
   ·rw [if_neg eb]
    have:k≠s.bhd c:=by rintro rfl;rw [hs.2 eb] at hpk';exact hp hpk'
    rw [up_other _ _ _ this];exact l1
  ·have:(s.remove c).bhd k=(if s.ahd c=0 then s.bhd else up s.bhd (s.ahd c) (s.bhd c)) k:=by simp [Fo.remove,Fo.lift,Fo.join,up_other _ _ _ e]
   rw [this]
   by_cases ea:s.ahd c=0
   ·rw [if_pos ea];exact l2
   ·rw [if_neg ea]
    have:k≠s.ahd c:=by rintro rfl;rw [hs.1 ea] at hpk';exact hp hpk'
    rw [up_other _ _ _ this];exact l2
theorem Lo.out (hl:Lo N s) (h:WF N s K) {c:Nat} (hc1:1≤c) (hcN:c≤N):Lo N (Fo.out s c):=by
 unfold Fo.out
 split
 ·exact hl
 ·rename_i hp
  exact hl.remove h hc1 hcN hp
theorem Lo.insert (hl:Lo N s) (h:WF N s K) {p c b:Nat} (hc1:1≤c) (hp1:1≤p) (hpN:p≤N) (hb:b=0∨b∈K p):Lo N (s.insert p c b):=by
 intro k h1 hk hpk
 have hpar:(s.insert p c b).par=up s.par c p:=by simp [Fo.insert,Fo.join,Fo.setPar]
 rw [hpar] at hpk
 have e:k≠c:=by rintro rfl;rw [up_same] at hpk;omega
 rw [up_other _ _ _ e] at hpk
 obtain ⟨l1,l2⟩:=hl k h1 hk hpk
 have hkb:b≠0→k≠b:=by
  rintro hb0 rfl
  rcases hb with hb | hb
  ·exact hb0 hb
  ·have:=(h.kid _ _ hb).2.2.2.2;omega
 have hka:∀ a,a=(if b=0 then s.lst p else s.ahd b)→a≠0→k≠a:=by
  rintro a ha ha0 rfl
  by_cases eb:b=0
  ·rw [if_pos eb] at ha
   rw [h.lst p hp1 hpN] at ha
   have hm:k∈K p:=by rw [ha];exact last_mem (fun e=>ha0 (by rw [ha,e];rfl)) 0
   have:=(h.kid _ _ hm).2.2.2.2;omega
  ·rw [if_neg eb] at ha
   rcases hb with hb | hb
   ·exact eb hb
   ·have hbk:=h.kid _ _ hb
    have:=(side_par h hbk.2.2.1 hbk.2.2.2.1 (by omega)).1 (by omega)
    rw [← ha] at this;omega
 have hc0:c≠0:=by omega
 constructor
 ·have:(s.insert p c b).ahd k=(if b=0 then up s.ahd c (if b=0 then s.lst p else s.ahd b) else up (up s.ahd c (if b=0 then s.lst p else s.ahd b)) b c) k:=by simp [Fo.insert,Fo.join,Fo.setPar,hc0]
  rw [this]
  by_cases eb:b=0
  ·rw [if_pos eb,up_other _ _ _ e];exact l1
  ·rw [if_neg eb,up_other _ _ _ (hkb eb),up_other _ _ _ e];exact l1
 ·have:(s.insert p c b).bhd k=(up (if (if b=0 then s.lst p else s.ahd b)=0 then s.bhd else up s.bhd (if b=0 then s.lst p else s.ahd b) c) c b) k:=by
   simp only [Fo.insert,Fo.join,Fo.setPar]
   rw [if_neg hc0]
  rw [this,up_other _ _ _ e]
  by_cases ea:(if b=0 then s.lst p else s.ahd b)=0
  ·rw [if_pos ea];exact l2
  ·rw [if_neg ea,up_other _ _ _ (hka _ rfl ea)];exact l2
theorem Lo.lift (hl:Lo N s):Lo (N+1) (s.lift (N+1) 0 0):=by
 intro k h1 hk hpk
 by_cases e:k=N+1
 ·subst e
  exact ⟨by simp [Fo.lift,up_same],by simp [Fo.lift,up_same]⟩
 ·have hpk':s.par k=0:=by simpa [Fo.lift,up_other _ _ _ e] using hpk
  have:=hl k h1 (by omega) hpk'
  exact ⟨by simpa [Fo.lift,up_other _ _ _ e] using this.1,by simpa [Fo.lift,up_other _ _ _ e] using this.2⟩
theorem anc_lift (h:WF N s K) {k:Nat} (hk:k≤N):∀ m,anc (s.lift (N+1) 0 0).par m k=anc s.par m k:=by
 intro m
 induction m with
 | zero=>rfl
 | succ m ih =>
  rw [anc_succ',anc_succ',ih]
  have:anc s.par m k≤N:=by
   clear ih
   induction m with
   | zero=>exact hk
   | succ m ih=>rw [anc_succ'];exact h.parLe _ ih
  show up s.par (N+1) 0 _=_
  rw [up_other _ _ _ (by omega)]
theorem noKids (h:WF N s K) {p:Nat} (hp:p=0∨N<p):K p=[]:=by
 cases hK:K p with
 | nil=>rfl
 | cons k l =>
  have:=h.kid p k (by rw [hK];simp)
  omega
theorem lift_wf (h:WF N s K):WF (N+1) (s.lift (N+1) 0 0) K:=by
 have hpar:∀ k,k≠N+1→(s.lift (N+1) 0 0).par k=s.par k:=fun k hk=>by simp [Fo.lift,up_other _ _ _ hk]
 have hnew:(s.lift (N+1) 0 0).par (N+1)=0:=by simp [Fo.lift,up_same]
 refine ⟨?_,?_,?_,h.nd,?_,?_,?_,?_,?_⟩
 ·rw [hpar 0 (by omega)];exact h.z
 ·intro p k hk
  have:=h.kid p k hk
  exact ⟨this.1,by omega,this.2.2.1,by omega,by rw [hpar k (by omega)];exact this.2.2.2.2⟩
 ·intro k h1 hk hp
  by_cases e:k=N+1
  ·subst e;exact absurd hnew hp
  ·rw [hpar k e] at hp ⊢
   exact h.own k h1 (by omega) hp
 ·intro p h1 hp
  by_cases e:p=N+1
  ·subst e;rw [noKids h (.inr (by omega))];simp [Fo.lift,up_same]
  ·rw [← h.fst p h1 (by omega)];simp [Fo.lift,up_other _ _ _ e]
 ·intro p h1 hp
  by_cases e:p=N+1
  ·subst e;rw [noKids h (.inr (by omega))];simp [Fo.lift,up_same]
  ·rw [← h.lst p h1 (by omega)];simp [Fo.lift,up_other _ _ _ e]
 ·intro p
  refine seg_congr (fun k hk=>?_) (fun k hk=>?_) (h.seg p)
  ·have:=h.kid p k hk
   simp [Fo.lift,up_other _ _ _ (show k≠N+1 by omega)]
  ·have:=h.kid p k hk
   simp [Fo.lift,up_other _ _ _ (show k≠N+1 by omega)]
 ·intro k hk
  by_cases e:k=N+1
  ·subst e
   refine ⟨1,?_⟩
   show (s.lift (N+1) 0 0).par (N+1)=0
   exact hnew
  ·obtain ⟨m,hm⟩:=h.acy k (by omega)
   exact ⟨m,by rw [anc_lift h (by omega)];exact hm⟩
 ·show sumTo N _+(K (N+1)).length=sumTo N _+(if (s.lift (N+1) 0 0).par (N+1)=0 then 0 else 1)
  rw [noKids h (.inr (Nat.lt_succ_self N)),hnew,h.cnt]
  simp only [List.length_nil,if_true]
  exact sumTo_congr (fun i h1 hi=>by rw [hpar i (by omega)])
theorem desc_lift (h:WF N s K) {k t:Nat} (hk:k≤N):Desc (s.lift (N+1) 0 0).par k t↔Desc s.par k t:=by
 constructor
 ·rintro ⟨m,hm⟩;exact ⟨m,by rw [← anc_lift h hk];exact hm⟩
 ·rintro ⟨m,hm⟩;exact ⟨m,by rw [anc_lift h hk];exact hm⟩
theorem kids_filter (h:WF N s K) {r:Nat} (h1:1≤r) (hr:r≤N):(P N K r).tail.filter (fun x=>decide (s.par x=r))=K r:=by
 have hN:1≤N:=by omega
 rw [P_eq h h1 hN]
 show ((K r).flatMap (P N K)).filter _=K r
 have key:∀ l:List Nat,(∀ k,k∈l→k∈K r)→(l.flatMap (P N K)).filter (fun x=>decide (s.par x=r))=l:=by
  intro l
  induction l with
  | nil=>intro _;rfl
  | cons k l ih =>
   intro hl
   have hk:=h.kid r k (hl k (by simp))
   rw [List.flatMap_cons,List.filter_append,ih (fun x hx=>hl x (by simp [hx]))]
   have e:(P N K k).filter (fun x=>decide (s.par x=r))=[k]:=by
    rw [P_eq h hk.2.2.1 hN,List.filter_cons,if_pos (by simpa using hk.2.2.2.2)]
    congr 1
    rw [List.filter_eq_nil_iff]
    intro x hx
    obtain ⟨y,hy,hxy⟩:=List.mem_flatMap.1 hx
    simp only [decide_eq_true_eq]
    intro e
    have hyk:=h.kid k y hy
    have hd:=pre_desc h N y x hxy
    obtain ⟨m,hm⟩:=hd
    cases m with
    | zero =>
     simp only [anc] at hm
     rw [hm,hyk.2.2.2.2] at e
     have:=h.par_ne (c:=k) (by omega) hk.2.2.2.1
     rw [hk.2.2.2.2] at this
     exact this e.symm
    | succ m =>
     have hm2:anc s.par m r=y:=by rw [← e];exact hm
     have:anc s.par (m+2) r=r:=by rw [anc_succ',anc_succ',hm2,hyk.2.2.2.2,hk.2.2.2.2]
     exact no_loop h.z (by omega) (h.acy r hr) (m+1) this
   rw [e];rfl
 exact key _ (fun k hk=>hk)
theorem leave_by (h:WF N s K) (hN:1≤N) {c:Nat} (hc1:1≤c) (hcN:c≤N) {t:Nat} (ht:1≤t) (htN:t≤N) (hd:Desc s.par c t) (hne:c≠t) :
  ∃ k,(P N K t)[k]?=some c∧1≤k∧k+(P N K c).length≤(P N K t).length∧prevF s N c t=(P N K t).getD (k-1) 0 ∧
   pastF s (N+1) c t=(P N K t).getD (k+(P N K c).length) 0∧(pastF s (N+1) c t≠0↔k+(P N K c).length<(P N K t).length):=by
 obtain ⟨m,hm⟩:=hd
 obtain ⟨us,vs,e1,e2,e3,e4,-⟩:=blk h hN hc1 hcN m t hm ht
 have hm0:m≠0:=by rintro rfl;exact hne hm
 obtain ⟨pt,hpt⟩:=P_head N K c
 have hmN:=anc_small h hcN ht hm
 have hus:=e4 hm0
 have hul:1≤us.length:=by cases us with | nil=>exact absurd rfl hus | cons a l=>simp
 refine ⟨us.length,?_,hul,?_,?_,?_,?_⟩
 ·rw [e1,List.append_assoc,List.getElem?_append_right (Nat.le_refl _),hpt];simp
 ·rw [e1];simp
 ·rw [e3 N (Nat.le_refl _),getLastD_idx,if_neg (by omega),e1,List.append_assoc,List.getD_eq_getElem?_getD,List.getD_eq_getElem?_getD,List.getElem?_append_left (by omega)]
 ·rw [e2 (N+1) (by omega),e1,List.getD_eq_getElem?_getD,List.getElem?_append_right (by simp)]
  simp only [List.length_append,Nat.sub_self]
  cases vs <;> simp
 ·rw [e2 (N+1) (by omega)]
  have hz:∀ x,x∈vs→x≠0:=fun x hx=>by
   have:=pre_le h N t x ht htN (by show x∈P N K t;rw [e1];simp [hx])
   omega
  have hl:(P N K t).length=us.length+(P N K c).length+vs.length:=by rw [e1];simp;omega
  rw [hl]
  constructor
  ·intro e
   have:vs≠[]:=fun e'=>e (by rw [e'];rfl)
   have:0<vs.length:=List.length_pos_iff.2 this
   omega
  ·intro hlt
   have:vs≠[]:=by rintro rfl;simp at hlt
   exact hz _ (head_mem this 0)
end
end Go.Proofs.YtcedebpoihcbdaaGreatDoor.Gv
