/-
  A grove as one thing: its iterators and walkers: Iter, Step, At, Walker, Move, Here, Go, whatever is asked.
  A grove as one thing: its walkers: Move, Here, Go, whatever is asked.
-/
import Derived.Test.YtcedebpoihcbdaaGreatDoorGB
set_option linter.unusedVariables false
set_option maxRecDepth 100000
namespace Go.Proofs.YtcedebpoihcbdaaGreatDoor
open Go.RowKit Go.Shelf Gv
section
variable {B:Nat} {w:World} {gb nb cap N:Nat} {kk:Nat→Nat} {tg:Nat→ByteArray} {kd:Nat→Value} {mp:Nat→Nat} {σ:St} {r:Re}
theorem stepS (h:Gro B w gb nb cap N kk tg kd mp σ r) {i:Nat} {it:It} (hi:σ.its[i]?=some it) {rules:List Rule} (hR:Rls w B it.rules rules) (back:Bool) :
  Calls Tryz.prog 15 #[.pointer (some ⟨gb,0,none⟩),.int .i64 (i+1:Nat),.bool back] w fun e w'=>e=.returned (.tuple #[.int .i64 (stepTo N σ.K (accB kk tg it.see rules) it.spot back:Nat),.int .i64 0])∧Gro B w' gb nb cap N kk tg kd mp { σ with its:=σ.its.set i { it with spot:=it.spot.stepped N σ.K (accB kk tg it.see rules) back } } r∧Fr (gset gb nb r.iv) w w':=by
 obtain ⟨ib,icap,hv⟩:=h.ivForm hi
 have hl:=(List.getElem?_eq_some_iff.1 hi).1
 have hfew:=h.its.few
 have giv:=h.held.giv
 rw [hv] at giv
 have HG:Hid (Gro B w gb nb cap N kk tg kd mp σ r):=h
 have HR:Hid (Rls w B it.rules rules):=hR
 have HI0:Hid (σ.its[i]?=some it):=hi
 have HV:Hid (r.iv=.slice (some ⟨ib,0,none⟩) σ.its.length icap):=hv
 clear h hR hi hv
 go_enter Tryz.func15, Tryz.ntmps15
 go_wp2_with fail
 refine (numberedI w ib σ.its.length icap (i+1) hfew (by omega) (by omega)).mono ?_
 rintro e w ⟨rfl,rfl⟩
 rw [Nat.add_sub_cancel]
 go_wp2_with fail
 refine (itStep HG.out HI0.out HV.out HR.out back).mono ?_
 rintro e w1 ⟨rfl,hI1,hF1⟩
 have HI1:Hid _:=hI1
 have HF1:Hid (Fr (fun j=>j=ib) w w1):=hF1
 clear hI1 hF1
 go_wp2_with fail
 go_ret2
 have hF:Fr (gset gb nb r.iv) w w1:=HF1.out.mono (fun j hj=>.inr (.inr (by rw [HV.out];simp [Value.ownBlock];exact hj.symm)))
 have ha:=ib_apart HG.out.held (by have:=HG.out.its;rw [HV.out] at this;exact this)
 refine ⟨rfl,⟨HG.out.held.fr HF1.out (fun e=>ha.1 e.symm) (fun e=>ha.2.1 e.symm),HG.out.wf,HG.out.kinds,HI1.out,fun x hx=>?_,HG.out.els' hF⟩,hF⟩
 obtain ⟨s1,s2,s3,s4,s5⟩:=HG.out.sound it (List.mem_of_getElem? HI0.out)
 rcases List.mem_or_eq_of_mem_set hx with hx | hx
 ·exact HG.out.sound x hx
 ·subst hx
  by_cases hz:stepTo N σ.K (accB kk tg it.see rules) it.spot back=0
  ·have e:it.spot.stepped N σ.K (accB kk tg it.see rules) back=it.spot:=by unfold Spot.stepped;rw [if_pos hz]
   rw [e];exact ⟨s1,s2,s3,s4,s5⟩
  ·have e:it.spot.stepped N σ.K (accB kk tg it.see rules) back={ it.spot with place:=stepTo N σ.K (accB kk tg it.see rules) it.spot back,ahead:=back }:=by unfold Spot.stepped;rw [if_neg hz]
   rw [e]
   have hm:=stepTo_mem hz
   have hb:=pre_le HG.out.wf N it.spot.root _ s1 s2 hm
   exact ⟨s1,s2,hb.1,hb.2,pre_desc HG.out.wf N it.spot.root _ hm⟩
end
section
variable {B:Nat} {w w':World} {g g':Gx}
theorem its_label {w:World} {B:Nat} {v:Value} {l:List It} {a b:It} (h:Its w B v (l++[a])) (hr:b.row=a.row):Its w B v (l++[b]):=by
 have e:(l++[b]).flatMap It.row=(l++[a]).flatMap It.row:=by simp [hr]
 have e2:(l++[b]).length=(l++[a]).length:=by simp
 exact ⟨by rw [e,e2];exact h.row,by rw [e2];exact h.few⟩
theorem wks_label {w:World} {B:Nat} {v:Value} {l:List Wk} {a b:Wk} (h:Wks w B v (l++[a])) (hr:b.row=a.row):Wks w B v (l++[b]):=by
 have e:(l++[b]).flatMap Wk.row=(l++[a]).flatMap Wk.row:=by simp [hr]
 have e2:(l++[b]).length=(l++[a]).length:=by simp
 exact ⟨by rw [e,e2];exact h.row,by rw [e2];exact h.few⟩
theorem may_few {N:Nat} {root see:Int} {rs:List Rule} {cnt:Nat} (h:mayErr N root see rs cnt=0):rs.length≤10:=by
 unfold mayErr at h
 split at h
 ·cases h
 ·split at h
  ·rename_i h2;exact absurd h h2
  ·rename_i h2
   have h3:filtErr see rs=0:=Classical.not_not.1 h2
   unfold filtErr at h3
   split at h3
   ·cases h3
   ·split at h3
    ·cases h3
    ·omega
theorem Ls.OK.re {N:Nat} {kk:Nat→Nat} {tg:Nat→ByteArray} {A:Nat→ByteArray→Option ByteArray} {K:Nat→List Nat} {r r':Re} {x:Ls} (h:x.OK N kk tg A K r) (hp:r'.pl=r.pl) (hc:r'.cl=r.cl):x.OK N kk tg A K r':=by
 obtain ⟨a1,a2,a3,a4,a5⟩:=h
 have hnow:nowCl x.how r'=nowCl x.how r:=by unfold nowCl;rw [hc]
 exact ⟨a1,a2,by rw [hp];exact a3,fun e=>by rw [hc];exact a4 e,fun e1 e2=>a5 (by rw [← hp];exact e1) (by rw [← hnow];exact e2)⟩
theorem GOK.lists {S:Nat→Prop} (h:GOK B w g) (hF:Fr S w w') (hS:∀ i cs t fr,S i→w.heap[i]?=some (.cells cs t fr)→t≠3∧t≠77) (hm:∀ i es c,S i→w.heap[i]?≠some (.map es c)):Ats w' B g.N g.kk g.mp g.A∧Lss w' B g.r.lv g.ls :=
 ⟨h.grl.ats.fr hF hm,h.grl.lss.fr hF hS⟩
theorem row_nomap {D n t size:Nat} {v:Value} {xs:List Value} {i:Nat} {es:Array MapEntry} {c:Nat} (h:w.ownsRow D t size v n xs) (hi:v.ownBlock=some i):w.heap[i]?≠some (.map es c):=by
 intro e
 rcases row_form h with ⟨e',_⟩ | ⟨g',c',e',_,_,⟨cur,hc⟩,_⟩
 ·rw [e'] at hi;simp [Value.ownBlock] at hi
 ·rw [e'] at hi
  simp only [Value.ownBlock,Option.some.injEq] at hi
  subst hi
  rw [hc] at e;cases e
def It.made (root:Nat) (see:Int) (rv:Value) (rs:List Rule):It:={ It.new root see rv with rl:=rs }
def Wk.made (root:Nat) (see:Int) (rv:Value) (rs:List Rule):Wk:={ Wk.new root see rv with rl:=rs }
theorem iterX (h:GOK B w g) (rooti see:Int) (rs:List Rule) (ao:Option Addr) (ac:Nat) (hl:rs.length≤10000000) (hn:RulesIn w ao rs) (hz:ao=none→rs=[]∧ac=0) :
  Calls Tryz.prog 13 #[.pointer (some ⟨g.gb,0,none⟩),.int .i64 rooti,.int .i64 see,.slice ao rs.length ac] w fun e w' =>
   (mayErr g.N rooti see rs g.σ.its.length≠0∧e=.returned (.tuple #[.int .i64 0,.int .i64 (mayErr g.N rooti see rs g.σ.its.length)])∧Below w.heap.size w w') ∨
   (mayErr g.N rooti see rs g.σ.its.length=0∧∃ (root:Nat) (v rv:Value),rooti=root∧1≤root∧root≤g.N∧e=.returned (.tuple #[.int .i64 (g.σ.its.length+1:Nat),.int .i64 0])∧Post B w w' g { g with σ:={ g.σ with its:=g.σ.its++[It.made root see rv rs] },r:=g.r.setIv v }):=by
 refine (iterC h.gro rooti see rs ao ac hl hn hz).mono ?_
 rintro e w' (⟨h1,rfl,h2⟩ | ⟨hq,root,v,rv,rfl,r1,rN,h50,rfl,hG,hF,hO,hv⟩)
 ·exact .inl ⟨h1,rfl,h2⟩
 right
 refine ⟨hq,root,v,rv,rfl,r1,rN,rfl,?_⟩
 have hty:∀ i cs t fr,(i=g.gb∨g.r.iv.ownBlock=some i)→w.heap[i]?=some (.cells cs t fr)→t=72∨t=85:=by
  rintro i cs t fr (rfl | hi) e
  ·exact .inl (h.tyG e)
  ·exact .inr (row_ty h.gro.its.row hi e)
 have hmap:∀ i es c,(i=g.gb∨g.r.iv.ownBlock=some i)→w.heap[i]?≠some (.map es c):=by
  rintro i es c (rfl | hi) e
  ·rw [h.held.g] at e;cases e
  ·exact row_nomap h.gro.its.row hi e
 have hR:=h.rest hF (fun i cs t fr hi e=>by rcases hty i cs t fr hi e with rfl | rfl <;> decide)
 have hL:=h.lists hF (fun i cs t fr hi e=>by rcases hty i cs t fr hi e with rfl | rfl <;> decide) hmap
 have hBs:B≤w.heap.size:=by have:=h.held.hB;have:=h.held.ltg;omega
 have hits:Its w' B v (g.σ.its++[It.made root see rv rs]):=its_label (a:=It.new root see rv) hG.its rfl
 refine ⟨⟨⟨⟨hG.held,hG.wf,hG.kinds,hits,fun it hit=>?_,hG.els⟩,hL.1,hL.2,fun x hx=>(h.grl.ok x hx).re rfl rfl⟩,hR.1,h.lo,fun x hx=>?_,hR.2.2,h.wok,h.pl0,h.cl0,h.zero⟩,hF.mono (fun i hi=>?_),fun i hi=>?_,rfl⟩
 ·rcases List.mem_append.1 hit with hit | hit
  ·exact h.gro.sound it hit
  ·simp only [List.mem_singleton] at hit
   subst hit
   exact ⟨r1,rN,r1,rN,Desc.refl _ _⟩
 ·rcases List.mem_append.1 hx with hx | hx
  ·exact hR.2.1 x hx
  ·simp only [List.mem_singleton] at hx
   subst hx
   exact ⟨rowB hO hBs,may_few hq⟩
 ·rcases hi with rfl | hi
  ·exact Gx.own_g
  ·exact Gx.own_iv hi
 ·rcases hi with hi | hi | hi | hi | hi | hi | hi | ⟨x,hx,hi⟩ | hi
  ·exact .inl (.inl hi)
  ·exact .inl (.inr (.inl hi))
  ·exact .inl (Gx.own_lv hi)
  ·exact (hv i hi).imp Gx.own_iv id
  ·exact .inl (Gx.own_wv hi)
  ·exact .inl (.inr (.inr (.inr (.inr (.inr (.inl hi))))))
  ·exact .inl (.inr (.inr (.inr (.inr (.inr (.inr (.inl hi)))))))
  ·rcases List.mem_append.1 hx with hx | hx
   ·exact .inl (Gx.own_ir hx hi)
   ·simp only [List.mem_singleton] at hx
    subst hx
    exact .inr (hO.lt i hi).1
  ·exact .inl (.inr (.inr (.inr (.inr (.inr (.inr (.inr (.inr hi))))))))
theorem walkerX (h:GOK B w g) (rooti see:Int) (rs:List Rule) (ao:Option Addr) (ac:Nat) (hl:rs.length≤10000000) (hn:RulesIn w ao rs) (hz:ao=none→rs=[]∧ac=0) :
  Calls Tryz.prog 14 #[.pointer (some ⟨g.gb,0,none⟩),.int .i64 rooti,.int .i64 see,.slice ao rs.length ac] w fun e w' =>
   (mayErr g.N rooti see rs g.ws.length≠0∧e=.returned (.tuple #[.int .i64 0,.int .i64 (mayErr g.N rooti see rs g.ws.length)])∧Below w.heap.size w w') ∨
   (mayErr g.N rooti see rs g.ws.length=0∧∃ (root:Nat) (v rv:Value),rooti=root∧1≤root∧root≤g.N∧e=.returned (.tuple #[.int .i64 (g.ws.length+1:Nat),.int .i64 0])∧Post B w w' g { g with ws:=g.ws++[Wk.made root see rv rs],r:=g.r.setWv v }):=by
 refine (walkerC h.gro h.wks rooti see rs ao ac hl hn hz).mono ?_
 rintro e w' (⟨h1,rfl,h2⟩ | ⟨hq,root,v,rv,rfl,r1,rN,h50,rfl,hG,hW,hF,hO,hv⟩)
 ·exact .inl ⟨h1,rfl,h2⟩
 right
 refine ⟨hq,root,v,rv,rfl,r1,rN,rfl,?_⟩
 have hty:∀ i cs t fr,(i=g.gb∨g.r.wv.ownBlock=some i)→w.heap[i]?=some (.cells cs t fr)→t=72∨t=88:=by
  rintro i cs t fr (rfl | hi) e
  ·exact .inl (h.tyG e)
  ·exact .inr (row_ty h.wks.row hi e)
 have hmap:∀ i es c,(i=g.gb∨g.r.wv.ownBlock=some i)→w.heap[i]?≠some (.map es c):=by
  rintro i es c (rfl | hi) e
  ·rw [h.held.g] at e;cases e
  ·exact row_nomap h.wks.row hi e
 have hrl:∀ {rv:Value} {rl:List Rule},Rls w B rv rl→Rls w' B rv rl:=fun hr=>⟨row_stays hr.row hF (fun i cs fr hi e=>by rcases hty i cs _ fr hi e with e' | e' <;> exact absurd e' (by decide)),hr.few⟩
 have hL:=h.lists hF (fun i cs t fr hi e=>by rcases hty i cs t fr hi e with rfl | rfl <;> decide) hmap
 have hBs:B≤w.heap.size:=by have:=h.held.hB;have:=h.held.ltg;omega
 refine ⟨⟨⟨hG,hL.1,hL.2,fun x hx=>(h.grl.ok x hx).re rfl rfl⟩,wks_label hW rfl,h.lo,fun x hx=>hrl (h.irs x hx),fun x hx=>?_,fun x hx=>?_,h.pl0,h.cl0,h.zero⟩,hF.mono (fun i hi=>?_),fun i hi=>?_,rfl⟩
 ·rcases List.mem_append.1 hx with hx | hx
  ·exact hrl (h.wrs x hx)
  ·simp only [List.mem_singleton] at hx
   subst hx
   exact ⟨rowB hO hBs,may_few hq⟩
 ·rcases List.mem_append.1 hx with hx | hx
  ·exact h.wok x hx
  ·simp only [List.mem_singleton] at hx
   subst hx
   exact ⟨r1,rN,r1,rN⟩
 ·rcases hi with rfl | hi
  ·exact Gx.own_g
  ·exact Gx.own_wv hi
 ·rcases hi with hi | hi | hi | hi | hi | hi | hi | hi | ⟨x,hx,hi⟩
  ·exact .inl (.inl hi)
  ·exact .inl (.inr (.inl hi))
  ·exact .inl (Gx.own_lv hi)
  ·exact .inl (Gx.own_iv hi)
  ·exact (hv i hi).imp Gx.own_wv id
  ·exact .inl (.inr (.inr (.inr (.inr (.inr (.inl hi))))))
  ·exact .inl (.inr (.inr (.inr (.inr (.inr (.inr (.inl hi)))))))
  ·exact .inl (.inr (.inr (.inr (.inr (.inr (.inr (.inr (.inl hi))))))))
  ·rcases List.mem_append.1 hx with hx | hx
   ·exact .inl (Gx.own_wr hx hi)
   ·simp only [List.mem_singleton] at hx
    subst hx
    exact .inr (hO.lt i hi).1
def Gx.stepped (g:Gx) (i:Nat) (it:It) (back:Bool):Gx:={ g with σ:={ g.σ with its:=g.σ.its.set i { it with spot:=it.spot.stepped g.N g.σ.K (accB g.kk g.tg it.see it.rl) back } } }
theorem stepX (h:GOK B w g) (n:Int) (back:Bool) :
  Calls Tryz.prog 15 #[.pointer (some ⟨g.gb,0,none⟩),.int .i64 n,.bool back] w fun e w' =>
   ((n<1∨((g.σ.its.length:Nat):Int)<n)∧e=.returned (.tuple #[.int .i64 0,.int .i64 10])∧w'=w)∨∃ (i:Nat) (it:It),n=((i+1:Nat):Int)∧g.σ.its[i]?=some it∧e=.returned (.tuple #[.int .i64 (stepTo g.N g.σ.K (accB g.kk g.tg it.see it.rl) it.spot back:Nat),.int .i64 0])∧Post B w w' g (g.stepped i it back):=by
 rcases thing_cases n g.σ.its.length with hn | ⟨i,hi,rfl⟩
 ·obtain ⟨ao,c,hv⟩:=h.ivForm'
  have giv:w.cell? ⟨g.gb,4,none⟩=some (.slice ao g.σ.its.length c):=by rw [← hv];exact h.held.giv
  have hfew:=h.gro.its.few
  have HN:Hid (n<1∨((g.σ.its.length:Nat):Int)<n):=hn
  clear h hv hn
  go_enter Tryz.func15, Tryz.ntmps15
  go_wp2_with fail
  refine (numNilI w ao g.σ.its.length c n hfew HN.out).mono ?_
  rintro e w ⟨rfl,rfl⟩
  go_wp2_with fail
  go_ret2
  exact .inl ⟨HN.out,rfl,rfl⟩
 ·have hx:g.σ.its[i]?=some g.σ.its[i]:=List.getElem?_eq_getElem hi
  have hm:=List.mem_of_getElem? hx
  refine (stepS h.gro hx (h.irs _ hm) back).mono ?_
  rintro e w' ⟨rfl,hG,hF⟩
  refine .inr ⟨i,_,rfl,hx,rfl,?_⟩
  refine h.moved (m:=0) hG hF (g.r.like_refl 0) (fun _=>rfl) h.lo (fun x hx=>?_)
  ·rcases List.mem_or_eq_of_mem_set hx with hx | hx
   ·exact ⟨x,hx,rfl,rfl⟩
   ·subst hx;exact ⟨_,hm,rfl,rfl⟩
theorem atX (h:GOK B w g) (n:Int) :
  Calls Tryz.prog 22 #[.pointer (some ⟨g.gb,0,none⟩),.int .i64 n] w fun e w'=>Below w.heap.size w w' ∧
   (((n<1∨((g.σ.its.length:Nat):Int)<n)∧e=.returned (.tuple #[.int .i64 0,.bool false,.int .i64 10]))∨∃ (i:Nat) (it:It),n=((i+1:Nat):Int)∧g.σ.its[i]?=some it∧e=.returned (.tuple #[.int .i64 it.spot.place,.bool it.spot.ahead,.int .i64 0])):=by
 rcases thing_cases n g.σ.its.length with hn | ⟨i,hi,rfl⟩
 ·obtain ⟨ao,c,hv⟩:=h.ivForm'
  have giv:w.cell? ⟨g.gb,4,none⟩=some (.slice ao g.σ.its.length c):=by rw [← hv];exact h.held.giv
  have hfew:=h.gro.its.few
  have HN:Hid (n<1∨((g.σ.its.length:Nat):Int)<n):=hn
  clear h hv hn
  go_enter Tryz.func22, Tryz.ntmps22
  go_wp2_with fail
  refine (numNilI w ao g.σ.its.length c n hfew HN.out).mono ?_
  rintro e w ⟨rfl,rfl⟩
  go_wp2_with fail
  go_ret3
  exact ⟨Below.refl _ _,.inl ⟨HN.out,rfl⟩⟩
 ·have hx:g.σ.its[i]?=some g.σ.its[i]:=List.getElem?_eq_getElem hi
  refine (atC h.gro hx).mono ?_
  rintro e w' ⟨rfl,hb⟩
  exact ⟨hb,.inr ⟨i,_,rfl,hx,rfl⟩⟩
end
open Go.RowKit Go.Shelf Gv
theorem stNil (a:Addr) (w:World):(store a Value.nilFunc).run Tryz.prog w=stored Tryz.prog w a Value.nilFunc .plain:=run_store Tryz.prog w a _ .plain rfl
theorem stFun (f:FuncId) (a:Addr) (w:World):(store a (Value.func (Fn.func f) #[] #[])).run Tryz.prog w=stored Tryz.prog w a (Value.func (Fn.func f) #[] #[]) .plain:=run_store Tryz.prog w a _ .plain rfl
def Finds (how f:Nat):Prop:=∀ w:World,Calls Tryz.prog 84 #[.int .i64 how] w fun e w'=>e=.returned (.func (.func f) #[] #[])∧Below w.heap.size w w'
theorem finds1:Finds 1 130:=by
 intro w
 have s1:=stNil
 have s2:=stFun
 go_enter Tryz.func84, Tryz.ntmps84
 go_wp2
 go_ret
 exact ⟨rfl,(Below.refl _ _).alloc (Nat.le_refl _) _⟩
theorem finds2:Finds 2 131:=by
 intro w
 have s1:=stNil
 have s2:=stFun
 go_enter Tryz.func84, Tryz.ntmps84
 go_wp2
 go_ret
 exact ⟨rfl,(Below.refl _ _).alloc (Nat.le_refl _) _⟩
theorem finds3:Finds 3 132:=by
 intro w
 have s1:=stNil
 have s2:=stFun
 go_enter Tryz.func84, Tryz.ntmps84
 go_wp2
 go_ret
 exact ⟨rfl,(Below.refl _ _).alloc (Nat.le_refl _) _⟩
theorem finds4:Finds 4 133:=by
 intro w
 have s1:=stNil
 have s2:=stFun
 go_enter Tryz.func84, Tryz.ntmps84
 go_wp2
 go_ret
 exact ⟨rfl,(Below.refl _ _).alloc (Nat.le_refl _) _⟩
theorem finds5:Finds 5 134:=by
 intro w
 have s1:=stNil
 have s2:=stFun
 go_enter Tryz.func84, Tryz.ntmps84
 go_wp2
 go_ret
 exact ⟨rfl,(Below.refl _ _).alloc (Nat.le_refl _) _⟩
theorem finds6:Finds 6 135:=by
 intro w
 have s1:=stNil
 have s2:=stFun
 go_enter Tryz.func84, Tryz.ntmps84
 go_wp2
 go_ret
 exact ⟨rfl,(Below.refl _ _).alloc (Nat.le_refl _) _⟩
theorem finds7:Finds 7 136:=by
 intro w
 have s1:=stNil
 have s2:=stFun
 go_enter Tryz.func84, Tryz.ntmps84
 go_wp2
 go_ret
 exact ⟨rfl,(Below.refl _ _).alloc (Nat.le_refl _) _⟩
theorem findsNone (how:Int) (h:how<1∨7<how) (w:World):Calls Tryz.prog 84 #[.int .i64 how] w fun e w'=>e=.returned .nilFunc∧Below w.heap.size w w':=by
 have s1:=stNil
 have s2:=stFun
 by_cases h0:how<0
 ·have d:decide (how<0)=true:=by simpa using h0
  clear h
  go_enter Tryz.func84, Tryz.ntmps84
  go_wp2
  go_ret
  exact ⟨rfl,(Below.refl _ _).alloc (Nat.le_refl _) _⟩
 ·by_cases e0:how=0
  ·subst e0
   clear h h0
   go_enter Tryz.func84, Tryz.ntmps84
   go_wp2
   go_ret
   exact ⟨rfl,(Below.refl _ _).alloc (Nat.le_refl _) _⟩
  ·have d:decide (how<0)=false:=by simpa using h0
   have d8:(8:Int)≤how:=by omega
   clear h h0 e0
   go_enter Tryz.func84, Tryz.ntmps84
   go_wp2
   go_ret
   exact ⟨rfl,(Below.refl _ _).alloc (Nat.le_refl _) _⟩
section
variable {B:Nat} {w w':World} {gb nb cap N:Nat} {kk:Nat→Nat} {tg:Nat→ByteArray} {kd:Nat→Value} {mp:Nat→Nat} {σ:St} {r:Re} {wb o root here:Nat} {see:Int} {rv:Value} {rules:List Rule}
theorem xFirst (h:Wx B w gb nb cap N kk tg kd mp σ r wb o root see rv rules here) :
  Calls Tryz.prog 131 #[.pointer (some ⟨wb,o,none⟩),.pointer (some ⟨gb,0,none⟩)] w (Found w N (EvKid σ.s (verd kk tg see rules) root here false (kidD σ.s here false))):=by
 have HX:Hid _:=h
 clear h
 go_enter Tryz.func131, Tryz.ntmps131
 go_wp2_with fail
 refine (xKid HX.out false).mono ?_
 rintro e w1 ⟨a,rfl,ha,hR,hb⟩
 have HR:Hid _:=hR
 have HB:Hid _:=hb
 clear hR hb
 go_wp2_with fail
 go_ret
 exact ⟨a,rfl,ha,HR.out,HB.out⟩
theorem xLast (h:Wx B w gb nb cap N kk tg kd mp σ r wb o root see rv rules here) :
  Calls Tryz.prog 132 #[.pointer (some ⟨wb,o,none⟩),.pointer (some ⟨gb,0,none⟩)] w (Found w N (EvKid σ.s (verd kk tg see rules) root here true (kidD σ.s here true))):=by
 have HX:Hid _:=h
 clear h
 go_enter Tryz.func132, Tryz.ntmps132
 go_wp2_with fail
 refine (xKid HX.out true).mono ?_
 rintro e w1 ⟨a,rfl,ha,hR,hb⟩
 have HR:Hid _:=hR
 have HB:Hid _:=hb
 clear hR hb
 go_wp2_with fail
 go_ret
 exact ⟨a,rfl,ha,HR.out,HB.out⟩
theorem xPrev (h:Wx B w gb nb cap N kk tg kd mp σ r wb o root see rv rules here) :
  Calls Tryz.prog 133 #[.pointer (some ⟨wb,o,none⟩),.pointer (some ⟨gb,0,none⟩)] w (Found w N (SibGoal σ.s (verd kk tg see rules) root here true)):=by
 have HX:Hid _:=h
 clear h
 go_enter Tryz.func133, Tryz.ntmps133
 go_wp2_with fail
 refine (xSib HX.out true).mono ?_
 rintro e w1 ⟨a,rfl,ha,hR,hb⟩
 have HR:Hid _:=hR
 have HB:Hid _:=hb
 clear hR hb
 go_wp2_with fail
 go_ret
 exact ⟨a,rfl,ha,HR.out,HB.out⟩
theorem xNext (h:Wx B w gb nb cap N kk tg kd mp σ r wb o root see rv rules here) :
  Calls Tryz.prog 134 #[.pointer (some ⟨wb,o,none⟩),.pointer (some ⟨gb,0,none⟩)] w (Found w N (SibGoal σ.s (verd kk tg see rules) root here false)):=by
 have HX:Hid _:=h
 clear h
 go_enter Tryz.func134, Tryz.ntmps134
 go_wp2_with fail
 refine (xSib HX.out false).mono ?_
 rintro e w1 ⟨a,rfl,ha,hR,hb⟩
 have HR:Hid _:=hR
 have HB:Hid _:=hb
 clear hR hb
 go_wp2_with fail
 go_ret
 exact ⟨a,rfl,ha,HR.out,HB.out⟩
theorem xMove {how f:Nat} {R:Nat→Prop} (hf:Finds how f) (hcf:∀ w:World,(callFunc f #[.pointer (some ⟨wb,o,none⟩),.pointer (some ⟨gb,0,none⟩)]).run Tryz.prog w=.ok (.enter f #[.pointer (some ⟨wb,o,none⟩),.pointer (some ⟨gb,0,none⟩)]) w) (h:Wx B w gb nb cap N kk tg kd mp σ r wb o root see rv rules here) (hfr:∀ w':World,Below w.heap.size w w'→w'.frozen? ⟨wb,o+3,none⟩=false)
  (hm:∀ w1:World,Wx B w1 gb nb cap N kk tg kd mp σ r wb o root see rv rules here→Calls Tryz.prog f #[.pointer (some ⟨wb,o,none⟩),.pointer (some ⟨gb,0,none⟩)] w1 (Found w1 N R)) :
  Calls Tryz.prog 48 #[.pointer (some ⟨wb,o,none⟩),.pointer (some ⟨gb,0,none⟩),.int .i64 how] w fun e w'=>∃ (a:Nat) (w1:World),e=.returned (.tuple #[.int .i64 a,.int .i64 0])∧a≤N∧R a∧Below w.heap.size w w1∧((a=0∧w'=w1)∨(a≠0∧w'=w1.setCell ⟨wb,o+3,none⟩ (.int .i64 a))):=by
 have HF:Hid (Finds how f):=hf
 have HX:Hid (Wx B w gb nb cap N kk tg kd mp σ r wb o root see rv rules here):=h
 have HFr:Hid (∀ w':World,Below w.heap.size w w'→w'.frozen? ⟨wb,o+3,none⟩=false):=hfr
 have HM:Hid _:=hm
 have he:∀ w:World,(binOp BinOp.eql 139 (.func (.func f) #[] #[]) .nilFunc).run Tryz.prog w=.ok (.bool false) w:=fun _=>by kernel_rfl
 clear hf h hfr hm
 go_enter Tryz.func48, Tryz.ntmps48
 go_wp2_with fail
 refine (HF.out w).mono ?_
 rintro e w1 ⟨rfl,hb1⟩
 have HB1:Hid (Below w.heap.size w w1):=hb1
 clear hb1
 go_wp2_with fail
 refine (HM.out w1 (HX.out.since HB1.out)).mono ?_
 rintro e w2 ⟨a,rfl,haN,hR,hb2⟩
 have HB2:Hid (Below w.heap.size w w2):=HB1.out.trans (hb2.mono HB1.out.size)
 have HR:Hid (R a):=hR
 clear hb2 hR
 by_cases hx0:a=0
 ·have hx0':((a:Int) != 0)=false:=by simp [hx0]
  have HA:Hid (a=0):=hx0
  clear hx0
  go_wp2_with fail
  go_ret2
  exact ⟨a,w2,rfl,haN,HR.out,HB2.out,.inl ⟨HA.out,rfl⟩⟩
 ·have hx0':((a:Int) != 0)=true:=by simp;omega
  have HA:Hid (a≠0):=hx0
  have q3:=(HX.out.since HB2.out).wc.c3
  have f3:=HFr.out w2 HB2.out
  clear hx0
  go_wp2_with fail
  go_ret2
  exact ⟨a,w2,rfl,haN,HR.out,HB2.out,.inr ⟨HA.out,rfl⟩⟩
end
section
variable {B:Nat} {w w':World} {g g':Gx}
theorem GOK.wx (h:GOK B w g) {i:Nat} {x:Wk} (hi:g.ws[i]?=some x):∃ wb wc,g.r.wv=.slice (some ⟨wb,0,none⟩) g.ws.length wc∧Wx B w g.gb g.nb g.cap g.N g.kk g.tg g.kd g.mp g.σ g.r wb (i*4) x.root x.see x.rules x.rl x.here:=by
 have hl:i<g.ws.length:=(List.getElem?_eq_some_iff.1 hi).1
 have hm:=List.mem_of_getElem? hi
 rcases row_form h.wks.row with ⟨_,hn⟩ | ⟨wb,wc,hv,hb,hs,_,_⟩
 ·omega
 ·have hw:=h.wks
  rw [hv] at hw
  obtain ⟨k1,k2,k3,k4⟩:=h.wok x hm
  exact ⟨wb,wc,hv,h.gro,⟨hw.cellAt (j:=0) hi (by omega),hw.cellAt (j:=1) hi (by omega),hw.cellAt (j:=2) hi (by omega),hw.cellAt (j:=3) hi (by omega),hs⟩,h.wrs x hm,h.lo,k3,k4,k1,k2⟩
def Gx.went (g:Gx) (i:Nat) (x:Wk) (a:Nat):Gx:={ g with ws:=g.ws.set i { x with here:=a } }
theorem GOK.wv_ty (h:GOK B w g) {i:Nat} (hi:g.r.wv.ownBlock=some i) {cs:Array Value} {t:TypeId} {fr:Nat × Nat} (e:w.heap[i]?=some (.cells cs t fr)):t=88:=row_ty h.wks.row hi e
theorem GOK.goes (h:GOK B w g) {i wb wc:Nat} {x:Wk} (hi:g.ws[i]?=some x) (hv:g.r.wv=.slice (some ⟨wb,0,none⟩) g.ws.length wc) (a:Nat) (h1:1≤a) (hN:a≤g.N):Post B w (w.setCell ⟨wb,i*4+3,none⟩ (.int .i64 a)) g (g.went i x a):=by
 have hbl:g.r.wv.ownBlock=some wb:=by rw [hv];rfl
 have hF:Fr (fun j=>g.r.wv.ownBlock=some j) w (w.setCell ⟨wb,i*4+3,none⟩ (.int .i64 a)):=(Fr.refl _ _).setCell hbl _
 obtain ⟨cur,hn,_⟩:=h.held.block
 have hrl:∀ {rv:Value} {rl:List Rule},Rls w B rv rl→Rls (w.setCell ⟨wb,i*4+3,none⟩ (.int .i64 a)) B rv rl:=fun hr=>⟨row_stays hr.row hF (fun i cs fr hi e=>absurd (h.wv_ty hi e) (by decide)),hr.few⟩
 have hL:=h.lists hF (fun i cs t fr hi e=>by rw [h.wv_ty hi e];decide) (fun i es c hi=>row_nomap h.wks.row hi)
 have hw:=h.wks
 rw [hv] at hw
 have hst:=hw.store (i:=i) (j:=3) (wk':={ x with here:=a }) (v:=.int .i64 a) hi (by omega) rfl
 have hm:=List.mem_of_getElem? hi
 refine ⟨⟨⟨⟨h.held.fr hF (row_apart h.wks.row h.held.g (by decide)) (row_apart h.wks.row hn (by decide)),h.wf,h.gro.kinds,⟨row_stays h.gro.its.row hF (fun i cs fr hi e=>absurd (h.wv_ty hi e) (by decide)),h.gro.its.few⟩,h.gro.sound,fun m m1 m2 m3=>(h.gro.els m m1 m2 m3).fr hF (fun i cs fr hi e=>absurd (h.wv_ty hi e) (by decide))⟩,hL.1,hL.2,h.grl.ok⟩,?_,h.lo,fun x hx=>hrl (h.irs x hx),fun y hy=>?_,fun y hy=>?_,h.pl0,h.cl0,h.zero⟩,hF.mono (fun i hi=>Gx.own_wv hi),fun j hj=>.inl ?_,rfl⟩
 ·show Wks _ B g.r.wv (g.ws.set i { x with here:=a })
  rw [hv];exact hst
 ·rcases List.mem_or_eq_of_mem_set hy with hy | hy
  ·exact hrl (h.wrs y hy)
  ·subst hy;exact hrl (h.wrs x hm)
 ·rcases List.mem_or_eq_of_mem_set hy with hy | hy
  ·exact h.wok y hy
  ·subst hy
   have:=h.wok x hm
   exact ⟨this.1,this.2.1,h1,hN⟩
 ·rcases hj with hj | hj | hj | hj | hj | hj | hj | hj | ⟨y,hy,hj⟩
  ·exact .inl hj
  ·exact .inr (.inl hj)
  ·exact Gx.own_lv hj
  ·exact Gx.own_iv hj
  ·exact Gx.own_wv hj
  ·exact .inr (.inr (.inr (.inr (.inr (.inl hj)))))
  ·exact .inr (.inr (.inr (.inr (.inr (.inr (.inl hj))))))
  ·exact .inr (.inr (.inr (.inr (.inr (.inr (.inr (.inl hj)))))))
  ·rcases List.mem_or_eq_of_mem_set hy with hy | hy
   ·exact Gx.own_wr hy hj
   ·subst hy;exact Gx.own_wr hm hj
def Gx.says (g:Gx) (x:Wk):Nat→Int:=verd g.kk g.tg x.see x.rl
theorem moveW (h:GOK B w g) {i wb wc:Nat} {x:Wk} (hi:g.ws[i]?=some x) (hv:g.r.wv=.slice (some ⟨wb,0,none⟩) g.ws.length wc) (hx:Wx B w g.gb g.nb g.cap g.N g.kk g.tg g.kd g.mp g.σ g.r wb (i*4) x.root x.see x.rules x.rl x.here) (how:Nat) (h1:1≤how) (h7:how≤7) :
  Calls Tryz.prog 48 #[.pointer (some ⟨wb,i*4,none⟩),.pointer (some ⟨g.gb,0,none⟩),.int .i64 how] w fun e w'=>∃ (a:Nat) (w1:World),e=.returned (.tuple #[.int .i64 a,.int .i64 0])∧a≤g.N∧MoveTo g.N g.σ.s (g.says x) x.root x.here how a∧Below w.heap.size w w1∧((a=0∧w'=w1)∨(a≠0∧w'=w1.setCell ⟨wb,i*4+3,none⟩ (.int .i64 a))):=by
 have hfr:∀ w':World,Below w.heap.size w w'→w'.frozen? ⟨wb,i*4+3,none⟩=false:=fun w' hb=>by have:=h.wks.since hb;rw [hv] at this;exact this.free _
 obtain rfl | rfl | rfl | rfl | rfl | rfl | rfl:how=1∨how=2∨how=3∨how=4∨how=5∨how=6∨how=7:=by omega
 ·exact (xMove finds1 (fun _=>by kernel_rfl) hx hfr (fun w1 h1=>xParent h1)).mono fun e w' ⟨a,w1,e1,e2,e3,e4⟩=>⟨a,w1,e1,e2,.inl ⟨rfl,e3⟩,e4⟩
 ·exact (xMove finds2 (fun _=>by kernel_rfl) hx hfr (fun w1 h1=>xFirst h1)).mono fun e w' ⟨a,w1,e1,e2,e3,e4⟩=>⟨a,w1,e1,e2,.inr (.inl ⟨rfl,e3⟩),e4⟩
 ·exact (xMove finds3 (fun _=>by kernel_rfl) hx hfr (fun w1 h1=>xLast h1)).mono fun e w' ⟨a,w1,e1,e2,e3,e4⟩=>⟨a,w1,e1,e2,.inr (.inr (.inl ⟨rfl,e3⟩)),e4⟩
 ·exact (xMove finds4 (fun _=>by kernel_rfl) hx hfr (fun w1 h1=>xPrev h1)).mono fun e w' ⟨a,w1,e1,e2,e3,e4⟩=>⟨a,w1,e1,e2,.inr (.inr (.inr (.inl ⟨rfl,e3⟩))),e4⟩
 ·exact (xMove finds5 (fun _=>by kernel_rfl) hx hfr (fun w1 h1=>xNext h1)).mono fun e w' ⟨a,w1,e1,e2,e3,e4⟩=>⟨a,w1,e1,e2,.inr (.inr (.inr (.inr (.inl ⟨rfl,e3⟩)))),e4⟩
 ·exact (xMove finds6 (fun _=>by kernel_rfl) hx hfr (fun w1 h1=>xBack h1)).mono fun e w' ⟨a,w1,e1,e2,e3,e4⟩=>⟨a,w1,e1,e2,.inr (.inr (.inr (.inr (.inr (.inl ⟨rfl,e3⟩))))),e4⟩
 ·exact (xMove finds7 (fun _=>by kernel_rfl) hx hfr (fun w1 h1=>xOn h1)).mono fun e w' ⟨a,w1,e1,e2,e3,e4⟩=>⟨a,w1,e1,e2,.inr (.inr (.inr (.inr (.inr (.inr ⟨rfl,e3⟩))))),e4⟩
theorem moveNone (wb o gb:Nat) (how:Int) (h:how<1∨7<how) (w:World) :
  Calls Tryz.prog 48 #[.pointer (some ⟨wb,o,none⟩),.pointer (some ⟨gb,0,none⟩),.int .i64 how] w fun e w'=>e=.returned (.tuple #[.int .i64 0,.int .i64 1])∧Below w.heap.size w w':=by
 have HF:Hid _:=findsNone how h w
 have he:∀ w:World,(binOp BinOp.eql 139 .nilFunc .nilFunc).run Tryz.prog w=.ok (.bool true) w:=fun _=>by kernel_rfl
 clear h
 go_enter Tryz.func48, Tryz.ntmps48
 go_wp2_with fail
 refine Calls.mono HF.out ?_
 rintro e w1 ⟨rfl,hb1⟩
 have HB1:Hid (Below w.heap.size w w1):=hb1
 clear hb1 HF
 go_wp2_with fail
 go_ret2
 exact ⟨rfl,HB1.out⟩
def Gx.moved (g:Gx) (i:Nat) (x:Wk) (a:Nat):Gx:=if a=0 then g else g.went i x a
theorem moveX (h:GOK B w g) (n how:Int) :
  Calls Tryz.prog 16 #[.pointer (some ⟨g.gb,0,none⟩),.int .i64 n,.int .i64 how] w fun e w' =>
   ((n<1∨((g.ws.length:Nat):Int)<n)∧e=.returned (.tuple #[.int .i64 0,.int .i64 10])∧w'=w) ∨
   (¬ (n<1∨((g.ws.length:Nat):Int)<n)∧(how<1∨7<how)∧e=.returned (.tuple #[.int .i64 0,.int .i64 1])∧Below w.heap.size w w') ∨
   ∃ (i k a:Nat) (x:Wk),n=((i+1:Nat):Int)∧how=k∧1≤k∧k≤7∧g.ws[i]?=some x∧e=.returned (.tuple #[.int .i64 a,.int .i64 0])∧a≤g.N∧MoveTo g.N g.σ.s (g.says x) x.root x.here k a∧Post B w w' g (g.moved i x a):=by
 rcases thing_cases n g.ws.length with hn | ⟨i,hi,rfl⟩
 ·obtain ⟨ao,c,hv⟩:=h.wvForm
  have gwv:w.cell? ⟨g.gb,5,none⟩=some (.slice ao g.ws.length c):=by rw [← hv];exact h.held.gwv
  have hfew:=h.wks.few
  have HN:Hid (n<1∨((g.ws.length:Nat):Int)<n):=hn
  clear h hv hn
  go_enter Tryz.func16, Tryz.ntmps16
  go_wp2_with fail
  refine (numNilW w ao g.ws.length c n hfew HN.out).mono ?_
  rintro e w ⟨rfl,rfl⟩
  go_wp2_with fail
  go_ret2
  exact .inl ⟨HN.out,rfl,rfl⟩
 ·have hx:g.ws[i]?=some g.ws[i]:=List.getElem?_eq_getElem hi
  obtain ⟨wb,wc,hv,hX⟩:=h.wx hx
  have gwv:w.cell? ⟨g.gb,5,none⟩=some (.slice (some ⟨wb,0,none⟩) g.ws.length wc):=by rw [← hv];exact h.held.gwv
  have hfew:=h.wks.few
  have HG:Hid (GOK B w g):=h
  have HX:Hid (g.ws[i]?=some g.ws[i]):=hx
  have HV:Hid (g.r.wv=.slice (some ⟨wb,0,none⟩) g.ws.length wc):=hv
  have HW:Hid _:=hX
  clear h hx hv hX
  generalize g.ws[i]=x at *
  by_cases hh:how<1∨7<how
  ·have HH:Hid (how<1∨7<how):=hh
   clear hh
   go_enter Tryz.func16, Tryz.ntmps16
   go_wp2_with fail
   refine (numAtW w wb g.ws.length wc (i+1) hfew (by omega) (by omega)).mono ?_
   rintro e w ⟨rfl,rfl⟩
   rw [Nat.add_sub_cancel]
   go_wp2_with fail
   refine (moveNone wb (i*4) g.gb how HH.out _).mono ?_
   rintro e w1 ⟨rfl,hb1⟩
   have HB1:Hid _:=hb1
   clear hb1
   go_wp2_with fail
   go_ret2
   exact .inr (.inl ⟨by omega,HH.out,rfl,HB1.out⟩)
  ·obtain ⟨k,rfl⟩:=Int.eq_ofNat_of_zero_le (show 0≤how by omega)
   have k1:1≤k:=by omega
   have k7:k≤7:=by omega
   clear hh
   go_enter Tryz.func16, Tryz.ntmps16
   go_wp2_with fail
   refine (numAtW w wb g.ws.length wc (i+1) hfew (by omega) (by omega)).mono ?_
   rintro e w ⟨rfl,rfl⟩
   rw [Nat.add_sub_cancel]
   go_wp2_with fail
   refine (moveW HG.out HX.out HV.out HW.out k k1 k7).mono ?_
   rintro e w2 ⟨a,w1,rfl,haN,hR,hb1,hcase⟩
   have HB1:Hid (Below w.heap.size w w1):=hb1
   have HR:Hid _:=hR
   have HCa:Hid ((a=0∧w2=w1)∨(a≠0∧w2=w1.setCell ⟨wb,i*4+3,none⟩ (.int .i64 a))):=hcase
   clear hb1 hcase hR
   go_wp2_with fail
   go_ret2
   refine .inr (.inr ⟨i,k,a,x,rfl,rfl,k1,k7,HX.out,rfl,haN,HR.out,?_⟩)
   have hP1:=Post.of_below HG.out HB1.out
   rcases HCa.out with ⟨h0,rfl⟩ | ⟨h0,rfl⟩
   ·unfold Gx.moved;rw [if_pos h0];exact hP1
   ·unfold Gx.moved;rw [if_neg h0]
    exact hP1.trans (hP1.ok.goes HX.out HV.out a (by omega) haN)
theorem hereX (h:GOK B w g) (n:Int) :
  Calls Tryz.prog 23 #[.pointer (some ⟨g.gb,0,none⟩),.int .i64 n] w fun e w'=>w'=w ∧
   (((n<1∨((g.ws.length:Nat):Int)<n)∧e=.returned (.tuple #[.int .i64 0,.int .i64 10]))∨∃ (i:Nat) (x:Wk),n=((i+1:Nat):Int)∧g.ws[i]?=some x∧e=.returned (.tuple #[.int .i64 x.here,.int .i64 0])):=by
 rcases thing_cases n g.ws.length with hn | ⟨i,hi,rfl⟩
 ·obtain ⟨ao,c,hv⟩:=h.wvForm
  have gwv:w.cell? ⟨g.gb,5,none⟩=some (.slice ao g.ws.length c):=by rw [← hv];exact h.held.gwv
  have hfew:=h.wks.few
  have HN:Hid (n<1∨((g.ws.length:Nat):Int)<n):=hn
  clear h hv hn
  go_enter Tryz.func23, Tryz.ntmps23
  go_wp2_with fail
  refine (numNilW w ao g.ws.length c n hfew HN.out).mono ?_
  rintro e w ⟨rfl,rfl⟩
  go_wp2_with fail
  go_ret2
  exact ⟨rfl,.inl ⟨HN.out,rfl⟩⟩
 ·have hx:g.ws[i]?=some g.ws[i]:=List.getElem?_eq_getElem hi
  obtain ⟨wb,wc,hv,hX⟩:=h.wx hx
  have gwv:w.cell? ⟨g.gb,5,none⟩=some (.slice (some ⟨wb,0,none⟩) g.ws.length wc):=by rw [← hv];exact h.held.gwv
  have hfew:=h.wks.few
  have c3:=hX.wc.c3
  have HX:Hid (g.ws[i]?=some g.ws[i]):=hx
  clear h hx hv hX
  generalize g.ws[i]=x at *
  go_enter Tryz.func23, Tryz.ntmps23
  go_wp2_with fail
  refine (numAtW w wb g.ws.length wc (i+1) hfew (by omega) (by omega)).mono ?_
  rintro e w ⟨rfl,rfl⟩
  rw [Nat.add_sub_cancel]
  go_wp2
  go_ret2
  exact ⟨rfl,.inr ⟨i,x,rfl,HX.out,rfl⟩⟩
theorem goX (h:GOK B w g) (n m:Int) :
  Calls Tryz.prog 115 #[.pointer (some ⟨g.gb,0,none⟩),.int .i64 n,.int .i64 m] w fun e w' =>
   ((n<1∨((g.ws.length:Nat):Int)<n)∧e=.returned (.int .i64 10)∧w'=w)∨(¬ (n<1∨((g.ws.length:Nat):Int)<n)∧hasB (g.N+1) m=false∧e=.returned (.int .i64 5)∧w'=w) ∨
   ∃ (i k:Nat) (x:Wk),n=((i+1:Nat):Int)∧m=k∧1≤k∧k≤g.N∧g.ws[i]?=some x∧e=.returned (.int .i64 0)∧Post B w w' g (g.went i x k):=by
 rcases thing_cases n g.ws.length with hn | ⟨i,hi,rfl⟩
 ·obtain ⟨ao,c,hv⟩:=h.wvForm
  have gwv:w.cell? ⟨g.gb,5,none⟩=some (.slice ao g.ws.length c):=by rw [← hv];exact h.held.gwv
  have hfew:=h.wks.few
  have HN:Hid (n<1∨((g.ws.length:Nat):Int)<n):=hn
  clear h hv hn
  go_enter Tryz.func115, Tryz.ntmps115
  go_wp2_with fail
  refine (numNilW w ao g.ws.length c n hfew HN.out).mono ?_
  rintro e w ⟨rfl,rfl⟩
  go_wp2_with fail
  go_ret
  exact .inl ⟨HN.out,rfl,rfl⟩
 ·have hx:g.ws[i]?=some g.ws[i]:=List.getElem?_eq_getElem hi
  obtain ⟨wb,wc,hv,hX⟩:=h.wx hx
  have gwv:w.cell? ⟨g.gb,5,none⟩=some (.slice (some ⟨wb,0,none⟩) g.ws.length wc):=by rw [← hv];exact h.held.gwv
  have hfew:=h.wks.few
  have c3:=hX.wc.c3
  have hfz:w.frozen? ⟨wb,i*4+3,none⟩=false:=by have:=h.wks;rw [hv] at this;exact this.free _
  have HG:Hid (GOK B w g):=h
  have HX:Hid (g.ws[i]?=some g.ws[i]):=hx
  have HV:Hid (g.r.wv=.slice (some ⟨wb,0,none⟩) g.ws.length wc):=hv
  clear h hx hv hX
  generalize g.ws[i]=x at *
  cases hb:hasB (g.N+1) m with
  | false =>
   go_enter Tryz.func115, Tryz.ntmps115
   go_wp2_with fail
   refine (numAtW w wb g.ws.length wc (i+1) hfew (by omega) (by omega)).mono ?_
   rintro e w ⟨rfl,rfl⟩
   rw [Nat.add_sub_cancel]
   go_wp2_with fail
   refine (hasF HG.out.held m).mono ?_
   rintro e w ⟨rfl,rfl⟩
   rw [hb]
   go_wp2_with fail
   go_ret
   exact .inr (.inl ⟨by omega,trivial,rfl,rfl⟩)
  | true =>
   obtain ⟨k,rfl,k1,kN⟩:=has_nat hb
   go_enter Tryz.func115, Tryz.ntmps115
   go_wp2_with fail
   refine (numAtW w wb g.ws.length wc (i+1) hfew (by omega) (by omega)).mono ?_
   rintro e w ⟨rfl,rfl⟩
   rw [Nat.add_sub_cancel]
   go_wp2_with fail
   refine (hasF HG.out.held k).mono ?_
   rintro e w ⟨rfl,rfl⟩
   rw [hb]
   go_wp2
   go_end0
   go_wp2
   go_ret
   exact .inr (.inr ⟨i,k,x,rfl,rfl,k1,kN,HX.out,rfl,HG.out.goes HX.out HV.out k k1 kN⟩)
end
end Go.Proofs.YtcedebpoihcbdaaGreatDoor
