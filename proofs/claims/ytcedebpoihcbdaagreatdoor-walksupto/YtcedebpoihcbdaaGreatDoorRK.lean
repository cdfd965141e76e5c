/-
  The document's own answer: a walker more.
  The document's own answer: a walker: kid, beside, what its filter says.
  The document's own answer: a walker's moves up and under.
-/
import Derived.Test.YtcedebpoihcbdaaGreatDoorRJ
set_option linter.unusedVariables false
set_option maxHeartbeats 4000000
set_option maxRecDepth 100000
namespace Go.Proofs.YtcedebpoihcbdaaGreatDoor
open Go.RowKit Go.Shelf Gv
theorem Tryz.info210:(Tryz.prog.info? 210).map (fun i=>(i.zero,i.size,i.bytes))=some (some (.agg #[.int .i64 0,.int .i64 0,.slice none 0 0,.int .i64 0]),4,48):=by kernel_rfl
theorem step_rwalk_append {ops:Array Oper} {o:Oper} {a:Act} {w:World} {K:Act→World→Prop} {Q:Exit→Act→World→Prop} {E:Prop} {n icap:Nat} {iao:Option Addr} {cs:List Value} {x:Wk}
  (hgd:o.guard=none) (s y:Operand) (ho:o.op=.call { callee:=.builtin .append,args:=#[s,y],argTypes:=#[115,115] })
  (hs:a.eval s=.slice iao n icap) (hx:a.eval y=.slice (some ⟨w.heap.size,0,none⟩) 1 1) (hrv:x.rules.oneCell'=true)
  (hown:w.ownsRow 0 210 4 (.slice iao n icap) n cs) (h50:n≤50)
  (hK:∀ g cap w',w'.ownsRow 0 210 4 (.slice (some ⟨g,0,none⟩) (n+1) cap) (n+1) (cs++x.row) →
    World.grownBy (w.alloc (.cells x.row.toArray 210)).drew w' (Value.slice iao n icap).ownBlock→((Value.slice iao n icap).ownBlock=some g∨g=w.heap.size+1)→g<w'.heap.size→K (a.put o.dst (.slice (some ⟨g,0,none⟩) (n+1) cap)) w') :
  if Region.wanted o (yielded ops a.tmps)=true then Oper.wp Tryz.prog o a (w.alloc (.cells x.row.toArray 210)).drew K Q else E:=by
 obtain ⟨i0,hi,hz0,hz1,hz2⟩:=info_parts Tryz.info210
 have hal:Below w.heap.size w (w.alloc (.cells x.row.toArray 210)).drew:=((Below.refl _ w).alloc (Nat.le_refl _) _).drew
 refine step_append_lies _ hgd s y 115 ho 0 210 i0 _ 4 48 Tryz.underlying115 hi hz0 hz1 hz2 rfl (by decide) (.slice iao n icap) n cs hs (ownsRow_since hown hal) ⟨w.heap.size,0,none⟩ 1 1 x.row hx rfl ?_ (by intro u hu;simp only [Wk.row,List.mem_cons,List.not_mem_nil,or_false] at hu;rcases hu with rfl | rfl | rfl | rfl <;> first | rfl | exact hrv) (by omega) (by unfold maxLen;omega) (by omega) (by simp) (w.heap.size+1) (by simp) hK
 intro j u hj
 have e:(⟨w.heap.size,0,none⟩:Addr).add j=⟨w.heap.size,j,none⟩:=by unfold Addr.add;split <;> simp_all
 rw [e]
 have hb:(w.alloc (.cells x.row.toArray 210)).drew.heap[w.heap.size]?=some (.cells x.row.toArray 210 (0,0)):=heap_alloc_new w (.cells x.row.toArray 210)
 rw [cells_of hb j]
 simpa using hj
def Rx.walked (r:Rx) (x:Wk) (v:Value):Rx:={ r with qv:=v,ql:=r.ql++[x] }
theorem walked_end {w w3 w3':World} {r:Rx} {g cap:Nat} {x:Wk} (h:RefOK w r) (hal:Below w.heap.size w w3') (hown:w3.ownsRow 0 210 4 (.slice (some ⟨g,0,none⟩) (r.ql.length+1) cap) (r.ql.length+1) (r.ql.flatMap Wk.row++x.row))
  (hgrow:World.grownBy w3' w3 r.qv.ownBlock) (hat:r.qv.ownBlock=some g∨w.heap.size≤g) (h50:r.ql.length<50) (hrl:w3'.ownsRow w.heap.size 207 2 x.rules x.rl.length (x.rl.flatMap rrow)) (h10:x.rl.length≤10) :
  RPost w (w3.setCell ⟨r.rb,3,none⟩ (.slice (some ⟨g,0,none⟩) (r.ql.length+1) cap)) r (r.walked x (.slice (some ⟨g,0,none⟩) (r.ql.length+1) cap)):=by
 have hk3:∀ b,b<w.heap.size→r.qv.ownBlock≠some b→w3.heap[b]?=w.heap[b]?:=fun b hb hne=>(hgrow.block b (Nat.lt_of_lt_of_le hb hal.size) (fun e=>hne e.symm)).trans (hal.block b hb)
 have hs3:w.heap.size≤w3.heap.size:=Nat.le_trans hal.size hgrow.size
 have hg3:w3.heap[r.rb]?=some (.cells #[.slice (some ⟨r.rn,0,none⟩) (r.N+1) r.cap,r.wv,r.iv,r.qv] 117 (0,0)):=(hk3 _ h.ltb (row_ne h.wks h.g (by decide))).trans h.g
 have hgb:g≠r.rb:=fun e=>row_ne hown hg3 (by decide) (by rw [← e];rfl)
 have hk:∀ (b:Nat) (cs:Array Value) (ty:TypeId),w.heap[b]?=some (.cells cs ty (0,0))→(ty≠210∧ty≠117)→(w3.setCell ⟨r.rb,3,none⟩ (.slice (some ⟨g,0,none⟩) (r.ql.length+1) cap)).heap[b]?=w.heap[b]?:=by
  intro b cs ty hb ht
  rw [heap_setCell_other _ _ _ _ (fun e=>?_)]
  ·exact hk3 b (lt_of_block hb) (row_ne h.wks hb ht.1)
  ·have hb':=h.g
   have e':b=r.rb:=e
   rw [← e',hb] at hb';simp at hb';exact ht.2 hb'.2
 have hrl3:(w3.setCell ⟨r.rb,3,none⟩ (.slice (some ⟨g,0,none⟩) (r.ql.length+1) cap)).ownsRow 0 207 2 x.rules x.rl.length (x.rl.flatMap rrow):=by
  refine rowB (row_keep hrl (fun b hb=>?_)) (Nat.zero_le _)
  have hl:=hrl.lt b hb
  have hlb:=h.ltb
  rw [heap_setCell_other _ _ _ _ (show b≠r.rb by omega)]
  exact hgrow.block b hl.2 (fun e=>by have:=(h.wks.lt b e.symm).2;omega)
 obtain ⟨_,p2,p3,p4,p5,p6,p7,p8,p9⟩:=h.part (ok:=fun ty=>ty≠210∧ty≠117) hk
 have hrow:World.ownsRow (w3.setCell ⟨r.rb,3,none⟩ (.slice (some ⟨g,0,none⟩) (r.ql.length+1) cap)) 0 210 4 (.slice (some ⟨g,0,none⟩) (r.ql.length+1) cap) (r.ql++[x]).length ((r.ql++[x]).flatMap Wk.row):=by
  rw [List.length_append,List.flatMap_append]
  have:=ownsRow_setCell_other (a:=⟨r.rb,3,none⟩) hown (by simp [Value.ownBlock];exact hgb) (.slice (some ⟨g,0,none⟩) (r.ql.length+1) cap)
  simpa using this
 have hfew:(r.ql++[x]).length≤50:=by rw [List.length_append];simp;omega
 have hrls:∀ y,y∈r.ql++[x]→(w3.setCell ⟨r.rb,3,none⟩ (.slice (some ⟨g,0,none⟩) (r.ql.length+1) cap)).ownsRow 0 207 2 y.rules y.rl.length (y.rl.flatMap rrow)∧y.rl.length≤10:=fun y hy=>by
  rcases mem_snoc hy with hy | rfl
  ·exact p9 (by decide) y hy
  ·exact ⟨hrl3,h10⟩
 refine ⟨⟨?_,p2 (by decide),h.hN,p3 (by decide),h.few,p4 (by decide),h.afew,h.hT,h.nd,p5 (by decide),h.wfew,p6 (by decide),h.ifew,p7 (by decide),hrow,hfew,hrls⟩,?_,fun i hi=>?_,rfl⟩
 ·exact heap_setCell_same w3 r.rb 3 _ _ _ hg3
 ·have f1:Fr r.own w w3:=⟨hgrow.os.trans hal.os,hgrow.tape.trans hal.tape,hgrow.output.trans hal.output,hs3,fun i hi hn=>hk3 i hi (fun e=>hn (Rx.own_q e))⟩
  exact f1.setCell (p:=⟨r.rb,3,none⟩) Rx.own_b _
 ·rcases hi with hi | hi | ⟨j,hj,hi⟩ | ⟨j,hj,hi⟩ | hi | hi | hi | ⟨y,hy,hi⟩ | ⟨y,hy,hi⟩
  ·exact .inl (.inl hi)
  ·exact .inl (.inr (.inl hi))
  ·exact .inl (Rx.own_k hj hi)
  ·exact .inl (Rx.own_a hj hi)
  ·exact .inl (Rx.own_w hi)
  ·exact .inl (Rx.own_i hi)
  ·have hi':g=i:=by simpa [Rx.walked,Value.ownBlock] using hi
   subst hi'
   exact hat.imp Rx.own_q id
  ·exact .inl (Rx.own_ir hy hi)
  ·rcases mem_snoc hy with hy | rfl
   ·exact .inl (Rx.own_qr hy hi)
   ·exact .inr (hrl.lt i hi).1
def WalkerPost (w:World) (r:Rx) (root see:Int) (rs:List Rule) (e:Ending) (w':World):Prop :=
 (mayErr r.N root see rs r.ql.length≠0∧e=.returned (.tuple #[.int .i64 0,.int .i64 (mayErr r.N root see rs r.ql.length)])∧Below w.heap.size w w') ∨
 (mayErr r.N root see rs r.ql.length=0∧∃ (m:Nat) (v rv:Value),root=m∧1≤m∧m≤r.N∧e=.returned (.tuple #[.int .i64 (r.ql.length+1:Nat),.int .i64 0])∧RPost w w' r (r.walked (Wk.made m see rv rs) v))
theorem WalkerPost.err {w w':World} {r:Rx} {root see q:Int} {rs:List Rule} (h:mayErr r.N root see rs r.ql.length=q) (hq:q≠0) (hb:Below w.heap.size w w'):WalkerPost w r root see rs (.returned (.tuple #[.int .i64 0,.int .i64 q])) w':=.inl ⟨by rw [h];exact hq,by rw [h],hb⟩
section
variable {w w' W:World} {r:Rx}
theorem refWalker {D:Nat} (h:RefOK w r) (root see:Int) (rs:List Rule) (ao:Option Addr) (c:Nat) (hR:w.ownsRow D 207 2 (.slice ao rs.length c) rs.length (rs.flatMap rrow)) (hl:rs.length≤10000000) (hs:∀ x,x∈rs→x.1.size≤maxLen) :
  Calls Tryz.prog 112 #[.pointer (some ⟨r.rb,0,none⟩),.int .i64 root,.int .i64 see,.slice ao rs.length c] w (WalkerPost w r root see rs):=by
 have HH:Hid (RefOK w r):=h
 have HFI:Hid (Calls Tryz.prog 156 #[.pointer (some ⟨r.rb,0,none⟩),.int .i64 root,.int .i64 see,.slice ao rs.length c] w (FilterR w see rs (filtR r.N root see rs))):=refFilter h root see rs ao c hR hl hs
 have hif:=h.qfew
 obtain ⟨wa,wc,hwv,_,_⟩:=rowForm h.wks
 have g2:w.cell? ⟨r.rb,3,none⟩=some (.slice wa r.ql.length wc):=by rw [← hwv];exact h.c3
 have HWV:Hid (r.qv=.slice wa r.ql.length wc):=hwv
 have ltb:=h.ltb
 clear h hwv hR hs
 go_enter Tryz.func112, Tryz.ntmps112
 go_wp2_with fail
 refine Calls.mono HFI.out ?_
 rintro e w1 ⟨hb1,hcase⟩
 have HB1:Hid (Below w.heap.size w w1):=hb1
 have hs1:=hb1.size
 clear hb1
 rcases hcase with ⟨hne,rfl⟩ | ⟨hz,ro,rc,rfl,ho⟩
 ·have HE:Hid (mayErr r.N root see rs r.ql.length=filtR r.N root see rs):=by
   show mayErr r.N root see rs r.ql.length=filtR r.N root see rs
   unfold mayErr filtR at *
   split
   ·rfl
   ·rename_i hh
    rw [if_neg hh] at hne
    rw [if_pos hne]
  have HNE:Hid (filtR r.N root see rs≠0):=hne
  have q0:(filtR r.N root see rs != 0)=true:=by simpa using hne
  clear hne
  generalize filtR r.N root see rs=q at *
  go_wp2_with fail
  go_ret2
  exact WalkerPost.err HE.out HNE.out (HB1.out.alloc hs1 _)
 ·have hroot:hasB (r.N+1) root=true:=by
   cases hh:hasB (r.N+1) root with
   | true=>rfl
   | false=>unfold filtR at hz;rw [if_pos hh] at hz;exact absurd hz (by decide)
  have hfz:filtErr see rs=0:=by unfold filtR at hz;rw [if_neg (by simp [hroot])] at hz;exact hz
  obtain ⟨m,rfl,hm1,hmN⟩:=has_nat hroot
  have HE:Hid (mayErr r.N m see rs r.ql.length=if 50≤r.ql.length then 4 else 0):=by
   show mayErr r.N m see rs r.ql.length=_
   unfold mayErr
   rw [if_neg (by simp [hroot]),if_neg (by simp [hfz])]
  have hba:Below w.heap.size w (w1.alloc (.cells #[.int .i64 see,.slice ro rs.length rc] 202)):=HB1.out.alloc hs1 _
  have HBA:Hid (Below w.heap.size w (w1.alloc (.cells #[.int .i64 see,.slice ro rs.length rc] 202))):=hba
  have g2':(w1.alloc (.cells #[.int .i64 see,.slice ro rs.length rc] 202)).cell? ⟨r.rb,3,none⟩=some (.slice wa r.ql.length wc):=(hba.cell (p:=⟨r.rb,3,none⟩) ltb).trans g2
  have HO:Hid ((w1.alloc (.cells #[.int .i64 see,.slice ro rs.length rc] 202)).ownsRow w.heap.size 207 2 (.slice ro rs.length rc) rs.length (rs.flatMap rrow)):=ho.alloc _
  have hfb:=heap_alloc_new w1 (.cells #[.int .i64 see,.slice ro rs.length rc] 202)
  have f0:=cells_of hfb 0
  have f1:=cells_of hfb 1
  have hsa:(w1.alloc (.cells #[.int .i64 see,.slice ro rs.length rc] 202)).heap.size=w1.heap.size+1:=by simp
  have HZ:Hid (filtErr see rs=0):=hfz
  clear hba ho hfb hz hfz hroot
  by_cases h50:50≤r.ql.length
  ·have h50':(50:Int)≤(r.ql.length:Int):=by omega
   have HE4:Hid (mayErr r.N m see rs r.ql.length=4):=by show mayErr r.N m see rs r.ql.length=4;rw [HE.out,if_pos h50]
   go_wp2_with fail
   go_ret2
   exact WalkerPost.err HE4.out (by decide) HBA.out
  ·have h50':¬ (50:Int)≤(r.ql.length:Int):=by omega
   have HE0:Hid (mayErr r.N m see rs r.ql.length=0):=by show mayErr r.N m see rs r.ql.length=0;rw [HE.out,if_neg h50]
   go_upto_region 6 with fail
   generalize hw2:w1.alloc (.cells #[.int .i64 see,.slice ro rs.length rc] 202)=w2 at *
   have R2:Hid (RefOK w2 r):=HH.out.since HBA.out
   have HZ2:Hid (w2.ownsRow 0 210 4 (.slice wa r.ql.length wc) r.ql.length (r.ql.flatMap Wk.row)):=by rw [← HWV.out];exact R2.out.wks
   have ltb2:r.rb<w2.heap.size:=R2.out.ltb
   have ltb2':r.rb<w2.heap.size+1:=by omega
   have bne:r.rb≠w2.heap.size:=by omega
   have lt1:w1.heap.size<w2.heap.size:=by omega
   have lt1':w1.heap.size<w2.heap.size+1:=by omega
   have lne:w1.heap.size≠w2.heap.size:=by omega
   have fz2:∀ j,w2.frozen? ⟨r.rb,j,none⟩=false:=R2.out.gfree
   have hle50:r.ql.length≤50:=by omega
   clear hw2 hsa
   go_region_law (first
    | (refine step_rwalk_append (w:=w2) (n:=r.ql.length) (icap:=wc) (iao:=wa) (x:=Wk.made m see (.slice ro rs.length rc) rs) rfl (.tmp 33) (.tmp 38) rfl (by simp [Act.eval]) (by simp [Act.eval]) rfl HZ2.out hle50 ?_
       intro g ic w3 hown3 hgrow3 hat3 hlt3
       have hal:Below w2.heap.size w2 (w2.alloc (.cells (Wk.made m see (.slice ro rs.length rc) rs).row.toArray 210)).drew:=((Below.refl _ w2).alloc (Nat.le_refl _) _).drew
       have q0:w3.heap[r.rb]?=w2.heap[r.rb]?:=(hgrow3.block r.rb (by simp;omega) (fun e=>row_ne HZ2.out R2.out.g (by decide) e.symm)).trans (hal.block r.rb ltb2)
       have q1:w3.cell? ⟨r.rb,3,none⟩=some (.slice wa r.ql.length wc):=(cell_same' q0 3).trans g2'
       have q2:w3.frozen? ⟨r.rb,3,none⟩=false:=(frozen_same' q0 3).trans (fz2 3)
       have HEND:Hid (RPost w (w3.setCell ⟨r.rb,3,none⟩ (.slice (some ⟨g,0,none⟩) (r.ql.length+1) ic)) r (r.walked (Wk.made m see (.slice ro rs.length rc) rs) (.slice (some ⟨g,0,none⟩) (r.ql.length+1) ic))) :=
        walked_end HH.out (HBA.out.trans (hal.mono HBA.out.size)) hown3 (by rw [HWV.out];exact hgrow3) (by rw [HWV.out];exact hat3.imp id (fun e=>by have:=HBA.out.size;omega)) (by omega) (ownsRow_since HO.out hal) (may_few HE0.out)
       clear q0 hown3 hgrow3 hat3 hlt3 hal))
   all_goals
    go_wp2_with fail
    go_ret2
    exact .inr ⟨HE0.out,m,_,_,rfl,hm1,hmN,by simp,HEND.out⟩
end
open Go.RowKit Go.Shelf Gv
structure Wr (w:World) (r:Rx) (s:Fo) (K:Nat→List Nat) (root here sv:Nat) (ra:Option Addr) (rc:Nat) (rl:List Rule) (vf:Nat→Int):Prop where
 ok:RefOK w r
 wf:WF r.N s K
 hK:r.K=K
 hp:r.par=s.par
 lo:Lo r.N s
 kn:∀ i,1≤i→i≤r.N→r.kn i≤4
 r1:1≤root
 rN:root≤r.N
 h1:1≤here
 hN:here≤r.N
 see:sv≤30
 row:w.ownsRow 0 207 2 (.slice ra rl.length rc) rl.length (rl.flatMap rrow)
 few:rl.length≤10
 says:∀ n,1≤n→n≤r.N→saysF (sv:Int) rl (r.kn n) (r.tag n)=vf n
def sideOf (back:Bool):Int:=if back=true then -1 else 1
section
variable {w w' W:World} {r:Rx} {s:Fo} {K:Nat→List Nat} {root here sv:Nat} {ra:Option Addr} {rc:Nat} {rl:List Rule} {vf:Nat→Int}
theorem Wr.since (h:Wr w r s K root here sv ra rc rl vf) (hb:Below w.heap.size w w'):Wr w' r s K root here sv ra rc rl vf :=
 ⟨h.ok.since hb,h.wf,h.hK,h.hp,h.lo,h.kn,h.r1,h.rN,h.h1,h.hN,h.see,row_keep h.row (fun b hb'=>hb.block b (h.row.lt b hb').2),h.few,h.says⟩
theorem Wr.of (h:Wr w r s K root here sv ra rc rl vf) (n:Nat) (h1:1≤n) (hn:n≤r.N) :
  Calls Tryz.prog 157 #[.pointer (some ⟨r.rb,0,none⟩),.agg #[.int .i64 sv,.slice ra rl.length rc],.int .i64 n] w fun e w'=>e=.returned (.int .i64 (vf n))∧Below w.heap.size w w':=by
 have:=refOf h.ok n hn (h.kn n h1 hn) sv h.see _ rl h.row h.few
 rw [h.says n h1 hn] at this
 exact this
theorem Wr.kid (h:Wr w r s K root here sv ra rc rl vf) (n:Nat) (h1:1≤n) (hn:n≤r.N) (back:Bool) :
  Calls Tryz.prog 179 #[.pointer (some ⟨r.rb,0,none⟩),.int .i64 n,.int .i64 (sideOf back)] w fun e w'=>e=.returned (.int .i64 (kidD s n back:Nat))∧w'=w:=by
 have hN:=h.ok.hN
 obtain ⟨L,hLe⟩:∃ L,L=r.N+1:=⟨_,rfl⟩
 have hL3:L≤301:=by omega
 have g0:w.cell? ⟨r.rb,0,none⟩=some (.slice (some ⟨r.rn,0,none⟩) L r.cap):=by rw [hLe];exact h.ok.c0
 have hnL:(n:Int)<(L:Int):=by omega
 have hkr:=h.ok.kids n hn
 rw [h.hK] at hkr
 obtain ⟨ka,kc,hkv,hnum⟩:=nums_form hkr rfl
 have n4:w.cell? ⟨r.rn,n*5+4,none⟩=some (.slice ka (K n).length kc):=by rw [← hkv];exact h.ok.ckv hn
 have hfew:(K n).length≤300:=by have:=h.ok.few n hn;rw [h.hK] at this;exact this
 have HF:Hid (s.fst n=(K n).headD 0∧s.lst n=(K n).getLastD 0):=⟨h.wf.fst n h1 hn,h.wf.lst n h1 hn⟩
 have HNU:Hid ((K n).length=0∨∃ g,ka=some ⟨g,0,none⟩∧g<w.heap.size∧∀ j,j<(K n).length→w.cell? ⟨g,j,none⟩=some (.int .i64 ((K n).getD j 0:Nat))):=hnum
 clear h hLe hkr hkv hnum
 by_cases h0:(K n).length=0
 ·have hl0:(((K n).length:Int) == 0)=true:=by simp [h0]
  have HE:Hid (kidD s n back=0):=by
   show kidD s n back=0
   have e:K n=[]:=List.eq_nil_of_length_eq_zero h0
   unfold kidD
   rw [HF.out.1,HF.out.2,e]
   split <;> rfl
  clear h0 HNU HF
  generalize (K n).length=kl at *
  go_enter Tryz.func179, Tryz.ntmps179
  go_wp2_with fail
  go_ret
  exact ⟨ret_int (by rw [HE.out];rfl),rfl⟩
 ·rcases HNU.out with h0' | ⟨g,rfl,hgs,hc⟩
  ·exact absurd h0' h0
  have hl0:(((K n).length:Int) == 0)=false:=beq_eq_false_iff_ne.2 (by omega)
  have z0:w.cell? ⟨g,0,none⟩=some (.int .i64 ((K n).getD 0 0:Nat)):=hc 0 (by omega)
  have zl:w.cell? ⟨g,(K n).length-1,none⟩=some (.int .i64 ((K n).getD ((K n).length-1) 0:Nat)):=hc _ (by omega)
  have HE0:Hid ((K n).headD 0=(K n).getD 0 0):=by
   show (K n).headD 0=(K n).getD 0 0
   cases K n with
   | nil=>rfl
   | cons a l=>rfl
  have HEL:Hid ((K n).getLastD 0=(K n).getD ((K n).length-1) 0):=by
   show (K n).getLastD 0=(K n).getD ((K n).length-1) 0
   rw [List.getD_eq_getElem?_getD,← List.getLast?_eq_getElem?,List.getLastD_eq_getLast?]
  clear HNU hc
  generalize hv0:(K n).getD 0 0=v0 at *
  generalize hvl:(K n).getD ((K n).length-1) 0=vl at *
  have ib0:(0:Int)<((K n).length:Int):=by omega
  have ib1:0≤((K n).length:Int)-1:=by omega
  have ib2:((K n).length:Int)-1<((K n).length:Int):=by omega
  have ebl:(((K n).length:Int)-1).toNat=(K n).length-1:=by omega
  cases back with
  | false =>
   have HE:Hid (kidD s n false=v0):=by show kidD s n false=v0;unfold kidD;simp only [Bool.false_eq_true,if_false];rw [HF.out.1,HE0.out]
   have hside:sideOf false=1:=rfl
   rw [hside]
   clear HF HE0 HEL h0 hv0 hvl
   generalize (K n).length=kl at *
   go_enter Tryz.func179, Tryz.ntmps179
   go_wp2_with fail
   go_ret
   exact ⟨ret_int (by rw [HE.out]),rfl⟩
  | true =>
   have HE:Hid (kidD s n true=vl):=by show kidD s n true=vl;unfold kidD;simp only [if_true];rw [HF.out.2,HEL.out]
   have hside:sideOf true=-1:=rfl
   rw [hside]
   clear HF HE0 HEL h0 hv0 hvl
   generalize (K n).length=kl at *
   go_enter Tryz.func179, Tryz.ntmps179
   go_wp2_with fail
   go_ret
   exact ⟨ret_int (by rw [HE.out]),rfl⟩
theorem getLastD_len {xs:List Nat} (h:xs≠[]) (ys:List Nat):(xs++ys).getD (xs.length-1) 0=xs.getLastD 0:=by
 have hl:0<xs.length:=List.length_pos_iff.2 h
 rw [List.getD_eq_getElem?_getD,List.getElem?_append_left (by omega),← List.getLast?_eq_getElem?,List.getLastD_eq_getLast?]
theorem Wr.bes (h:Wr w r s K root here sv ra rc rl vf) (n:Nat) (h1:1≤n) (hn:n≤r.N) (back:Bool) :
  Calls Tryz.prog 180 #[.pointer (some ⟨r.rb,0,none⟩),.int .i64 n,.int .i64 (sideOf back)] w fun e w'=>e=.returned (.int .i64 (besD s n back:Nat))∧w'=w:=by
 have hN:=h.ok.hN
 obtain ⟨L,hLe⟩:∃ L,L=r.N+1:=⟨_,rfl⟩
 have hL3:L≤301:=by omega
 have g0:w.cell? ⟨r.rb,0,none⟩=some (.slice (some ⟨r.rn,0,none⟩) L r.cap):=by rw [hLe];exact h.ok.c0
 have hnL:(n:Int)<(L:Int):=by omega
 have n3:w.cell? ⟨r.rn,n*5+3,none⟩=some (.int .i64 (s.par n)):=by rw [← h.hp];exact h.ok.cpar hn
 by_cases hp0:s.par n=0
 ·have HE:Hid (besD s n back=0):=by
   have:=h.lo n h1 hn hp0
   show besD s n back=0
   unfold besD
   split
   ·exact this.1
   ·exact this.2
  rw [hp0] at n3
  clear h hLe hp0
  go_enter Tryz.func180, Tryz.ntmps180
  go_wp2_with fail
  go_ret
  exact ⟨ret_int (by rw [HE.out];rfl),rfl⟩
 ·obtain ⟨xs,ys,hKs⟩:=kid_split h.wf h1 hn hp0
  have hbz:=besD_zero h.wf hKs back
  have HND:Hid ((K (s.par n)).Nodup):=h.wf.nd _
  have hpN:=h.wf.parLe n hn
  have hkr:=h.ok.kids _ hpN
  rw [h.hK] at hkr
  obtain ⟨p,hpe⟩:∃ p,s.par n=p:=⟨_,rfl⟩
  rw [hpe] at hp0 hKs hpN hkr n3 HND
  have HKR:Hid (w.ownsRow 0 3 1 (r.kv p) (K p).length (ints (K p))):=hkr
  obtain ⟨ka,kc,hkv,hnum⟩:=nums_form hkr rfl
  rw [hkv] at HKR
  have n4:w.cell? ⟨r.rn,p*5+4,none⟩=some (.slice ka (K p).length kc):=by rw [← hkv];exact h.ok.ckv hpN
  have hfew:(K p).length≤300:=by have:=h.ok.few p hpN;rw [h.hK] at this;exact this
  have HNU:Hid ((K p).length=0∨∃ g,ka=some ⟨g,0,none⟩∧g<w.heap.size∧∀ j,j<(K p).length→w.cell? ⟨g,j,none⟩=some (.int .i64 ((K p).getD j 0:Nat))):=hnum
  have hp0':((p:Int) == 0)=false:=by simp;omega
  have hpL:(p:Int)<(L:Int):=by omega
  have HMEM:Hid (n∈K p):=by show n∈K p;rw [hKs];simp
  have HBZ:Hid (besD s n back=if back=true then xs.getLastD 0 else ys.headD 0):=hbz
  have HKS:Hid (K p=xs++n :: ys):=hKs
  have HLEN:Hid ((K p).length=xs.length+(ys.length+1)):=by show (K p).length=xs.length+(ys.length+1);rw [hKs];simp
  clear h hLe hkr hkv hnum hbz hKs hpe
  obtain ⟨ks,hks⟩:∃ ks,ks=K p:=⟨_,rfl⟩
  rw [← hks] at HKR n4 hfew HNU HMEM HKS HND HLEN
  clear hks
  go_enter Tryz.func180, Tryz.ntmps180
  go_wp2_with fail
  refine (refAt w _ ks n _ HKR.out rfl (by omega) HMEM.out).mono ?_
  rintro e W4 ⟨hW3,q,hql,hq,rfl⟩
  subst hW3
  have hqx:q=xs.length:=idx_same HND.out hq (by rw [HKS.out,List.getElem?_append_right (Nat.le_refl _)];simp)
  subst hqx
  clear hq
  have hlx:xs.length+1≤ks.length:=by have:=HLEN.out;omega
  rcases HNU.out with h0' | ⟨g,rfl,hgs,hc⟩
  ·omega
  cases back with
  | true =>
   have hside:sideOf true=-1:=rfl
   rw [hside]
   by_cases hx:xs=[]
   ·subst hx
    have HE:Hid (besD s n true=0):=by show besD s n true=0;rw [HBZ.out];rfl
    clear HBZ HKS HND HMEM HNU hc
    go_wp2_with fail
    go_ret
    exact ⟨ret_int (by rw [HE.out];rfl),rfl⟩
   ·have hxl:0<xs.length:=List.length_pos_iff.2 hx
    have zc:W4.cell? ⟨g,xs.length-1,none⟩=some (.int .i64 (xs.getLastD 0:Nat)):=by
     rw [hc (xs.length-1) (by omega),HKS.out,getLastD_len hx]
    have HE:Hid (besD s n true=xs.getLastD 0):=by show besD s n true=_;rw [HBZ.out];rfl
    generalize xs.getLastD 0=v0 at *
    have i0:decide ((xs.length:Int)+-1<0)=false:=by simp;omega
    have i1:decide ((ks.length:Int)≤(xs.length:Int)+-1)=false:=by simp;omega
    have i2:((xs.length:Int)+-1)<(ks.length:Int):=by omega
    have i3:0≤((xs.length:Int)+-1):=by omega
    have i4:((xs.length:Int)+-1).toNat=xs.length-1:=by omega
    clear HBZ HKS HND HMEM HNU hc hx
    go_wp2_with fail
    go_ret
    exact ⟨ret_int (by rw [HE.out]),rfl⟩
  | false =>
   have hside:sideOf false=1:=rfl
   rw [hside]
   cases ys with
   | nil =>
    have HE:Hid (besD s n false=0):=by show besD s n false=0;rw [HBZ.out];rfl
    have i0:decide ((xs.length:Int)+1<0)=false:=by simp;omega
    have i1:decide ((ks.length:Int)≤(xs.length:Int)+1)=true:=by have:=HLEN.out;simp at this ⊢;omega
    clear HBZ HKS HND HMEM HNU hc
    go_wp2_with fail
    go_ret
    exact ⟨ret_int (by rw [HE.out];rfl),rfl⟩
   | cons y ys =>
    have hlx2:xs.length+2≤ks.length:=by have:=HLEN.out;simp at this;omega
    have zc:W4.cell? ⟨g,xs.length+1,none⟩=some (.int .i64 (y:Nat)):=by
     rw [hc (xs.length+1) (by omega),HKS.out,List.getD_eq_getElem?_getD,List.getElem?_append_right (by omega)]
     simp
    have HE:Hid (besD s n false=y):=by show besD s n false=_;rw [HBZ.out];rfl
    have i0:decide ((xs.length:Int)+1<0)=false:=by simp;omega
    have i1:decide ((ks.length:Int)≤(xs.length:Int)+1)=false:=by simp;omega
    have i2:((xs.length:Int)+1)<(ks.length:Int):=by omega
    clear HBZ HKS HND HMEM HNU hc
    go_wp2_with fail
    go_ret
    exact ⟨ret_int (by rw [HE.out]),rfl⟩
end
open Go.RowKit Go.Shelf Gv
section
variable {w w' W:World} {r:Rx} {s:Fo} {K:Nat→List Nat} {root here sv:Nat} {ra:Option Addr} {rc:Nat} {rl:List Rule} {vf:Nat→Int}
theorem box4 {w wr:World} {a b c d:Value} {t:TypeId} (hb:Below (w.alloc (.cells #[a,b,c,d] t)).heap.size (w.alloc (.cells #[a,b,c,d] t)) wr):wr.cell? ⟨w.heap.size,0,none⟩=some a∧wr.cell? ⟨w.heap.size,1,none⟩=some b∧wr.cell? ⟨w.heap.size,2,none⟩=some c∧wr.cell? ⟨w.heap.size,3,none⟩=some d∧Below w.heap.size w wr:=by
 have h1:wr.heap[w.heap.size]?=some (.cells #[a,b,c,d] t (0,0)):=(hb.block _ (by simp)).trans (heap_alloc_new w _)
 exact ⟨cells_of h1 0,cells_of h1 1,cells_of h1 2,cells_of h1 3,((Below.refl _ w).alloc (Nat.le_refl _) _).trans (hb.mono (by simp))⟩
theorem Wr.par (h:Wr w r s K root here sv ra rc rl vf) {n:Nat} (hn:n≤r.N):w.cell? ⟨r.rn,n*5+3,none⟩=some (.int .i64 (s.par n)):=by rw [← h.hp];exact h.ok.cpar hn
theorem Wr.up (h:Wr w r s K root here sv ra rc rl vf) :
  Calls Tryz.prog 158 #[.pointer (some ⟨r.rb,0,none⟩),.agg #[.int .i64 root,.int .i64 sv,.slice ra rl.length rc,.int .i64 here]] w (Found w r.N (EvUp s (vf) root here)):=by
 have HX:Hid (Wr w r s K root here sv ra rc rl vf):=h
 have hN:=h.hN
 have h1:=h.h1
 have hr3:=h.ok.hN
 obtain ⟨L,hLe⟩:∃ L,L=r.N+1:=⟨_,rfl⟩
 have HLe:Hid (L=r.N+1):=hLe
 have hL3:L≤301:=by omega
 have hb0:=box4 (Below.refl (w.alloc (.cells #[.int .i64 root,.int .i64 sv,.slice ra rl.length rc,.int .i64 here] 210)).heap.size _)
 have o3:=hb0.2.2.2.1
 clear h hLe hb0
 go_enter Tryz.func158, Tryz.ntmps158
 go_wp2_with fail
 clear o3
 go_loopg [5] (dep s r.N here) (fun m n wr=>∃ x:Nat,n=.int .i64 x∧1≤x∧x≤r.N∧m=dep s r.N x∧Hid (∀ a,EvUp s (vf) root x a→EvUp s (vf) root here a)∧Hid (Below (w.alloc (.cells #[.int .i64 root,.int .i64 sv,.slice ra rl.length rc,.int .i64 here] 210)).heap.size (w.alloc (.cells #[.int .i64 root,.int .i64 sv,.slice ra rl.length rc,.int .i64 here] 210)) wr))
 case atStart=>exact ⟨here,rfl,h1,hN,rfl,fun a ha=>ha,Below.refl _ _⟩
 case round =>
  obtain ⟨x,rfl,hx1,hxN,hm,HE,HB0⟩:=hrel
  obtain ⟨o0,o1,o2,_,hbw⟩:=box4 HB0.out
  have HB:Hid (Below w.heap.size w wr):=hbw
  have HX1:Hid (Wr wr r s K root here sv ra rc rl vf):=HX.out.since hbw
  have g0:wr.cell? ⟨r.rb,0,none⟩=some (.slice (some ⟨r.rn,0,none⟩) L r.cap):=by rw [HLe.out];exact HX1.out.ok.c0
  have hxL:(x:Int)<(L:Int):=by have:=HLe.out;omega
  clear hbw
  by_cases er:x=root
  ·have er':((x:Int) != (root:Int))=false:=by simp [er]
   have HZ:Hid (EvUp s (vf) root here 0):=HE.out 0 (.top er)
   clear er
   go_wp2_with fail
   go_ret
   exact ⟨0,rfl,Nat.zero_le _,HZ.out,HB.out⟩
  ·have er':((x:Int) != (root:Int))=true:=by simp;omega
   have HER:Hid (x≠root):=er
   have hpN:=HX.out.wf.parLe x hxN
   have hdp:=dep_par HX.out.wf hx1 hxN
   have n3:=HX1.out.par hxN
   clear er
   obtain ⟨p,hpe⟩:∃ p,s.par x=p:=⟨_,rfl⟩
   have HP:Hid (s.par x=p):=hpe
   rw [hpe] at hpN hdp n3
   clear hpe
   by_cases hp0:p=0
   ·have hp0':((p:Int) == 0)=true:=by simp [hp0]
    have HZ:Hid (EvUp s (vf) root here 0):=HE.out 0 (.none HER.out (by rw [HP.out];exact hp0))
    clear hp0
    go_wp2_with fail
    go_ret
    exact ⟨0,rfl,Nat.zero_le _,HZ.out,HB.out⟩
   ·have hp0':((p:Int) == 0)=false:=by simp;omega
    have hp1:1≤p:=by omega
    have HP0:Hid (p≠0):=hp0
    clear hp0
    go_wp2_with fail
    refine (HX1.out.of p hp1 hpN).mono ?_
    rintro e w2 ⟨rfl,hb2⟩
    have HB2:Hid (Below w.heap.size w w2):=HB.out.trans (hb2.mono HB.out.size)
    have HB3:Hid (Below (w.alloc (.cells #[.int .i64 root,.int .i64 sv,.slice ra rl.length rc,.int .i64 here] 210)).heap.size (w.alloc (.cells #[.int .i64 root,.int .i64 sv,.slice ra rl.length rc,.int .i64 here] 210)) w2):=HB0.out.trans (hb2.mono HB0.out.size)
    clear hb2 o0 o1 o2 g0 n3
    obtain ⟨v,hve⟩:∃ v,vf p=v:=⟨_,rfl⟩
    have HV:Hid (vf p=v):=hve
    rw [hve]
    clear hve
    by_cases v1:v=1
    ·have v1':(v == 1)=true:=by simpa using v1
     have HZ:Hid (EvUp s (vf) root here p):=HE.out p (by have:=EvUp.hit (s:=s) (v:=vf) (root:=root) (n:=x) HER.out (by rw [HP.out];exact HP0.out) (by rw [HP.out,HV.out];exact v1);rw [HP.out] at this;exact this)
     clear v1
     go_wp2_with fail
     go_ret
     exact ⟨p,rfl,hpN,HZ.out,HB2.out⟩
    ·have v1':(v == 1)=false:=by simpa using v1
     have HZ:Hid (∀ a,EvUp s (vf) root p a→EvUp s (vf) root here a):=fun a ha=>HE.out a (.go HER.out (by rw [HP.out];exact HP0.out) (by rw [HP.out,HV.out];exact v1) (by rw [HP.out];exact ha))
     clear v1
     go_wp2_with fail
     go_roundg (dep s r.N p)
     case measure=>omega
     case rel=>exact ⟨p,rfl,hp1,hpN,rfl,HZ.out,HB3.out⟩
theorem Wr.under (h:Wr w r s K root here sv ra rc rl vf) (back:Bool) :
  Calls Tryz.prog 159 #[.pointer (some ⟨r.rb,0,none⟩),.agg #[.int .i64 root,.int .i64 sv,.slice ra rl.length rc,.int .i64 here],.int .i64 (sideOf back)] w (Found w r.N (EvKid s (vf) root here back (kidD s here back))):=by
 have HX:Hid (Wr w r s K root here sv ra rc rl vf):=h
 have hN:=h.hN
 have h1:=h.h1
 have hr3:=h.ok.hN
 obtain ⟨L,hLe⟩:∃ L,L=r.N+1:=⟨_,rfl⟩
 have HLe:Hid (L=r.N+1):=hLe
 have hL3:L≤301:=by omega
 have HK0:Hid (kidD s here back≤r.N∧(kidD s here back≠0→Desc s.par (kidD s here back) here∧kidD s here back≠here)):=by
  by_cases e:kidD s here back=0
  ·exact ⟨by omega,fun e'=>absurd e e'⟩
  ·have hk:=h.wf.kid _ _ (kid_fact h.wf h1 hN back e).1
   refine ⟨hk.2.2.2.1,fun _=>⟨⟨1,hk.2.2.2.2⟩,fun e'=>?_⟩⟩
   have:=h.wf.par_ne (c:=here) (by omega) hN
   rw [e'] at hk
   exact this hk.2.2.2.2
 have hb0:=box4 (Below.refl (w.alloc (.cells #[.int .i64 root,.int .i64 sv,.slice ra rl.length rc,.int .i64 here] 210)).heap.size _)
 have o3:=hb0.2.2.2.1
 have HX0:Hid (Wr (w.alloc (.cells #[.int .i64 root,.int .i64 sv,.slice ra rl.length rc,.int .i64 here] 210)) r s K root here sv ra rc rl vf):=h.since hb0.2.2.2.2
 obtain ⟨sd,hsd⟩:∃ sd,sideOf back=sd:=⟨_,rfl⟩
 have HSD:Hid (sideOf back=sd):=hsd
 rw [hsd]
 clear h hLe hb0 hsd
 go_enter Tryz.func159, Tryz.ntmps159
 go_wp2_with fail
 refine Calls.mono (by rw [← HSD.out];exact HX0.out.kid here h1 hN back) ?_
 rintro e w0 ⟨rfl,hw0⟩
 subst hw0
 clear o3
 go_wp2_with fail
 go_loopg [7] (look r.N s K back (kidD s here back)) (fun m n wr=>∃ x:Nat,n=.int .i64 x∧x≤r.N∧m=look r.N s K back x∧Hid (x≠0→Desc s.par x here∧x≠here)∧Hid (∀ a,EvKid s (vf) root here back x a→EvKid s (vf) root here back (kidD s here back) a)∧Hid (Below (w.alloc (.cells #[.int .i64 root,.int .i64 sv,.slice ra rl.length rc,.int .i64 here] 210)).heap.size (w.alloc (.cells #[.int .i64 root,.int .i64 sv,.slice ra rl.length rc,.int .i64 here] 210)) wr))
 case atStart=>exact ⟨_,rfl,HK0.out.1,rfl,HK0.out.2,fun a ha=>ha,Below.refl _ _⟩
 case round =>
  obtain ⟨x,rfl,hxN,hm,HDx,HE,HB0⟩:=hrel
  obtain ⟨_,o1,o2,_,hbw⟩:=box4 HB0.out
  have HB:Hid (Below w.heap.size w wr):=hbw
  have HX1:Hid (Wr wr r s K root here sv ra rc rl vf):=HX.out.since hbw
  clear hbw
  by_cases hx0:x=0
  ·subst hx0
   go_wp2_with fail
   go_ret
   exact ⟨0,rfl,Nat.zero_le _,HE.out 0 (.none rfl),HB.out⟩
  ·have hx0':((x:Int) != 0)=true:=by simp;omega
   have hx1:1≤x:=by omega
   have HX0':Hid (x≠0):=hx0
   have HD:Hid (Desc s.par x here∧x≠here):=HDx.out hx0
   clear hx0
   go_wp2_with fail
   refine (HX1.out.of x hx1 hxN).mono ?_
   rintro e w1 ⟨rfl,hb⟩
   have HB1:Hid (Below (w.alloc (.cells #[.int .i64 root,.int .i64 sv,.slice ra rl.length rc,.int .i64 here] 210)).heap.size (w.alloc (.cells #[.int .i64 root,.int .i64 sv,.slice ra rl.length rc,.int .i64 here] 210)) w1):=HB0.out.trans (hb.mono HB0.out.size)
   obtain ⟨q0,_,_,q3,hbw1⟩:=box4 HB1.out
   have HBW:Hid (Below w.heap.size w w1):=hbw1
   have HX2:Hid (Wr w1 r s K root here sv ra rc rl vf):=HX.out.since hbw1
   have g0:w1.cell? ⟨r.rb,0,none⟩=some (.slice (some ⟨r.rn,0,none⟩) L r.cap):=by rw [HLe.out];exact HX2.out.ok.c0
   clear hb hbw1 o1 o2
   obtain ⟨v,hve⟩:∃ v,vf x=v:=⟨_,rfl⟩
   have HV:Hid (vf x=v):=hve
   rw [hve]
   clear hve
   by_cases v1:v=1
   ·have v1':(v == 1)=true:=by simpa using v1
    have HZ:Hid (EvKid s (vf) root here back (kidD s here back) x):=HE.out x (.hit HX0'.out (by rw [HV.out];exact v1))
    clear v1
    go_wp2_with fail
    go_ret
    exact ⟨x,rfl,hxN,HZ.out,HBW.out⟩
   ·have v1':(v == 1)=false:=by simpa using v1
    have HV1:Hid (v≠1):=v1
    clear v1
    go_wp2_with fail
    refine Calls.mono (by rw [← HSD.out];exact HX2.out.kid x hx1 hxN back) ?_
    rintro e w1' ⟨rfl,hw1'⟩
    subst hw1'
    obtain ⟨kd,hkd⟩:∃ kd,kidD s x back=kd:=⟨_,rfl⟩
    have HKD:Hid (kidD s x back=kd):=hkd
    rw [hkd]
    clear hkd
    by_cases hc:v=3∧kd≠0
    ·have c3:(v == 3)=true:=by simpa using hc.1
     have ck:((kd:Int) != 0)=true:=by have:=hc.2;simp;omega
     have HN:Hid (kd≤r.N∧look r.N s K back kd<look r.N s K back x∧(Desc s.par kd here∧kd≠here)∧∀ a,EvKid s (vf) root here back kd a→EvKid s (vf) root here back x a):=by
      have hf:=kid_fact HX.out.wf hx1 hxN back (by rw [HKD.out];exact hc.2)
      rw [HKD.out] at hf
      have hk:=HX.out.wf.kid _ _ hf.1
      refine ⟨hk.2.2.2.1,by unfold look;rw [if_neg hc.2,if_neg HX0'.out];omega,⟨?_,fun e'=>?_⟩,fun a ha=>.kid HX0'.out (by rw [HV.out];exact hc.1) (by rw [HKD.out];exact hc.2) (by rw [HKD.out];exact ha)⟩
      ·have:Desc s.par (s.par kd) here:=by rw [hk.2.2.2.2];exact HD.out.1
       exact this.head
      ·subst e'
       obtain ⟨m,hmm⟩:=HD.out.1
       have:anc s.par (m+1) x=x:=by rw [anc_succ',hmm,hk.2.2.2.2]
       exact no_loop HX.out.wf.z HX0'.out (HX.out.wf.acy _ hxN) m this
     have hn2:=HN.out.2.1
     clear hc
     go_wp2_with fail
     go_roundg (look r.N s K back kd)
     case measure=>omega
     case rel=>exact ⟨kd,rfl,HN.out.1,rfl,fun _=>HN.out.2.2.1,fun a ha=>HE.out a (HN.out.2.2.2 a ha),HB1.out⟩
    ·have HC:Hid (¬ (vf x=3∧kidD s x back≠0)):=by rw [HV.out,HKD.out];exact hc
     have HPA:Hid (∀ z,EvPast s root here back x z→∀ a,EvKid s (vf) root here back z a→EvKid s (vf) root here back (kidD s here back) a):=fun z hz a ha=>HE.out a (.past HX0'.out (by rw [HV.out];exact HV1.out) HC.out hz ha)
     obtain ⟨w2,rfl⟩:∃ w2:World,w2=w1':=⟨_,rfl⟩
     go_upto_region 7 with fail
     go_cut [36] (fun t wx=>t=.bool false∧wx=w2)
     case first =>
      by_cases c3:v=3
      ·have c3':(v == 3)=true:=by simpa using c3
       have ck0:kd=0:=Classical.byContradiction (fun e=>hc ⟨c3,e⟩)
       have ck:((kd:Int) != 0)=false:=by simp [ck0]
       clear ck0
       clear hc
       go_wp2_with fail
       go_meet
       case rel=>exact ⟨rfl,rfl⟩
      ·have c3':(v == 3)=false:=by simpa using c3
       clear hc
       go_wp2_with fail
       go_meet
       case rel=>exact ⟨rfl,rfl⟩
     case rest =>
      obtain ⟨rfl,hwc⟩:=hcut
      subst hwc
      obtain ⟨w3,hw3⟩:∃ w3:World,w3=wc:=⟨_,rfl⟩
      subst hw3
      clear hc
      have hdx:=dep_le (s:=s) r.N x
      go_wp2_with fail
      go_loopg [10,11] (2*dep s r.N x+1) (fun m u t wr=>∃ y z:Nat,u=.int .i64 y∧t=.int .i64 z∧1≤y∧y≤r.N∧z≤r.N∧m=2*dep s r.N y+(if z=0 then 1 else 0)∧Hid (z=0→∀ a,EvPast s root here back y a→EvPast s root here back x a)∧Hid (z≠0→EvPast s root here back x z)∧wr=w3)
      case atStart=>exact ⟨x,0,rfl,rfl,hx1,hxN,Nat.zero_le _,rfl,fun _ a ha=>ha,fun e=>absurd rfl e,rfl⟩
      case round =>
       obtain ⟨y,z,rfl,rfl,hy1,hyN,hzN,hm2,HU,HZ,rfl⟩:=hrel
       obtain ⟨w3,rfl⟩:∃ w3:World,w3=wr:=⟨_,rfl⟩
       by_cases hz0:z=0
       ·have HU0:Hid (∀ a,EvPast s root here back y a→EvPast s root here back x a):=HU.out hz0
        subst hz0
        rw [if_pos rfl] at hm2
        have n3:=HX2.out.par hyN
        have hpN:=HX.out.wf.parLe y hyN
        have hdp:=dep_par HX.out.wf hy1 hyN
        have hyL:(y:Int)<(L:Int):=by have:=HLe.out;omega
        clear HU HZ
        go_wp2_with fail
        refine Calls.mono (by rw [← HSD.out];exact HX2.out.bes y hy1 hyN back) ?_
        rintro e w3' ⟨rfl,hw3'⟩
        subst hw3'
        have hbok:=bes_ok HX.out.wf HX.out.lo back hy1 hyN
        obtain ⟨b,hbe⟩:∃ b,besD s y back=b:=⟨_,rfl⟩
        have HBE:Hid (besD s y back=b):=hbe
        rw [hbe] at hbok ⊢
        have hbN:=hbok.1
        clear hbe hbok
        by_cases hb0:b=0
        ·have hb0':((b:Int) == 0)=true:=by simp [hb0]
         have HB00:Hid (besD s y back=0):=HBE.out.trans hb0
         have HBZ:Hid (b=0):=hb0
         obtain ⟨p,hpe⟩:∃ p,s.par y=p:=⟨_,rfl⟩
         have HP:Hid (s.par y=p):=hpe
         rw [hpe] at hpN hdp n3
         clear hpe hb0
         by_cases hst:p=0∨p=root∨p=here
         ·have HEND:Hid (EvKid s (vf) root here back (kidD s here back) 0):=HPA.out 0 (HU0.out 0 (.top HB00.out (by rw [HP.out];exact hst))) 0 (.none rfl)
          go_upto_region 15 with fail
          go_cut [68] (fun t wx=>t=.bool true∧wx=w3')
          case first =>
           by_cases e0:p=0
           ·have e0':((p:Int) == 0)=true:=by simp [e0]
            clear hst e0
            go_wp2_with fail
            go_meet
            case rel=>exact ⟨rfl,rfl⟩
           have e0':((p:Int) == 0)=false:=by simp;omega
           by_cases e1:p=root
           ·have e1':((p:Int) == (root:Int))=true:=by simp [e1]
            clear hst e1 e0
            go_wp2_with fail
            go_meet
            case rel=>exact ⟨rfl,rfl⟩
           have e1':((p:Int) == (root:Int))=false:=by simp;omega
           have e2':((p:Int) == (here:Int))=true:=by simp;omega
           clear hst e1 e0
           go_wp2_with fail
           go_meet
           case rel=>exact ⟨rfl,rfl⟩
          case rest =>
           obtain ⟨rfl,hwc⟩:=hcut
           subst hwc
           clear hst
           go_wp2_with fail
           go_ret
           exact ⟨0,rfl,Nat.zero_le _,HEND.out,HBW.out⟩
         ·have e0':((p:Int) == 0)=false:=by simp;omega
          have e1':((p:Int) == (root:Int))=false:=by simp;omega
          have e2':((p:Int) == (here:Int))=false:=by simp;omega
          have hp1:1≤p:=by omega
          have HU1:Hid (∀ a,EvPast s root here back p a→EvPast s root here back x a):=fun a ha=>HU0.out a (.up HB00.out (by rw [HP.out];exact hst) (by rw [HP.out];exact ha))
          clear hst
          go_wp2_with fail
          go_roundg (2*dep s r.N p+1)
          case measure=>omega
          case rel=>exact ⟨p,b,rfl,rfl,hp1,hpN,hbN,by rw [if_pos HBZ.out],fun _=>HU1.out,fun e=>absurd HBZ.out e,rfl⟩
        ·have hb0':((b:Int) == 0)=false:=by simp;omega
         have HB1':Hid (EvPast s root here back x b):=HU0.out b (by have:=EvPast.bes (s:=s) (root:=root) (here:=here) (back:=back) (n:=y) (by rw [HBE.out];exact hb0);rw [HBE.out] at this;exact this)
         have HBN:Hid (b≠0):=hb0
         clear hb0
         go_wp2_with fail
         go_roundg (2*dep s r.N y)
         case measure=>omega
         case rel=>exact ⟨y,b,rfl,rfl,hy1,hyN,hbN,by rw [if_neg HBN.out];rfl,fun e=>absurd e HBN.out,fun _=>HB1'.out,rfl⟩
       ·have hz0':((z:Int) == 0)=false:=by simp;omega
        have HPZ:Hid (EvPast s root here back x z):=HZ.out hz0
        have hf:=EvPast.fact HX.out.wf HX.out.lo hx1 hxN HD.out.1 HD.out.2 HPZ.out
        have HF:Hid (z≠0→Desc s.par z here∧z≠here):=hf.2.2
        have hf2:=hf.2.1
        clear hz0 hf HU HZ
        go_wp2_with fail
        go_roundg (look r.N s K back z)
        case measure=>omega
        case rel=>exact ⟨z,rfl,hzN,rfl,HF.out,HPA.out z HPZ.out,HB1.out⟩
end
end Go.Proofs.YtcedebpoihcbdaaGreatDoor
