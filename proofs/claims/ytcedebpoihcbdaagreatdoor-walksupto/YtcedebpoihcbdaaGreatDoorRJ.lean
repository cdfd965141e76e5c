/-
  The document's own answer: an iterator more.
  The document's own answer: Step and At.
  The document's own answer: At.
-/
import Derived.Test.YtcedebpoihcbdaaGreatDoorRI
import Derived.Test.YtcedebpoihcbdaaGreatDoorGC
import Derived.Deep.CutBlock
import Derived.Deep.DeepCutAuto
set_option linter.unusedVariables false
set_option maxHeartbeats 2000000
set_option maxRecDepth 100000
namespace Go.Proofs.YtcedebpoihcbdaaGreatDoor
open Go.RowKit Go.Shelf Gv
theorem Tryz.info206:(Tryz.prog.info? 206).map (fun i=>(i.zero,i.size,i.bytes))=some (some (.agg #[.int .i64 0,.int .i64 0,.slice none 0 0,.int .i64 0,.bool false]),5,56):=by kernel_rfl
theorem step_riter_append {ops:Array Oper} {o:Oper} {a:Act} {w:World} {K:Act→World→Prop} {Q:Exit→Act→World→Prop} {E:Prop} {n icap:Nat} {iao:Option Addr} {cs:List Value} {x:It}
  (hgd:o.guard=none) (s y:Operand) (ho:o.op=.call { callee:=.builtin .append,args:=#[s,y],argTypes:=#[114,114] })
  (hs:a.eval s=.slice iao n icap) (hx:a.eval y=.slice (some ⟨w.heap.size,0,none⟩) 1 1) (hrv:x.rules.oneCell'=true)
  (hown:w.ownsRow 0 206 5 (.slice iao n icap) n cs) (h50:n≤50)
  (hK:∀ g cap w',w'.ownsRow 0 206 5 (.slice (some ⟨g,0,none⟩) (n+1) cap) (n+1) (cs++x.row) →
    World.grownBy (w.alloc (.cells x.row.toArray 206)).drew w' (Value.slice iao n icap).ownBlock→((Value.slice iao n icap).ownBlock=some g∨g=w.heap.size+1)→g<w'.heap.size→K (a.put o.dst (.slice (some ⟨g,0,none⟩) (n+1) cap)) w') :
  if Region.wanted o (yielded ops a.tmps)=true then Oper.wp Tryz.prog o a (w.alloc (.cells x.row.toArray 206)).drew K Q else E:=by
 obtain ⟨i0,hi,hz0,hz1,hz2⟩:=info_parts Tryz.info206
 have hal:Below w.heap.size w (w.alloc (.cells x.row.toArray 206)).drew:=((Below.refl _ w).alloc (Nat.le_refl _) _).drew
 refine step_append_lies _ hgd s y 114 ho 0 206 i0 _ 5 56 Tryz.underlying114 hi hz0 hz1 hz2 rfl (by decide) (.slice iao n icap) n cs hs (ownsRow_since hown hal) ⟨w.heap.size,0,none⟩ 1 1 x.row hx rfl ?_ (by intro u hu;simp only [It.row,List.mem_cons,List.not_mem_nil,or_false] at hu;rcases hu with rfl | rfl | rfl | rfl | rfl <;> first | rfl | exact hrv) (by omega) (by unfold maxLen;omega) (by omega) (by simp) (w.heap.size+1) (by simp) hK
 intro j u hj
 have e:(⟨w.heap.size,0,none⟩:Addr).add j=⟨w.heap.size,j,none⟩:=by unfold Addr.add;split <;> simp_all
 rw [e]
 have hb:(w.alloc (.cells x.row.toArray 206)).drew.heap[w.heap.size]?=some (.cells x.row.toArray 206 (0,0)):=heap_alloc_new w (.cells x.row.toArray 206)
 rw [cells_of hb j]
 simpa using hj
def Rx.itered (r:Rx) (x:It) (v:Value):Rx:={ r with iv:=v,il:=r.il++[x] }
theorem itered_end {w w3 w3':World} {r:Rx} {g cap:Nat} {x:It} (h:RefOK w r) (hal:Below w.heap.size w w3') (hown:w3.ownsRow 0 206 5 (.slice (some ⟨g,0,none⟩) (r.il.length+1) cap) (r.il.length+1) (r.il.flatMap It.row++x.row))
  (hgrow:World.grownBy w3' w3 r.iv.ownBlock) (hat:r.iv.ownBlock=some g∨w.heap.size≤g) (h50:r.il.length<50) (hrl:w3'.ownsRow w.heap.size 207 2 x.rules x.rl.length (x.rl.flatMap rrow)) (h10:x.rl.length≤10) :
  RPost w (w3.setCell ⟨r.rb,2,none⟩ (.slice (some ⟨g,0,none⟩) (r.il.length+1) cap)) r (r.itered x (.slice (some ⟨g,0,none⟩) (r.il.length+1) cap)):=by
 have hk3:∀ b,b<w.heap.size→r.iv.ownBlock≠some b→w3.heap[b]?=w.heap[b]?:=fun b hb hne=>(hgrow.block b (Nat.lt_of_lt_of_le hb hal.size) (fun e=>hne e.symm)).trans (hal.block b hb)
 have hs3:w.heap.size≤w3.heap.size:=Nat.le_trans hal.size hgrow.size
 have hg3:w3.heap[r.rb]?=some (.cells #[.slice (some ⟨r.rn,0,none⟩) (r.N+1) r.cap,r.wv,r.iv,r.qv] 117 (0,0)):=(hk3 _ h.ltb (row_ne h.its h.g (by decide))).trans h.g
 have hgb:g≠r.rb:=fun e=>row_ne hown hg3 (by decide) (by rw [← e];rfl)
 have hk:∀ (b:Nat) (cs:Array Value) (ty:TypeId),w.heap[b]?=some (.cells cs ty (0,0))→(ty≠206∧ty≠117)→(w3.setCell ⟨r.rb,2,none⟩ (.slice (some ⟨g,0,none⟩) (r.il.length+1) cap)).heap[b]?=w.heap[b]?:=by
  intro b cs ty hb ht
  rw [heap_setCell_other _ _ _ _ (fun e=>?_)]
  ·exact hk3 b (lt_of_block hb) (row_ne h.its hb ht.1)
  ·have hb':=h.g
   have e':b=r.rb:=e
   rw [← e',hb] at hb';simp at hb';exact ht.2 hb'.2
 have hrl3:(w3.setCell ⟨r.rb,2,none⟩ (.slice (some ⟨g,0,none⟩) (r.il.length+1) cap)).ownsRow 0 207 2 x.rules x.rl.length (x.rl.flatMap rrow):=by
  refine rowB (row_keep hrl (fun b hb=>?_)) (Nat.zero_le _)
  have hl:=hrl.lt b hb
  have hlb:=h.ltb
  rw [heap_setCell_other _ _ _ _ (show b≠r.rb by omega)]
  exact hgrow.block b hl.2 (fun e=>by have:=(h.its.lt b e.symm).2;omega)
 obtain ⟨_,p2,p3,p4,p5,p6,p7,p8,p9⟩:=h.part (ok:=fun ty=>ty≠206∧ty≠117) hk
 have hrow:World.ownsRow (w3.setCell ⟨r.rb,2,none⟩ (.slice (some ⟨g,0,none⟩) (r.il.length+1) cap)) 0 206 5 (.slice (some ⟨g,0,none⟩) (r.il.length+1) cap) (r.il++[x]).length ((r.il++[x]).flatMap It.row):=by
  rw [List.length_append,List.flatMap_append]
  have:=ownsRow_setCell_other (a:=⟨r.rb,2,none⟩) hown (by simp [Value.ownBlock];exact hgb) (.slice (some ⟨g,0,none⟩) (r.il.length+1) cap)
  simpa using this
 have hfew:(r.il++[x]).length≤50:=by rw [List.length_append];simp;omega
 have hrls:∀ y,y∈r.il++[x]→(w3.setCell ⟨r.rb,2,none⟩ (.slice (some ⟨g,0,none⟩) (r.il.length+1) cap)).ownsRow 0 207 2 y.rules y.rl.length (y.rl.flatMap rrow)∧y.rl.length≤10:=fun y hy=>by
  rcases mem_snoc hy with hy | rfl
  ·exact p7 (by decide) y hy
  ·exact ⟨hrl3,h10⟩
 refine ⟨⟨?_,p2 (by decide),h.hN,p3 (by decide),h.few,p4 (by decide),h.afew,h.hT,h.nd,p5 (by decide),h.wfew,hrow,hfew,hrls,p8 (by decide),h.qfew,p9 (by decide)⟩,?_,fun i hi=>?_,rfl⟩
 ·exact heap_setCell_same w3 r.rb 2 _ _ _ hg3
 ·have f1:Fr r.own w w3:=⟨hgrow.os.trans hal.os,hgrow.tape.trans hal.tape,hgrow.output.trans hal.output,hs3,fun i hi hn=>hk3 i hi (fun e=>hn (Rx.own_i e))⟩
  exact f1.setCell (p:=⟨r.rb,2,none⟩) Rx.own_b _
 ·rcases hi with hi | hi | ⟨j,hj,hi⟩ | ⟨j,hj,hi⟩ | hi | hi | hi | ⟨y,hy,hi⟩ | ⟨y,hy,hi⟩
  ·exact .inl (.inl hi)
  ·exact .inl (.inr (.inl hi))
  ·exact .inl (Rx.own_k hj hi)
  ·exact .inl (Rx.own_a hj hi)
  ·exact .inl (Rx.own_w hi)
  ·have hi':g=i:=by simpa [Rx.itered,Value.ownBlock] using hi
   subst hi'
   exact hat.imp Rx.own_i id
  ·exact .inl (Rx.own_q hi)
  ·rcases mem_snoc hy with hy | rfl
   ·exact .inl (Rx.own_ir hy hi)
   ·exact .inr (hrl.lt i hi).1
  ·exact .inl (Rx.own_qr hy hi)
def IterPost (w:World) (r:Rx) (root see:Int) (rs:List Rule) (e:Ending) (w':World):Prop :=
 (mayErr r.N root see rs r.il.length≠0∧e=.returned (.tuple #[.int .i64 0,.int .i64 (mayErr r.N root see rs r.il.length)])∧Below w.heap.size w w') ∨
 (mayErr r.N root see rs r.il.length=0∧∃ (m:Nat) (v rv:Value),root=m∧1≤m∧m≤r.N∧e=.returned (.tuple #[.int .i64 (r.il.length+1:Nat),.int .i64 0])∧RPost w w' r (r.itered (It.made m see rv rs) v))
theorem IterPost.err {w w':World} {r:Rx} {root see q:Int} {rs:List Rule} (h:mayErr r.N root see rs r.il.length=q) (hq:q≠0) (hb:Below w.heap.size w w'):IterPost w r root see rs (.returned (.tuple #[.int .i64 0,.int .i64 q])) w':=.inl ⟨by rw [h];exact hq,by rw [h],hb⟩
section
variable {w w' W:World} {r:Rx}
theorem refIter {D:Nat} (h:RefOK w r) (root see:Int) (rs:List Rule) (ao:Option Addr) (c:Nat) (hR:w.ownsRow D 207 2 (.slice ao rs.length c) rs.length (rs.flatMap rrow)) (hl:rs.length≤10000000) (hs:∀ x,x∈rs→x.1.size≤maxLen) :
  Calls Tryz.prog 106 #[.pointer (some ⟨r.rb,0,none⟩),.int .i64 root,.int .i64 see,.slice ao rs.length c] w (IterPost w r root see rs):=by
 have HH:Hid (RefOK w r):=h
 have HFI:Hid (Calls Tryz.prog 156 #[.pointer (some ⟨r.rb,0,none⟩),.int .i64 root,.int .i64 see,.slice ao rs.length c] w (FilterR w see rs (filtR r.N root see rs))):=refFilter h root see rs ao c hR hl hs
 have hif:=h.ifew
 obtain ⟨wa,wc,hwv,_,_⟩:=rowForm h.its
 have g2:w.cell? ⟨r.rb,2,none⟩=some (.slice wa r.il.length wc):=by rw [← hwv];exact h.c2
 have HWV:Hid (r.iv=.slice wa r.il.length wc):=hwv
 have ltb:=h.ltb
 clear h hwv hR hs
 go_enter Tryz.func106, Tryz.ntmps106
 go_wp2_with fail
 refine Calls.mono HFI.out ?_
 rintro e w1 ⟨hb1,hcase⟩
 have HB1:Hid (Below w.heap.size w w1):=hb1
 have hs1:=hb1.size
 clear hb1
 rcases hcase with ⟨hne,rfl⟩ | ⟨hz,ro,rc,rfl,ho⟩
 ·have HE:Hid (mayErr r.N root see rs r.il.length=filtR r.N root see rs):=by
   show mayErr r.N root see rs r.il.length=filtR r.N root see rs
   unfold mayErr filtR at *
   split
   ·rfl
   ·rename_i hh
    rw [if_neg hh] at hne
    rw [if_pos hne]
  have HNE:Hid (filtR r.N root see rs≠0):=hne
  have q0:(filtR r.N root see rs != 0)=true:=by simpa using hne
  clear hne
  generalize filtR r.N root see rs=q at *
  go_wp2_with fail
  go_ret2
  exact IterPost.err HE.out HNE.out (HB1.out.alloc hs1 _)
 ·have hroot:hasB (r.N+1) root=true:=by
   cases hh:hasB (r.N+1) root with
   | true=>rfl
   | false=>unfold filtR at hz;rw [if_pos hh] at hz;exact absurd hz (by decide)
  have hfz:filtErr see rs=0:=by unfold filtR at hz;rw [if_neg (by simp [hroot])] at hz;exact hz
  obtain ⟨m,rfl,hm1,hmN⟩:=has_nat hroot
  have HE:Hid (mayErr r.N m see rs r.il.length=if 50≤r.il.length then 4 else 0):=by
   show mayErr r.N m see rs r.il.length=_
   unfold mayErr
   rw [if_neg (by simp [hroot]),if_neg (by simp [hfz])]
  have hba:Below w.heap.size w (w1.alloc (.cells #[.int .i64 see,.slice ro rs.length rc] 202)):=HB1.out.alloc hs1 _
  have HBA:Hid (Below w.heap.size w (w1.alloc (.cells #[.int .i64 see,.slice ro rs.length rc] 202))):=hba
  have g2':(w1.alloc (.cells #[.int .i64 see,.slice ro rs.length rc] 202)).cell? ⟨r.rb,2,none⟩=some (.slice wa r.il.length wc):=(hba.cell (p:=⟨r.rb,2,none⟩) ltb).trans g2
  have HO:Hid ((w1.alloc (.cells #[.int .i64 see,.slice ro rs.length rc] 202)).ownsRow w.heap.size 207 2 (.slice ro rs.length rc) rs.length (rs.flatMap rrow)):=ho.alloc _
  have hfb:=heap_alloc_new w1 (.cells #[.int .i64 see,.slice ro rs.length rc] 202)
  have f0:=cells_of hfb 0
  have f1:=cells_of hfb 1
  have hsa:(w1.alloc (.cells #[.int .i64 see,.slice ro rs.length rc] 202)).heap.size=w1.heap.size+1:=by simp
  have HZ:Hid (filtErr see rs=0):=hfz
  clear hba ho hfb hz hfz hroot
  by_cases h50:50≤r.il.length
  ·have h50':(50:Int)≤(r.il.length:Int):=by omega
   have HE4:Hid (mayErr r.N m see rs r.il.length=4):=by show mayErr r.N m see rs r.il.length=4;rw [HE.out,if_pos h50]
   go_wp2_with fail
   go_ret2
   exact IterPost.err HE4.out (by decide) HBA.out
  ·have h50':¬ (50:Int)≤(r.il.length:Int):=by omega
   have HE0:Hid (mayErr r.N m see rs r.il.length=0):=by show mayErr r.N m see rs r.il.length=0;rw [HE.out,if_neg h50]
   go_upto_region 6 with fail
   generalize hw2:w1.alloc (.cells #[.int .i64 see,.slice ro rs.length rc] 202)=w2 at *
   have R2:Hid (RefOK w2 r):=HH.out.since HBA.out
   have HZ2:Hid (w2.ownsRow 0 206 5 (.slice wa r.il.length wc) r.il.length (r.il.flatMap It.row)):=by rw [← HWV.out];exact R2.out.its
   have ltb2:r.rb<w2.heap.size:=R2.out.ltb
   have ltb2':r.rb<w2.heap.size+1:=by omega
   have bne:r.rb≠w2.heap.size:=by omega
   have lt1:w1.heap.size<w2.heap.size:=by omega
   have lt1':w1.heap.size<w2.heap.size+1:=by omega
   have lne:w1.heap.size≠w2.heap.size:=by omega
   have fz2:∀ j,w2.frozen? ⟨r.rb,j,none⟩=false:=R2.out.gfree
   have hle50:r.il.length≤50:=by omega
   clear hw2 hsa
   go_region_law (first
    | (refine step_riter_append (w:=w2) (n:=r.il.length) (icap:=wc) (iao:=wa) (x:=It.made m see (.slice ro rs.length rc) rs) rfl (.tmp 33) (.tmp 38) rfl (by simp [Act.eval]) (by simp [Act.eval]) rfl HZ2.out hle50 ?_
       intro g ic w3 hown3 hgrow3 hat3 hlt3
       have hal:Below w2.heap.size w2 (w2.alloc (.cells (It.made m see (.slice ro rs.length rc) rs).row.toArray 206)).drew:=((Below.refl _ w2).alloc (Nat.le_refl _) _).drew
       have q0:w3.heap[r.rb]?=w2.heap[r.rb]?:=(hgrow3.block r.rb (by simp;omega) (fun e=>row_ne HZ2.out R2.out.g (by decide) e.symm)).trans (hal.block r.rb ltb2)
       have q1:w3.cell? ⟨r.rb,2,none⟩=some (.slice wa r.il.length wc):=(cell_same' q0 2).trans g2'
       have q2:w3.frozen? ⟨r.rb,2,none⟩=false:=(frozen_same' q0 2).trans (fz2 2)
       have HEND:Hid (RPost w (w3.setCell ⟨r.rb,2,none⟩ (.slice (some ⟨g,0,none⟩) (r.il.length+1) ic)) r (r.itered (It.made m see (.slice ro rs.length rc) rs) (.slice (some ⟨g,0,none⟩) (r.il.length+1) ic))) :=
        itered_end HH.out (HBA.out.trans (hal.mono HBA.out.size)) hown3 (by rw [HWV.out];exact hgrow3) (by rw [HWV.out];exact hat3.imp id (fun e=>by have:=HBA.out.size;omega)) (by omega) (ownsRow_since HO.out hal) (may_few HE0.out)
       clear q0 hown3 hgrow3 hat3 hlt3 hal))
   all_goals
    go_wp2_with fail
    go_ret2
    exact .inr ⟨HE0.out,m,_,_,rfl,hm1,hmN,by simp,HEND.out⟩
end
open Go.RowKit Go.Shelf Gv
section
variable {w w' W:World} {r:Rx} {s:Fo} {K:Nat→List Nat}
def Rx.stepped (r:Rx) (K:Nat→List Nat) (i:Nat) (it:It) (back:Bool):Rx:={ r with il:=r.il.set i { it with spot:=it.spot.stepped r.N K (accB r.kn r.tag it.see it.rl) back } }
theorem Rx.set_own {i:Nat} {it it':It} (hi:r.il[i]?=some it) (he:it'.rules=it.rules) {b:Nat} (hb:Rx.own { r with il:=r.il.set i it' } b):r.own b:=by
 rcases hb with h | h | h | h | h | h | h | ⟨x,hx,h⟩ | h
 ·exact .inl h
 ·exact .inr (.inl h)
 ·exact .inr (.inr (.inl h))
 ·exact .inr (.inr (.inr (.inl h)))
 ·exact Rx.own_w h
 ·exact Rx.own_i h
 ·exact Rx.own_q h
 ·have hx':x∈r.il.set i it':=hx
  rcases List.mem_or_eq_of_mem_set hx' with hx' | rfl
  ·exact Rx.own_ir hx' h
  ·exact Rx.own_ir (List.mem_of_getElem? hi) (by rw [← he];exact h)
 ·exact .inr (.inr (.inr (.inr (.inr (.inr (.inr (.inr h)))))))
theorem step_found {W3:World} {i:Nat} {it:It} {back:Bool} {ig n cap y:Nat} (h:RefOK W3 r) (hb:Below w.heap.size w W3) (hv:r.iv=.slice (some ⟨ig,0,none⟩) n cap) (hi:r.il[i]?=some it) (hy:y≠0) (hst:stepTo r.N K (accB r.kn r.tag it.see it.rl) it.spot back=y) :
  RPost w (((W3.setCell ⟨ig,i*5+3,none⟩ (.int .i64 y)).drew).setCell ⟨ig,i*5+4,none⟩ (.bool back)) r (r.stepped K i it back):=by
 have R4:=(h.putIt hv hi (j:=3) (it':={ it with spot:={ it.spot with place:=y } }) (v:=.int .i64 y) (by omega) rfl ⟨rfl,rfl⟩).drew
 have hat2:(r.il.set i { it with spot:={ it.spot with place:=y } })[i]?=some { it with spot:={ it.spot with place:=y } }:=by
  rw [List.getElem?_set,if_pos rfl,if_pos (List.getElem?_eq_some_iff.1 hi).1]
 have R5:=R4.putIt hv hat2 (j:=4) (it':={ it with spot:={ it.spot with place:=y,ahead:=back } }) (v:=.bool back) (by omega) rfl ⟨rfl,rfl⟩
 rw [List.set_set] at R5
 have hE:r.stepped K i it back={ r with il:=r.il.set i { it with spot:={ it.spot with place:=y,ahead:=back } } }:=by
  unfold Rx.stepped Spot.stepped
  rw [hst,if_neg hy]
 rw [hE]
 have hig:r.own ig:=Rx.own_i (by rw [hv];rfl)
 exact ⟨R5,(((Fr.of_below hb).setCell (p:=⟨ig,i*5+3,none⟩) hig _).drew).setCell (p:=⟨ig,i*5+4,none⟩) hig _,fun b hb=>.inl (Rx.set_own hi (by simp) hb),rfl⟩
theorem step_none {W3:World} {i:Nat} {it:It} {back:Bool} (h:RefOK W3 r) (h0:RefOK w r) (hb:Below w.heap.size w W3) (hi:r.il[i]?=some it) (hst:stepTo r.N K (accB r.kn r.tag it.see it.rl) it.spot back=0):RPost w W3 r (r.stepped K i it back):=by
 have hE:r.stepped K i it back=r:=by
  unfold Rx.stepped Spot.stepped
  rw [if_pos hst]
  have:r.il.set i { it with spot:=it.spot }=r.il:=set_self hi
  rw [this]
 rw [hE]
 exact RPost.of_below h0 hb
theorem find_back {acc:Nat→Bool} {l:List Nat} {j:Nat} (hj:j<l.length):((l.take (j+1)).reverse.find? acc)=if acc (l.getD j 0)=true then some (l.getD j 0) else (l.take j).reverse.find? acc:=by
 rw [List.take_add_one,List.getD_eq_getElem?_getD,List.getElem?_eq_getElem hj]
 simp only [Option.toList_some,List.reverse_append,List.reverse_cons,List.reverse_nil,List.nil_append,List.singleton_append,List.find?_cons,Option.getD_some]
 cases acc l[j] <;> simp
theorem find_on {acc:Nat→Bool} {l:List Nat} {j:Nat} (hj:j<l.length):((l.drop j).find? acc)=if acc (l.getD j 0)=true then some (l.getD j 0) else (l.drop (j+1)).find? acc:=by
 rw [List.drop_eq_getElem_cons hj,List.getD_eq_getElem?_getD,List.getElem?_eq_getElem hj]
 simp only [List.find?_cons,Option.getD_some]
 cases acc l[j] <;> simp
def StepR (w:World) (r:Rx) (K:Nat→List Nat) (n:Int) (back:Bool) (e:Ending) (w':World):Prop :=
 ((n<1∨((r.il.length:Nat):Int)<n)∧e=.returned (.tuple #[.int .i64 0,.int .i64 10])∧w'=w)∨∃ (i:Nat) (it:It),n=((i+1:Nat):Int)∧r.il[i]?=some it∧e=.returned (.tuple #[.int .i64 (stepTo r.N K (accB r.kn r.tag it.see it.rl) it.spot back:Nat),.int .i64 0])∧RPost w w' r (r.stepped K i it back)
theorem StepR.mk' {i y:Nat} {it:It} {back:Bool} (hi:r.il[i]?=some it) (hy:stepTo r.N K (accB r.kn r.tag it.see it.rl) it.spot back=y) (hP:RPost w w' r (r.stepped K i it back)):StepR w r K ((i+1:Nat):Int) back (.returned (.tuple #[.int .i64 y,.int .i64 0])) w':=.inr ⟨i,it,rfl,hi,by rw [hy],hP⟩
theorem refStep (h:RefOK w r) (hwf:WF r.N s K) (hK:r.K=K) (hkn:∀ i,1≤i→i≤r.N→r.kn i≤4) (hso:∀ x,x∈r.il→x.Sound r.N s) (hsee:∀ x,x∈r.il→0≤x.see∧x.see≤30) (n:Int) (back:Bool) :
  Calls Tryz.prog 110 #[.pointer (some ⟨r.rb,0,none⟩),.int .i64 n,.bool back] w (StepR w r K n back):=by
 have HH:Hid (RefOK w r):=h
 have HW:Hid (WF r.N s K):=hwf
 have HK:Hid (r.K=K):=hK
 have HKN:Hid (∀ i,1≤i→i≤r.N→r.kn i≤4):=hkn
 have hN:=h.hN
 have h50:=h.ifew
 obtain ⟨iao,icap,hiv,hic,hiF⟩:=rowForm h.its
 have c2:w.cell? ⟨r.rb,2,none⟩=some (.slice iao r.il.length icap):=by rw [← hiv];exact h.c2
 rcases thing_cases n r.il.length with hn | ⟨i,hi,rfl⟩
 ·have HN:Hid (n<1∨((r.il.length:Nat):Int)<n):=hn
  clear h hwf hK hkn hso hsee hiv hic hiF
  by_cases h1:n<1
  ·have e1:decide (n<1)=true:=by simpa using h1
   go_enter Tryz.func110, Tryz.ntmps110
   go_wp2_with fail
   go_ret2
   exact .inl ⟨HN.out,rfl,rfl⟩
  ·have h2:((r.il.length:Nat):Int)<n:=by omega
   have e1:decide (n<1)=false:=by simpa using h1
   have e2:decide (((r.il.length:Nat):Int)<n)=true:=by simpa using h2
   go_enter Tryz.func110, Tryz.ntmps110
   go_wp2_with fail
   go_ret2
   exact .inl ⟨HN.out,rfl,rfl⟩
 ·obtain ⟨it,hit⟩:∃ it,r.il[i]?=some it:=⟨_,List.getElem?_eq_getElem hi⟩
  have hm:=List.mem_of_getElem? hit
  have hs1:=hso it hm
  obtain ⟨sv,hsv⟩:=Int.eq_ofNat_of_zero_le (hsee it hm).1
  have hsv30:sv≤30:=by have:=(hsee it hm).2;omega
  rcases hiF with h0 | ⟨ig,rfl,higs,hiC⟩
  ·omega
  obtain ⟨rao,rcap,hrv,_,_⟩:=rowForm (h.irl it hm).1
  have HIV:Hid (r.iv=.slice (some ⟨ig,0,none⟩) r.il.length icap):=hiv
  have k0:w.cell? ⟨ig,i*5,none⟩=some (.int .i64 it.spot.root):=h.itCell hiv hit (j:=0) (by omega)
  have k1:w.cell? ⟨ig,i*5+1,none⟩=some (.int .i64 (sv:Nat)):=by rw [← show it.see=((sv:Nat):Int) from hsv];exact h.itCell hiv hit (j:=1) (by omega)
  have k2:w.cell? ⟨ig,i*5+2,none⟩=some (.slice rao it.rl.length rcap):=by rw [← hrv];exact h.itCell hiv hit (j:=2) (by omega)
  have k3:w.cell? ⟨ig,i*5+3,none⟩=some (.int .i64 it.spot.place):=h.itCell hiv hit (j:=3) (by omega)
  have k4:w.cell? ⟨ig,i*5+4,none⟩=some (.bool it.spot.ahead):=h.itCell hiv hit (j:=4) (by omega)
  have HRL:Hid (w.ownsRow 0 207 2 (.slice rao it.rl.length rcap) it.rl.length (it.rl.flatMap rrow)∧it.rl.length≤10):=by rw [← hrv];exact h.irl it hm
  have HIT:Hid (r.il[i]?=some it):=hit
  have HSV:Hid (it.see=((sv:Nat):Int)):=hsv
  have hr1:1≤it.spot.root:=hs1.1
  have hrN:it.spot.root≤r.N:=hs1.2.1
  have HPM:Hid (it.spot.place∈P r.N K it.spot.root):=(P_mem hwf (by omega) hs1.2.2.1 hs1.2.2.2.1 hr1).2 hs1.2.2.2.2
  have HI:Hid (∀ y,y∈P r.N K it.spot.root→1≤y∧y≤r.N):=fun y hy=>pre_le hwf r.N _ y hr1 hrN hy
  have hpl:=P_len hwf hr1 hrN
  have e1:decide ((i:Int)+1<1)=false:=by simp;omega
  have e2:decide (((r.il.length:Nat):Int)<(i:Int)+1)=false:=by simp;omega
  have hil:(i:Int)<((r.il.length:Nat):Int):=by omega
  have ltb:=h.ltb
  clear h hwf hK hkn hso hsee hs1 hsv hrv hit hm hiv hiC
  have hbA:Below w.heap.size w (w.alloc (.cells #[.int .i64 it.spot.root,.int .i64 (sv:Nat),.slice rao it.rl.length rcap,.int .i64 it.spot.place,.bool it.spot.ahead] 206)):=(Below.refl _ _).alloc (Nat.le_refl _) _
  have hob:=heap_alloc_new w (.cells #[.int .i64 it.spot.root,.int .i64 (sv:Nat),.slice rao it.rl.length rcap,.int .i64 it.spot.place,.bool it.spot.ahead] 206)
  have HBA:Hid (Below w.heap.size w (w.alloc (.cells #[.int .i64 it.spot.root,.int .i64 (sv:Nat),.slice rao it.rl.length rcap,.int .i64 it.spot.place,.bool it.spot.ahead] 206))):=hbA
  have HOB:Hid ((w.alloc (.cells #[.int .i64 it.spot.root,.int .i64 (sv:Nat),.slice rao it.rl.length rcap,.int .i64 it.spot.place,.bool it.spot.ahead] 206)).heap[w.heap.size]?=some (.cells #[.int .i64 it.spot.root,.int .i64 (sv:Nat),.slice rao it.rl.length rcap,.int .i64 it.spot.place,.bool it.spot.ahead] 206 (0,0))):=hob
  have o0:=cells_of hob 0
  have hsA:(w.alloc (.cells #[.int .i64 it.spot.root,.int .i64 (sv:Nat),.slice rao it.rl.length rcap,.int .i64 it.spot.place,.bool it.spot.ahead] 206)).heap.size=w.heap.size+1:=by simp
  clear hob hbA
  cases back with
  | true =>
   have HST:Hid (stepTo r.N K (accB r.kn r.tag it.see it.rl) it.spot true=(((P r.N K it.spot.root).take (it.spot.at_ ((P r.N K it.spot.root).idxOf it.spot.place))).reverse.find? (accB r.kn r.tag it.see it.rl)).getD 0):=rfl
   go_enter Tryz.func110, Tryz.ntmps110
   go_wp2_with fail
   generalize hW1:w.alloc (.cells #[.int .i64 it.spot.root,.int .i64 (sv:Nat),.slice rao it.rl.length rcap,.int .i64 it.spot.place,.bool it.spot.ahead] 206)=W1 at *
   refine (refWithin (HH.out.since HBA.out) HW.out HK.out it.spot.root hr1 hrN).mono ?_
   rintro e w2 ⟨v,rfl,hv,hb2⟩
   obtain ⟨l,hl⟩:∃ l,l=P r.N K it.spot.root:=⟨_,rfl⟩
   rw [← hl] at hv HPM HI hpl HST
   have HV:Hid (w2.ownsRow W1.heap.size 3 1 v l.length (ints l)):=hv
   obtain ⟨lao,lcap,rfl,hnum⟩:=nums_form hv rfl
   have HNU:Hid (l.length=0∨∃ g,lao=some ⟨g,0,none⟩∧g<w2.heap.size∧∀ j,j<l.length→w2.cell? ⟨g,j,none⟩=some (.int .i64 (l.getD j 0:Nat))):=hnum
   have HB2:Hid (Below w.heap.size w w2):=HBA.out.trans (hb2.mono (by omega))
   have hob2:=(hb2.block w.heap.size (by omega)).trans HOB.out
   have HOB2:Hid (w2.heap[w.heap.size]?=some (.cells #[.int .i64 it.spot.root,.int .i64 (sv:Nat),.slice rao it.rl.length rcap,.int .i64 it.spot.place,.bool it.spot.ahead] 206 (0,0))):=hob2
   have HND:Hid (l.Nodup):=by rw [hl];exact P_nodup HW.out hr1 hrN
   clear o0
   have o3:=cells_of hob2 3
   have o4:=cells_of hob2 4
   have hlt2:w.heap.size<w2.heap.size:=lt_of_block hob2
   clear hv hnum hb2 hob2 hl HBA HOB hW1 hsA
   go_wp2_with fail
   refine (refAt w2 _ l it.spot.place _ HV.out rfl (by omega) HPM.out).mono ?_
   rintro e W4 ⟨hW3,q,hql,hq,rfl⟩
   subst hW3
   have HQ:Hid (l.idxOf it.spot.place=q):=idx_same HND.out (idxOf_get HPM.out) hq
   clear hq
   go_upto_if 42 with fail
   go_cut [10] (fun t wx=>t=.int .i64 ((it.spot.at_ q:Nat)-1:Int)∧wx=W4)
   case first =>
    cases ha:it.spot.ahead with
    | true =>
     rw [ha] at o4
     go_wp2_with fail
     go_meet
     case rel=>exact ⟨by simp [Spot.at_,ha],rfl⟩
    | false =>
     rw [ha] at o4
     go_wp2_with fail
     go_meet
     case rel=>exact ⟨by simp [Spot.at_,ha],rfl⟩
   case rest =>
    obtain ⟨rfl,hwc⟩:=hcut
    subst hwc
    have HST2:Hid (stepTo r.N K (accB r.kn r.tag it.see it.rl) it.spot true=((l.take (it.spot.at_ q)).reverse.find? (accB r.kn r.tag it.see it.rl)).getD 0):=by show stepTo r.N K (accB r.kn r.tag it.see it.rl) it.spot true=_;rw [HST.out,HQ.out]
    have haq:it.spot.at_ q≤l.length:=by unfold Spot.at_;split <;> omega
    generalize it.spot.at_ q=a0 at *
    obtain ⟨w3,hw3⟩:∃ w3:World,w3=wc:=⟨_,rfl⟩
    subst hw3
    go_wp2_with fail
    go_loopw [10] (fun t wr=>∃ j:Nat,j≤l.length∧t=.int .i64 ((j:Nat)-1:Int)∧Below w3.heap.size w3 wr∧stepTo r.N K (accB r.kn r.tag it.see it.rl) it.spot true=((l.take j).reverse.find? (accB r.kn r.tag it.see it.rl)).getD 0) (fun t _=>(intOf t+1).toNat)
    case atStart=>exact ⟨a0,haq,rfl,Below.refl _ _,HST2.out⟩
    case round =>
     obtain ⟨j,hjl,rfl,hb4,hst4⟩:=hrel
     obtain ⟨w4,rfl⟩:∃ w4:World,w4=wr:=⟨_,rfl⟩
     have HB4:Hid (Below w3.heap.size w3 w4):=hb4
     have HST4:Hid (stepTo r.N K (accB r.kn r.tag it.see it.rl) it.spot true=((l.take j).reverse.find? (accB r.kn r.tag it.see it.rl)).getD 0):=hst4
     have R4:Hid (RefOK w4 r):=HH.out.since (HB2.out.trans (hb4.mono HB2.out.size))
     have hob4:=(hb4.block w.heap.size hlt2).trans HOB2.out
     have HOB4:Hid (w4.heap[w.heap.size]?=some (.cells #[.int .i64 it.spot.root,.int .i64 (sv:Nat),.slice rao it.rl.length rcap,.int .i64 it.spot.place,.bool it.spot.ahead] 206 (0,0))):=hob4
     clear o3 o4
     have o1:=cells_of hob4 1
     have o2:=cells_of hob4 2
     clear hb4 hst4 hob4
     by_cases hgo:1≤j
     ·obtain ⟨j,rfl⟩:∃ j0,j=j0+1:=⟨j-1,by omega⟩
      have hjj:j<l.length:=by omega
      rw [show (((j+1:Nat):Int)-1)=(j:Int) by omega]
      rcases HNU.out with h0 | ⟨g,rfl,hgs,hc⟩
      ·omega
      have cj:w4.cell? ⟨g,j,none⟩=some (.int .i64 (l.getD j 0:Nat)):=(HB4.out.cell (p:=⟨g,j,none⟩) hgs).trans (hc j hjj)
      have hmem:l.getD j 0∈l:=by rw [List.getD_eq_getElem?_getD,List.getElem?_eq_getElem hjj];exact List.getElem_mem _
      have hy:=HI.out _ hmem
      have HFD:Hid (((l.take (j+1)).reverse.find? (accB r.kn r.tag it.see it.rl))=if accB r.kn r.tag it.see it.rl (l.getD j 0)=true then some (l.getD j 0) else (l.take j).reverse.find? (accB r.kn r.tag it.see it.rl)):=find_back hjj
      generalize l.getD j 0=y at *
      have ibl:((j:Nat):Int)<(l.length:Int):=by omega
      obtain ⟨vv,hvv⟩:∃ vv,saysF (sv:Int) it.rl (r.kn y) (r.tag y)=vv:=⟨_,rfl⟩
      have HOF:Hid (Calls Tryz.prog 157 #[.pointer (some ⟨r.rb,0,none⟩),.agg #[.int .i64 (sv:Nat),.slice rao it.rl.length rcap],.int .i64 y] w4.drew fun e w'=>e=.returned (.int .i64 vv)∧Below w4.drew.heap.size w4.drew w'):=by
       have:=refOf (D:=0) R4.out.drew y hy.2 (HKN.out y hy.1 hy.2) sv hsv30 (.slice rao it.rl.length rcap) it.rl (row_keep HRL.out.1 (fun b hb=>(HB4.out.block b (by have:=(HRL.out.1.lt b hb).2;have:=HB2.out.size;omega)).trans (HB2.out.block b (HRL.out.1.lt b hb).2))) HRL.out.2
       rw [hvv] at this
       exact this
      have HAC:Hid (accB r.kn r.tag it.see it.rl y=decide (vv=1)):=by show accB r.kn r.tag it.see it.rl y=decide (vv=1);unfold accB;rw [HSV.out,hvv]
      have hlv:w4.heap.size≤w4.drew.heap.size:=Nat.le_refl _
      have hlt4:w.heap.size<w4.heap.size:=lt_of_block HOB4.out
      have hgs4:g<w4.heap.size:=Nat.lt_of_lt_of_le hgs HB4.out.size
      have CJ:Hid (w4.cell? ⟨g,j,none⟩=some (.int .i64 (y:Nat))):=cj
      clear hc hmem hvv
      go_wp2_with fail
      go_upto_region 10 with fail
      go_cut [11] (fun t wx=>t=.int .i64 vv∧Below w4.heap.size w4 wx)
      case first =>
       go_region_held3 (fun wx=>wx.cell? ⟨g,j,none⟩=some (.int .i64 y)∧wx.cell? ⟨w.heap.size,1,none⟩=some (.int .i64 (sv:Nat))∧wx.cell? ⟨w.heap.size,2,none⟩=some (.slice rao it.rl.length rcap)) (first | exact ⟨cj,o1,o2⟩ | exact ⟨y0,y1,y2⟩ | go_keep) ((go_at_call 157;(with_reducible refine Calls.mono HOF.out ?_);rintro e w5 ⟨rfl,hb5⟩;have HB5:Hid (Below w4.heap.size w4 w5):=(Below.refl _ w4).drew.trans hb5;have y0:w5.cell? ⟨g,j,none⟩=some (.int .i64 y):=(HB5.out.cell (p:=⟨g,j,none⟩) hgs4).trans cj;have y1:w5.cell? ⟨w.heap.size,1,none⟩=some (.int .i64 (sv:Nat)):=(HB5.out.cell (p:=⟨w.heap.size,1,none⟩) hlt4).trans o1;have y2:w5.cell? ⟨w.heap.size,2,none⟩=some (.slice rao it.rl.length rcap):=(HB5.out.cell (p:=⟨w.heap.size,2,none⟩) hlt4).trans o2;clear hb5))
       all_goals
        clear y0 y1 y2
        go_wp2_with fail
        go_meet
        case rel=>exact ⟨rfl,HB5.out⟩
      case rest =>
       obtain ⟨rfl,hb5⟩:=hcut
       obtain ⟨w5,hw5⟩:∃ w5:World,w5=wc:=⟨_,rfl⟩
       subst hw5
       have HB5:Hid (Below w3.heap.size w3 w5):=HB4.out.trans (hb5.mono HB4.out.size)
       have R5:Hid (RefOK w5 r):=R4.out.since hb5
       clear o1 o2 cj HOF
       by_cases hv1:vv=1
       ·have q1:(vv == 1)=true:=by simpa using hv1
        have HY:Hid (stepTo r.N K (accB r.kn r.tag it.see it.rl) it.spot true=y):=by
         show stepTo r.N K (accB r.kn r.tag it.see it.rl) it.spot true=y
         rw [HST4.out,HFD.out,if_pos (by rw [HAC.out];simpa using hv1)];rfl
        have HP:Hid (RPost w (((w5.setCell ⟨ig,i*5+3,none⟩ (.int .i64 y)).drew).setCell ⟨ig,i*5+4,none⟩ (.bool true)) r (r.stepped K i it true)):=step_found R5.out (HB2.out.trans (HB5.out.mono HB2.out.size)) HIV.out HIT.out (by omega) HY.out
        have cj5:w5.cell? ⟨g,j,none⟩=some (.int .i64 y):=(hb5.cell (p:=⟨g,j,none⟩) hgs4).trans CJ.out
        have c25:w5.cell? ⟨r.rb,2,none⟩=some (.slice (some ⟨ig,0,none⟩) r.il.length icap):=by rw [← HIV.out];exact R5.out.c2
        have k35:w5.cell? ⟨ig,i*5+3,none⟩=some (.int .i64 it.spot.place):=R5.out.itCell HIV.out HIT.out (j:=3) (by omega)
        have k45:w5.cell? ⟨ig,i*5+4,none⟩=some (.bool it.spot.ahead):=R5.out.itCell HIV.out HIT.out (j:=4) (by omega)
        have f5:∀ j,w5.frozen? ⟨ig,j,none⟩=false:=R5.out.ifree HIV.out
        have hgig:g≠ig:=by
         intro e
         obtain ⟨cs1,h1⟩:=row_block (row_keep HV.out (fun b hb=>HB5.out.block b (HV.out.lt b hb).2)) (g:=g) rfl
         have h2:=R5.out.its
         rw [HIV.out] at h2
         exact row_ne h2 h1 (by decide) (by rw [e];rfl)
        have hrig:r.rb≠ig:=by
         intro e
         have h2:=R5.out.its
         rw [HIV.out] at h2
         exact row_ne h2 R5.out.g (by decide) (by rw [e];rfl)
        clear hb5
        go_wp2_with fail
        go_region
        go_wp2_with fail
        go_ret2
        exact StepR.mk' HIT.out HY.out HP.out
       ·have q1:(vv == 1)=false:=by simpa using hv1
        have HST5:Hid (stepTo r.N K (accB r.kn r.tag it.see it.rl) it.spot true=((l.take j).reverse.find? (accB r.kn r.tag it.see it.rl)).getD 0):=by
         show stepTo r.N K (accB r.kn r.tag it.see it.rl) it.spot true=_
         rw [HST4.out,HFD.out,if_neg (by rw [HAC.out];simpa using hv1)]
        clear hb5
        go_wp2_with fail
        go_roundw
        case rel=>exact ⟨j,by omega,by go_num,HB5.out,HST5.out⟩
        case measure=>first | (simp [intOf];done) | (simp [intOf];omega)
     ·have hno:¬ (0:Int)≤(j:Int)-1:=by omega
      have HZ:Hid (stepTo r.N K (accB r.kn r.tag it.see it.rl) it.spot true=0):=by
       show stepTo r.N K (accB r.kn r.tag it.see it.rl) it.spot true=0
       rw [HST4.out,show j=0 by omega,List.take_zero];rfl
      have HP:Hid (RPost w w4 r (r.stepped K i it true)):=step_none R4.out HH.out (HB2.out.trans (HB4.out.mono HB2.out.size)) HIT.out HZ.out
      go_wp2_with fail
      go_ret2
      exact StepR.mk' HIT.out HZ.out HP.out
  | false =>
   have HST:Hid (stepTo r.N K (accB r.kn r.tag it.see it.rl) it.spot false=(((P r.N K it.spot.root).drop (it.spot.at_ ((P r.N K it.spot.root).idxOf it.spot.place))).find? (accB r.kn r.tag it.see it.rl)).getD 0):=rfl
   go_enter Tryz.func110, Tryz.ntmps110
   go_wp2_with fail
   generalize hW1:w.alloc (.cells #[.int .i64 it.spot.root,.int .i64 (sv:Nat),.slice rao it.rl.length rcap,.int .i64 it.spot.place,.bool it.spot.ahead] 206)=W1 at *
   refine (refWithin (HH.out.since HBA.out) HW.out HK.out it.spot.root hr1 hrN).mono ?_
   rintro e w2 ⟨v,rfl,hv,hb2⟩
   obtain ⟨l,hl⟩:∃ l,l=P r.N K it.spot.root:=⟨_,rfl⟩
   rw [← hl] at hv HPM HI hpl HST
   have HV:Hid (w2.ownsRow W1.heap.size 3 1 v l.length (ints l)):=hv
   obtain ⟨lao,lcap,rfl,hnum⟩:=nums_form hv rfl
   have HNU:Hid (l.length=0∨∃ g,lao=some ⟨g,0,none⟩∧g<w2.heap.size∧∀ j,j<l.length→w2.cell? ⟨g,j,none⟩=some (.int .i64 (l.getD j 0:Nat))):=hnum
   have HB2:Hid (Below w.heap.size w w2):=HBA.out.trans (hb2.mono (by omega))
   have hob2:=(hb2.block w.heap.size (by omega)).trans HOB.out
   have HOB2:Hid (w2.heap[w.heap.size]?=some (.cells #[.int .i64 it.spot.root,.int .i64 (sv:Nat),.slice rao it.rl.length rcap,.int .i64 it.spot.place,.bool it.spot.ahead] 206 (0,0))):=hob2
   have HND:Hid (l.Nodup):=by rw [hl];exact P_nodup HW.out hr1 hrN
   clear o0
   have o3:=cells_of hob2 3
   have o4:=cells_of hob2 4
   have hlt2:w.heap.size<w2.heap.size:=lt_of_block hob2
   clear hv hnum hb2 hob2 hl HBA HOB hW1 hsA
   go_wp2_with fail
   refine (refAt w2 _ l it.spot.place _ HV.out rfl (by omega) HPM.out).mono ?_
   rintro e W4 ⟨hW3,q,hql,hq,rfl⟩
   subst hW3
   have HQ:Hid (l.idxOf it.spot.place=q):=idx_same HND.out (idxOf_get HPM.out) hq
   clear hq
   go_upto_if 85 with fail
   go_cut [10] (fun t wx=>t=.int .i64 (it.spot.at_ q:Nat)∧wx=W4)
   case first =>
    cases ha:it.spot.ahead with
    | true =>
     rw [ha] at o4
     go_wp2_with fail
     go_meet
     case rel=>exact ⟨by simp [Spot.at_,ha],rfl⟩
    | false =>
     rw [ha] at o4
     go_wp2_with fail
     go_meet
     case rel=>exact ⟨by simp [Spot.at_,ha],rfl⟩
   case rest =>
    obtain ⟨rfl,hwc⟩:=hcut
    subst hwc
    have HST2:Hid (stepTo r.N K (accB r.kn r.tag it.see it.rl) it.spot false=((l.drop (it.spot.at_ q)).find? (accB r.kn r.tag it.see it.rl)).getD 0):=by show stepTo r.N K (accB r.kn r.tag it.see it.rl) it.spot false=_;rw [HST.out,HQ.out]
    have haq:it.spot.at_ q≤l.length:=by unfold Spot.at_;split <;> omega
    generalize it.spot.at_ q=a0 at *
    obtain ⟨w3,hw3⟩:∃ w3:World,w3=wc:=⟨_,rfl⟩
    subst hw3
    go_wp2_with fail
    go_loopw [10] (fun t wr=>∃ j:Nat,j≤l.length∧t=.int .i64 (j:Nat)∧Below w3.heap.size w3 wr∧stepTo r.N K (accB r.kn r.tag it.see it.rl) it.spot false=((l.drop j).find? (accB r.kn r.tag it.see it.rl)).getD 0) (fun t _=>l.length-(intOf t).toNat)
    case atStart=>exact ⟨a0,haq,rfl,Below.refl _ _,HST2.out⟩
    case round =>
     obtain ⟨j,hjl,rfl,hb4,hst4⟩:=hrel
     obtain ⟨w4,rfl⟩:∃ w4:World,w4=wr:=⟨_,rfl⟩
     have HB4:Hid (Below w3.heap.size w3 w4):=hb4
     have HST4:Hid (stepTo r.N K (accB r.kn r.tag it.see it.rl) it.spot false=((l.drop j).find? (accB r.kn r.tag it.see it.rl)).getD 0):=hst4
     have R4:Hid (RefOK w4 r):=HH.out.since (HB2.out.trans (hb4.mono HB2.out.size))
     have hob4:=(hb4.block w.heap.size hlt2).trans HOB2.out
     have HOB4:Hid (w4.heap[w.heap.size]?=some (.cells #[.int .i64 it.spot.root,.int .i64 (sv:Nat),.slice rao it.rl.length rcap,.int .i64 it.spot.place,.bool it.spot.ahead] 206 (0,0))):=hob4
     clear o3 o4
     have o1:=cells_of hob4 1
     have o2:=cells_of hob4 2
     clear hb4 hst4 hob4
     by_cases hgo:j<l.length
     ·have hjj:j<l.length:=hgo
      rcases HNU.out with h0 | ⟨g,rfl,hgs,hc⟩
      ·omega
      have cj:w4.cell? ⟨g,j,none⟩=some (.int .i64 (l.getD j 0:Nat)):=(HB4.out.cell (p:=⟨g,j,none⟩) hgs).trans (hc j hjj)
      have hmem:l.getD j 0∈l:=by rw [List.getD_eq_getElem?_getD,List.getElem?_eq_getElem hjj];exact List.getElem_mem _
      have hy:=HI.out _ hmem
      have HFD:Hid (((l.drop j).find? (accB r.kn r.tag it.see it.rl))=if accB r.kn r.tag it.see it.rl (l.getD j 0)=true then some (l.getD j 0) else (l.drop (j+1)).find? (accB r.kn r.tag it.see it.rl)):=find_on hjj
      generalize l.getD j 0=y at *
      have ibl:((j:Nat):Int)<(l.length:Int):=by omega
      obtain ⟨vv,hvv⟩:∃ vv,saysF (sv:Int) it.rl (r.kn y) (r.tag y)=vv:=⟨_,rfl⟩
      have HOF:Hid (Calls Tryz.prog 157 #[.pointer (some ⟨r.rb,0,none⟩),.agg #[.int .i64 (sv:Nat),.slice rao it.rl.length rcap],.int .i64 y] w4.drew fun e w'=>e=.returned (.int .i64 vv)∧Below w4.drew.heap.size w4.drew w'):=by
       have:=refOf (D:=0) R4.out.drew y hy.2 (HKN.out y hy.1 hy.2) sv hsv30 (.slice rao it.rl.length rcap) it.rl (row_keep HRL.out.1 (fun b hb=>(HB4.out.block b (by have:=(HRL.out.1.lt b hb).2;have:=HB2.out.size;omega)).trans (HB2.out.block b (HRL.out.1.lt b hb).2))) HRL.out.2
       rw [hvv] at this
       exact this
      have HAC:Hid (accB r.kn r.tag it.see it.rl y=decide (vv=1)):=by show accB r.kn r.tag it.see it.rl y=decide (vv=1);unfold accB;rw [HSV.out,hvv]
      have hlv:w4.heap.size≤w4.drew.heap.size:=Nat.le_refl _
      have hlt4:w.heap.size<w4.heap.size:=lt_of_block HOB4.out
      have hgs4:g<w4.heap.size:=Nat.lt_of_lt_of_le hgs HB4.out.size
      have CJ:Hid (w4.cell? ⟨g,j,none⟩=some (.int .i64 (y:Nat))):=cj
      clear hc hmem hvv
      go_wp2_with fail
      go_upto_region 20 with fail
      go_cut [12] (fun t wx=>t=.int .i64 vv∧Below w4.heap.size w4 wx)
      case first =>
       go_region_held3 (fun wx=>wx.cell? ⟨g,j,none⟩=some (.int .i64 y)∧wx.cell? ⟨w.heap.size,1,none⟩=some (.int .i64 (sv:Nat))∧wx.cell? ⟨w.heap.size,2,none⟩=some (.slice rao it.rl.length rcap)) (first | exact ⟨cj,o1,o2⟩ | exact ⟨y0,y1,y2⟩ | go_keep) ((go_at_call 157;(with_reducible refine Calls.mono HOF.out ?_);rintro e w5 ⟨rfl,hb5⟩;have HB5:Hid (Below w4.heap.size w4 w5):=(Below.refl _ w4).drew.trans hb5;have y0:w5.cell? ⟨g,j,none⟩=some (.int .i64 y):=(HB5.out.cell (p:=⟨g,j,none⟩) hgs4).trans cj;have y1:w5.cell? ⟨w.heap.size,1,none⟩=some (.int .i64 (sv:Nat)):=(HB5.out.cell (p:=⟨w.heap.size,1,none⟩) hlt4).trans o1;have y2:w5.cell? ⟨w.heap.size,2,none⟩=some (.slice rao it.rl.length rcap):=(HB5.out.cell (p:=⟨w.heap.size,2,none⟩) hlt4).trans o2;clear hb5))
       all_goals
        clear y0 y1 y2
        go_wp2_with fail
        go_meet
        case rel=>exact ⟨rfl,HB5.out⟩
      case rest =>
       obtain ⟨rfl,hb5⟩:=hcut
       obtain ⟨w5,hw5⟩:∃ w5:World,w5=wc:=⟨_,rfl⟩
       subst hw5
       have HB5:Hid (Below w3.heap.size w3 w5):=HB4.out.trans (hb5.mono HB4.out.size)
       have R5:Hid (RefOK w5 r):=R4.out.since hb5
       clear o1 o2 cj HOF
       by_cases hv1:vv=1
       ·have q1:(vv == 1)=true:=by simpa using hv1
        have HY:Hid (stepTo r.N K (accB r.kn r.tag it.see it.rl) it.spot false=y):=by
         show stepTo r.N K (accB r.kn r.tag it.see it.rl) it.spot false=y
         rw [HST4.out,HFD.out,if_pos (by rw [HAC.out];simpa using hv1)];rfl
        have HP:Hid (RPost w (((w5.setCell ⟨ig,i*5+3,none⟩ (.int .i64 y)).drew).setCell ⟨ig,i*5+4,none⟩ (.bool false)) r (r.stepped K i it false)):=step_found R5.out (HB2.out.trans (HB5.out.mono HB2.out.size)) HIV.out HIT.out (by omega) HY.out
        have cj5:w5.cell? ⟨g,j,none⟩=some (.int .i64 y):=(hb5.cell (p:=⟨g,j,none⟩) hgs4).trans CJ.out
        have c25:w5.cell? ⟨r.rb,2,none⟩=some (.slice (some ⟨ig,0,none⟩) r.il.length icap):=by rw [← HIV.out];exact R5.out.c2
        have k35:w5.cell? ⟨ig,i*5+3,none⟩=some (.int .i64 it.spot.place):=R5.out.itCell HIV.out HIT.out (j:=3) (by omega)
        have k45:w5.cell? ⟨ig,i*5+4,none⟩=some (.bool it.spot.ahead):=R5.out.itCell HIV.out HIT.out (j:=4) (by omega)
        have f5:∀ j,w5.frozen? ⟨ig,j,none⟩=false:=R5.out.ifree HIV.out
        have hgig:g≠ig:=by
         intro e
         obtain ⟨cs1,h1⟩:=row_block (row_keep HV.out (fun b hb=>HB5.out.block b (HV.out.lt b hb).2)) (g:=g) rfl
         have h2:=R5.out.its
         rw [HIV.out] at h2
         exact row_ne h2 h1 (by decide) (by rw [e];rfl)
        have hrig:r.rb≠ig:=by
         intro e
         have h2:=R5.out.its
         rw [HIV.out] at h2
         exact row_ne h2 R5.out.g (by decide) (by rw [e];rfl)
        clear hb5
        go_wp2_with fail
        go_region
        go_wp2_with fail
        go_ret2
        exact StepR.mk' HIT.out HY.out HP.out
       ·have q1:(vv == 1)=false:=by simpa using hv1
        have HST5:Hid (stepTo r.N K (accB r.kn r.tag it.see it.rl) it.spot false=((l.drop (j+1)).find? (accB r.kn r.tag it.see it.rl)).getD 0):=by
         show stepTo r.N K (accB r.kn r.tag it.see it.rl) it.spot false=_
         rw [HST4.out,HFD.out,if_neg (by rw [HAC.out];simpa using hv1)]
        clear hb5
        go_wp2_with fail
        go_roundw
        case rel=>exact ⟨j+1,by omega,by go_num,HB5.out,HST5.out⟩
        case measure=>first | (simp [intOf];done) | (simp [intOf];omega)
     ·have hno:¬ (j:Int)<(l.length:Int):=by omega
      have HZ:Hid (stepTo r.N K (accB r.kn r.tag it.see it.rl) it.spot false=0):=by
       show stepTo r.N K (accB r.kn r.tag it.see it.rl) it.spot false=0
       rw [HST4.out,List.drop_of_length_le (by omega)];rfl
      have HP:Hid (RPost w w4 r (r.stepped K i it false)):=step_none R4.out HH.out (HB2.out.trans (HB4.out.mono HB2.out.size)) HIT.out HZ.out
      go_wp2_with fail
      go_ret2
      exact StepR.mk' HIT.out HZ.out HP.out
end
open Go.RowKit Go.Shelf Gv
section
variable {w w' W:World} {r:Rx}
def AtR (w:World) (r:Rx) (n:Int) (e:Ending) (w':World):Prop:=Below w.heap.size w w' ∧
 (((n<1∨((r.il.length:Nat):Int)<n)∧e=.returned (.tuple #[.int .i64 0,.bool false,.int .i64 10]))∨∃ (i:Nat) (it:It),n=((i+1:Nat):Int)∧r.il[i]?=some it∧e=.returned (.tuple #[.int .i64 it.spot.place,.bool it.spot.ahead,.int .i64 0]))
theorem refItAt (h:RefOK w r) (n:Int) :
  Calls Tryz.prog 111 #[.pointer (some ⟨r.rb,0,none⟩),.int .i64 n] w (AtR w r n):=by
 have h50:=h.ifew
 obtain ⟨iao,icap,hiv,hic,hiF⟩:=rowForm h.its
 have c2:w.cell? ⟨r.rb,2,none⟩=some (.slice iao r.il.length icap):=by rw [← hiv];exact h.c2
 rcases thing_cases n r.il.length with hn | ⟨i,hi,rfl⟩
 ·have HN:Hid (n<1∨((r.il.length:Nat):Int)<n):=hn
  clear h hiv hic hiF
  by_cases h1:n<1
  ·have e1:decide (n<1)=true:=by simpa using h1
   go_enter Tryz.func111, Tryz.ntmps111
   go_wp2_with fail
   go_ret3
   exact ⟨Below.refl _ _,.inl ⟨HN.out,rfl⟩⟩
  ·have h2:((r.il.length:Nat):Int)<n:=by omega
   have e1:decide (n<1)=false:=by simpa using h1
   have e2:decide (((r.il.length:Nat):Int)<n)=true:=by simpa using h2
   go_enter Tryz.func111, Tryz.ntmps111
   go_wp2_with fail
   go_ret3
   exact ⟨Below.refl _ _,.inl ⟨HN.out,rfl⟩⟩
 ·obtain ⟨it,hit⟩:∃ it,r.il[i]?=some it:=⟨_,List.getElem?_eq_getElem hi⟩
  have hm:=List.mem_of_getElem? hit
  rcases hiF with h0 | ⟨ig,rfl,higs,hiC⟩
  ·omega
  obtain ⟨rao,rcap,hrv,_,hrC⟩:=rowForm (h.irl it hm).1
  have k0:w.cell? ⟨ig,i*5,none⟩=some (.int .i64 it.spot.root):=h.itCell hiv hit (j:=0) (by omega)
  have k1:w.cell? ⟨ig,i*5+1,none⟩=some (.int .i64 it.see):=h.itCell hiv hit (j:=1) (by omega)
  have k2:w.cell? ⟨ig,i*5+2,none⟩=some (.slice rao it.rl.length rcap):=by rw [← hrv];exact h.itCell hiv hit (j:=2) (by omega)
  have k3:w.cell? ⟨ig,i*5+3,none⟩=some (.int .i64 it.spot.place):=h.itCell hiv hit (j:=3) (by omega)
  have k4:w.cell? ⟨ig,i*5+4,none⟩=some (.bool it.spot.ahead):=h.itCell hiv hit (j:=4) (by omega)
  have HIT:Hid (r.il[i]?=some it):=hit
  have e1:decide ((i:Int)+1<1)=false:=by simp;omega
  have e2:decide (((r.il.length:Nat):Int)<(i:Int)+1)=false:=by simp;omega
  have hil:(i:Int)<((r.il.length:Nat):Int):=by omega
  clear h hrv hrC hit hm hiv hiC
  go_enter Tryz.func111, Tryz.ntmps111
  go_wp2_with fail
  go_region
  go_wp2_with fail
  go_ret3
  exact ⟨((Below.refl _ _).alloc (Nat.le_refl _) _).drew,.inr ⟨i,it,rfl,HIT.out,rfl⟩⟩
end
end Go.Proofs.YtcedebpoihcbdaaGreatDoor
