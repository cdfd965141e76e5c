/-
  The document's own answer: what a filter says of a node.
  The document's own answer: a filter.
-/
import Derived.Test.YtcedebpoihcbdaaGreatDoorRH
set_option linter.unusedVariables false
set_option maxHeartbeats 1000000
set_option maxRecDepth 100000
namespace Go.Proofs.YtcedebpoihcbdaaGreatDoor
open Go.RowKit Go.Shelf Gv
theorem see_bits:∀ sv:Fin 31,∀ k:Fin 5,seeB ((sv.val:Nat):Int) k.val=decide ((sv.val / 2 ^ k.val) % 2=1):=by decide
section
variable {w w' W:World} {r:Rx} {s:Fo} {K:Nat→List Nat}
theorem half_more (sv j:Nat):((sv / 2 ^ j:Nat):Int) / 2=((sv / 2 ^ (j+1):Nat):Int):=by
 rw [Nat.pow_succ,← Nat.div_div_eq_div_mul];rfl
theorem refOf {D:Nat} (h:RefOK w r) (n:Nat) (hn:n≤r.N) (hk:r.kn n≤4) (sv:Nat) (hs:sv≤30) (rv:Value) (rules:List Rule) (hR:w.ownsRow D 207 2 rv rules.length (rules.flatMap rrow)) (hl:rules.length≤10) :
  Calls Tryz.prog 157 #[.pointer (some ⟨r.rb,0,none⟩),.agg #[.int .i64 sv,rv],.int .i64 n] w fun e w'=>e=.returned (.int .i64 (saysF sv rules (r.kn n) (r.tag n)))∧Below w.heap.size w w':=by
 have hsee:seeB (sv:Int) (r.kn n)=decide ((sv / 2 ^ (r.kn n)) % 2=1):=see_bits ⟨sv,by omega⟩ ⟨r.kn n,by omega⟩
 obtain ⟨ra,rcap,rfl,_,hrc⟩:=rowForm hR
 have HRC:Hid (rules.length=0∨∃ g,ra=some ⟨g,0,none⟩∧g<w.heap.size∧∀ j,j<rules.length*2→w.cell? ⟨g,j,none⟩=(rules.flatMap rrow)[j]?):=hrc
 have hN:=h.hN
 obtain ⟨L,hLe⟩:∃ L,L=r.N+1:=⟨_,rfl⟩
 have HLe:Hid (L=r.N+1):=hLe
 have hL3:L≤301:=by omega
 obtain ⟨aa,ac,ka,kc,n0,n1,n2,n3,n4,_⟩:=h.node hn
 have g0:w.cell? ⟨r.rb,0,none⟩=some (.slice (some ⟨r.rn,0,none⟩) L r.cap):=by rw [hLe];exact h.c0
 have hnL:(n:Int)<(L:Int):=by omega
 have hltb:=h.ltb
 have hltn:=h.ltn
 generalize r.tag n=tm at *
 generalize r.par n=pm at *
 generalize (r.K n).length=kq at *
 generalize (r.ats n).length=lq at *
 generalize hkm:r.kn n=km at *
 have HSEE:Hid (seeB (sv:Int) km=decide ((sv / 2 ^ km) % 2=1)):=hsee
 clear hrc hR h hLe hsee hkm
 go_enter Tryz.func157, Tryz.ntmps157
 go_wp2_with fail
 go_loopw [8,9] (fun b i wr=>∃ j:Nat,j≤km∧b=.int .i64 (sv / 2 ^ j:Nat)∧i=.int .i64 j∧Below w.heap.size w wr∧wr.cell? ⟨w.heap.size,0,none⟩=some (.int .i64 sv)∧wr.cell? ⟨w.heap.size,1,none⟩=some (.slice ra rules.length rcap)∧wr.cell? ⟨w.heap.size+1,0,none⟩=some (.int .i64 km)∧wr.cell? ⟨w.heap.size+1,1,none⟩=some (.string tm)) (fun _ i _=>km-(intOf i).toNat)
 case atStart =>
  refine ⟨0,Nat.zero_le _,by simp,rfl,((Below.refl _ _).alloc (Nat.le_refl _) _).alloc (by simp) _,?_,?_,?_,?_⟩ <;> simp [World.cell?_alloc_at]
 case round =>
  obtain ⟨j,hj,rfl,rfl,hb1,f0,f1,x0,x1⟩:=hrel
  obtain ⟨w1,rfl⟩:∃ w1:World,w1=wr:=⟨_,rfl⟩
  have HB1:Hid (Below w.heap.size w w1):=hb1
  clear hb1
  have hq31:sv / 2 ^ j≤30:=Nat.le_trans (Nat.div_le_self _ _) hs
  by_cases hjl:j<km
  ·have hdiv:=half_more sv j
   have ib:(j:Int)<(km:Int):=by omega
   generalize hq:sv / 2 ^ j=q at *
   generalize hq2:sv / 2 ^ (j+1)=q2 at *
   have HQ2:Hid (sv / 2 ^ (j+1)=q2):=hq2
   clear hq hq2
   go_wp2_with fail
   go_roundw
   case rel=>exact ⟨j+1,hjl,by rw [HQ2.out],by go_num,HB1.out,f0,f1,x0,x1⟩
   case measure=>simp [intOf];omega
  ·have ib:¬ (j:Int)<(km:Int):=by omega
   have hjk:j=km:=by omega
   have HS:Hid (seeB (sv:Int) km=decide ((sv / 2 ^ j) % 2=1)):=by show seeB (sv:Int) km=_;rw [hjk];exact HSEE.out
   clear hjk
   generalize sv / 2 ^ j=q at *
   have hlw:=HB1.out.size
   by_cases hbit:q % 2=1
   ·have hb2:((q:Int).tmod 2 == 0)=false:=by simp [show (q:Int).tmod 2=1 by rw [Int.tmod_eq_emod_of_nonneg (by omega)];omega]
    have hz2:((q:Int) % 2 == 0)=false:=by simp [show (q:Int) % 2=1 by omega]
    have HT:Hid (saysF (sv:Int) rules km tm=if km=2 then tagSays rules tm else 1):=by show saysF (sv:Int) rules km tm=_;simp [saysF,HS.out,hbit]
    go_wp2_with fail
    go_loopw [10] (fun i wr=>∃ k:Nat,k≤rules.length∧i=.int .i64 k∧(∀ x,x∈rules.take k→(x.1.toList == tm.toList)=false)∧Below w.heap.size w wr∧wr.cell? ⟨w.heap.size,1,none⟩=some (.slice ra rules.length rcap)∧wr.cell? ⟨w.heap.size+1,0,none⟩=some (.int .i64 km)∧wr.cell? ⟨w.heap.size+1,1,none⟩=some (.string tm)) (fun i _=>rules.length-(intOf i).toNat)
    case atStart=>exact ⟨0,Nat.zero_le _,rfl,by simp,HB1.out,f1,x0,x1⟩
    case round =>
     clear f0 f1 x0 x1
     obtain ⟨k,hkl,rfl,hno,hb2,f1,x0,x1⟩:=hrel
     obtain ⟨w2,rfl⟩:∃ w2:World,w2=wr:=⟨_,rfl⟩
     have HNO:Hid (∀ x,x∈rules.take k→(x.1.toList == tm.toList)=false):=hno
     have HB2:Hid (Below w.heap.size w w2):=hb2
     clear hno hb2
     by_cases hlt:k<rules.length
     ·have ibk:(k:Int)<(rules.length:Int):=by omega
      by_cases hk2:km=2
      ·have hkn:((km:Int) == 2)=true:=by simp;omega
       rcases HRC.out with h0 | ⟨g,rfl,hgs,hc⟩
       ·omega
       have hget:rules[k]?=some rules[k]:=List.getElem?_eq_getElem hlt
       have q0:w2.cell? ⟨g,k*2,none⟩=some (.string rules[k].1):=by
        rw [HB2.out.cell (p:=⟨g,k*2,none⟩) hgs,hc (k*2) (by omega)]
        exact flat_at rrow_len (j:=0) hget (by omega)
       have q1:w2.cell? ⟨g,k*2+1,none⟩=some (.int .i64 rules[k].2):=by
        rw [HB2.out.cell (p:=⟨g,k*2+1,none⟩) hgs,hc (k*2+1) (by omega)]
        exact flat_at rrow_len (j:=1) hget (by omega)
       have HD:Hid (rules.drop k=rules[k] :: rules.drop (k+1)):=List.drop_eq_getElem_cons hlt
       have HTK:Hid (rules.take (k+1)=rules.take k++[rules[k]]):=List.take_succ_eq_append_getElem hlt
       have HT2:Hid (saysF (sv:Int) rules km tm=tagSays rules tm):=by show saysF (sv:Int) rules km tm=_;rw [HT.out,if_pos hk2]
       clear hc hget HT hk2
       generalize rules[k]=x at *
       cases ht:(x.1.toList == tm.toList) with
       | true =>
        have HX:Hid (tagSays rules tm=x.2):=by
         show tagSays rules tm=x.2
         rw [tagSays_skip HNO.out,HD.out]
         show (if (x.1.toList == tm.toList)=true then x.2 else _)=_
         rw [if_pos ht]
        clear HD HTK
        go_wp2_with fail
        go_quiet (fail)
        go_wp2_with fail
        go_ret
        exact ⟨ret_int (by rw [HT2.out,HX.out]),below_drewN' HB2.out nq⟩
       | false =>
        have HX:Hid ((x.1.toList == tm.toList)=false):=ht
        go_wp2_with fail
        go_quiet (fail)
        go_wp2_with fail
        go_roundw
        case rel =>
         refine ⟨k+1,hlt,by go_num,fun y hy=>?_,below_drewN' HB2.out nq,f1,x0,x1⟩
         rw [HTK.out] at hy
         rcases List.mem_append.1 hy with hy | hy
         ·exact HNO.out y hy
         ·simp at hy;subst hy;exact HX.out
        case measure=>simp [intOf];omega
      ·have hkn:((km:Int) == 2)=false:=by simp;omega
       go_wp2_with fail
       go_ret
       exact ⟨ret_int (by rw [HT.out,if_neg hk2]),HB2.out⟩
     ·have ibk:¬ (k:Int)<(rules.length:Int):=by omega
      go_wp2_with fail
      go_ret
      refine ⟨ret_int ?_,HB2.out⟩
      rw [HT.out]
      split
      ·rw [tagSays_skip HNO.out,List.drop_of_length_le (by omega)];rfl
      ·rfl
   ·have hb2:((q:Int).tmod 2 == 0)=true:=by simp [show (q:Int).tmod 2=0 by rw [Int.tmod_eq_emod_of_nonneg (by omega)];omega]
    have hz2:((q:Int) % 2 == 0)=true:=by simp [show (q:Int) % 2=0 by omega]
    have HT:Hid (saysF (sv:Int) rules km tm=3):=by show saysF (sv:Int) rules km tm=_;simp [saysF,HS.out,hbit]
    go_wp2_with fail
    go_ret
    exact ⟨ret_int (by rw [HT.out]),HB1.out⟩
end
open Go.RowKit Go.Shelf Gv
theorem Tryz.info207:(Tryz.prog.info? 207).map (fun i=>(i.zero,i.size,i.bytes))=some (some (.agg #[.string ByteArray.empty,.int .i64 0]),2,24):=by kernel_rfl
theorem step_rule_append {ops:Array Oper} {o:Oper} {a:Act} {w:World} {K:Act→World→Prop} {Q:Exit→Act→World→Prop} {E:Prop} {D n icap:Nat} {iao:Option Addr} {cs:List Value} {x:Rule}
  (hgd:o.guard=none) (s y:Operand) (ho:o.op=.call { callee:=.builtin .append,args:=#[s,y],argTypes:=#[163,163] })
  (hs:a.eval s=.slice iao n icap) (hx:a.eval y=.slice (some ⟨w.heap.size,0,none⟩) 1 1)
  (hown:w.ownsRow D 207 2 (.slice iao n icap) n cs) (h50:n≤4000001) (hD:D≤w.heap.size)
  (hK:∀ g cap w',w'.ownsRow D 207 2 (.slice (some ⟨g,0,none⟩) (n+1) cap) (n+1) (cs++rrow x) →
    World.grownBy (w.alloc (.cells (rrow x).toArray 207)).drew w' (Value.slice iao n icap).ownBlock→((Value.slice iao n icap).ownBlock=some g∨g=w.heap.size+1)→g<w'.heap.size→K (a.put o.dst (.slice (some ⟨g,0,none⟩) (n+1) cap)) w') :
  if Region.wanted o (yielded ops a.tmps)=true then Oper.wp Tryz.prog o a (w.alloc (.cells (rrow x).toArray 207)).drew K Q else E:=by
 obtain ⟨i0,hi,hz0,hz1,hz2⟩:=info_parts Tryz.info207
 have hal:Below w.heap.size w (w.alloc (.cells (rrow x).toArray 207)).drew:=((Below.refl _ w).alloc (Nat.le_refl _) _).drew
 refine step_append_lies _ hgd s y 163 ho D 207 i0 _ 2 24 Tryz.underlying163 hi hz0 hz1 hz2 rfl (by decide) (.slice iao n icap) n cs hs (ownsRow_since hown hal) ⟨w.heap.size,0,none⟩ 1 1 (rrow x) hx rfl ?_ (by intro u hu;simp only [rrow,List.mem_cons,List.not_mem_nil,or_false] at hu;rcases hu with rfl | rfl <;> rfl) (by omega) (by unfold maxLen;omega) (by omega) (by simp;omega) (w.heap.size+1) (by simp) hK
 intro j u hj
 have e:(⟨w.heap.size,0,none⟩:Addr).add j=⟨w.heap.size,j,none⟩:=by unfold Addr.add;split <;> simp_all
 rw [e]
 have hb:(w.alloc (.cells (rrow x).toArray 207)).drew.heap[w.heap.size]?=some (.cells (rrow x).toArray 207 (0,0)):=heap_alloc_new w (.cells (rrow x).toArray 207)
 rw [cells_of hb j]
 simpa using hj
def filtR (N:Nat) (root see:Int) (rs:List Rule):Int:=if hasB (N+1) root=false then 5 else filtErr see rs
def FilterR (w:World) (see:Int) (rs:List Rule) (q:Int) (e:Ending) (w':World):Prop :=
 Below w.heap.size w w'∧((q≠0∧e=.returned (.tuple #[.agg #[.int .i64 0,.slice none 0 0],.int .i64 q])) ∨
  (q=0∧∃ ro rc,e=.returned (.tuple #[.agg #[.int .i64 see,.slice ro rs.length rc],.int .i64 0])∧w'.ownsRow w.heap.size 207 2 (.slice ro rs.length rc) rs.length (rs.flatMap rrow)))
theorem anyBad_snoc {rs:List Rule} {x:Rule}:anyBad (rs++[x])=(anyBad rs || badR x):=by simp [anyBad]
theorem anyBad_mem {rs:List Rule} {x:Rule} (h:x∈rs) (hb:badR x=true):anyBad rs=true:=List.any_eq_true.2 ⟨x,h,hb⟩
section
variable {w w' W:World} {r:Rx}
structure FMid (w wr:World) (see:Int) (rs:List Rule) (k:Nat) (fv:Value):Prop where
 good:anyBad (rs.take k)=false
 b:Below w.heap.size w wr
 res:wr.heap[w.heap.size]?=some (.cells #[.int .i64 0,.slice none 0 0] 202 (0,0))
 f:wr.heap[w.heap.size+1]?=some (.cells #[.int .i64 see,fv] 202 (0,0))
 row:wr.ownsRow (w.heap.size+2) 207 2 fv k ((rs.take k).flatMap rrow)
theorem FMid.next {wr w3:World} {see:Int} {rs:List Rule} {k g ic:Nat} {ao:Option Addr} {c:Nat} {x:Rule} (h:FMid w wr see rs k (.slice ao k c)) (hx:badR x=false) (ht:rs.take (k+1)=rs.take k++[x])
  (ho:w3.ownsRow (w.heap.size+2) 207 2 (.slice (some ⟨g,0,none⟩) (k+1) ic) (k+1) ((rs.take k).flatMap rrow++rrow x)) (hg:World.grownBy (wr.alloc (.cells (rrow x).toArray 207)).drew w3 (Value.slice ao k c).ownBlock) :
  FMid w (w3.setCell ⟨w.heap.size+1,1,none⟩ (.slice (some ⟨g,0,none⟩) (k+1) ic)) see rs (k+1) (.slice (some ⟨g,0,none⟩) (k+1) ic)∧w3.heap[w.heap.size+1]?=wr.heap[w.heap.size+1]?:=by
 have hal:Below wr.heap.size wr (wr.alloc (.cells (rrow x).toArray 207)).drew:=((Below.refl _ wr).alloc (Nat.le_refl _) _).drew
 have hk:∀ b,b<wr.heap.size→b<w.heap.size+2→w3.heap[b]?=wr.heap[b]?:=fun b hb h2=>(hg.block b (Nat.lt_of_lt_of_le hb hal.size) (fun e=>by have:=(h.row.lt b e.symm).1;omega)).trans (hal.block b hb)
 have l1:=lt_of_block h.f
 have hs:wr.heap.size≤w3.heap.size:=Nat.le_trans hal.size hg.size
 have b3:Below w.heap.size w w3:=h.b.trans ⟨hg.os.trans hal.os,hg.tape.trans hal.tape,hg.output.trans hal.output,hs,fun i hi=>hk i (by have:=h.b.size;omega) (by omega)⟩
 have hgl:=(ho.lt g rfl).1
 refine ⟨⟨by rw [ht,anyBad_snoc,h.good,hx];rfl,b3.setCell (by show w.heap.size≤w.heap.size+1;omega) _,?_,?_,?_⟩,hk _ l1 (by omega)⟩
 ·rw [heap_setCell_other _ _ _ _ (by show w.heap.size≠w.heap.size+1;omega),hk _ (lt_of_block h.res) (by omega)];exact h.res
 ·exact heap_setCell_same w3 (w.heap.size+1) 1 _ _ _ ((hk _ l1 (by omega)).trans h.f)
 ·rw [ht,List.flatMap_append]
  have:=ownsRow_setCell_other (a:=⟨w.heap.size+1,1,none⟩) ho (by simp [Value.ownBlock];omega) (.slice (some ⟨g,0,none⟩) (k+1) ic)
  simpa using this
theorem refFilter {D:Nat} (h:RefOK w r) (root see:Int) (rs:List Rule) (ao:Option Addr) (c:Nat) (hR:w.ownsRow D 207 2 (.slice ao rs.length c) rs.length (rs.flatMap rrow)) (hl:rs.length≤10000000) (hs:∀ x,x∈rs→x.1.size≤maxLen) :
  Calls Tryz.prog 156 #[.pointer (some ⟨r.rb,0,none⟩),.int .i64 root,.int .i64 see,.slice ao rs.length c] w (FilterR w see rs (filtR r.N root see rs)):=by
 have hba:Below w.heap.size w (w.alloc (.cells #[.int .i64 0,.slice none 0 0] 202)):=(Below.refl _ _).alloc (Nat.le_refl _) _
 have HBA:Hid (Below w.heap.size w (w.alloc (.cells #[.int .i64 0,.slice none 0 0] 202))):=hba
 have HH:Hid (RefOK (w.alloc (.cells #[.int .i64 0,.slice none 0 0] 202)) r):=h.since hba
 obtain ⟨ra,rcap,he,_,hrc⟩:=rowForm hR
 simp only [Value.slice.injEq,true_and] at he
 obtain ⟨rfl,rfl⟩:=he
 have HRC:Hid (rs.length=0∨∃ g,ao=some ⟨g,0,none⟩∧g<w.heap.size∧∀ j,j<rs.length*2→w.cell? ⟨g,j,none⟩=(rs.flatMap rrow)[j]?):=hrc
 have HS:Hid (∀ x,x∈rs→x.1.size≤maxLen):=hs
 clear h hR hrc hs hba
 cases hb:hasB (r.N+1) root with
 | false =>
  have HE:Hid (filtR r.N root see rs=5):=by show filtR r.N root see rs=5;unfold filtR;rw [if_pos hb]
  go_enter Tryz.func156, Tryz.ntmps156
  go_wp2_with fail
  refine (refIs HH.out root).mono ?_
  rintro e w1 ⟨rfl,rfl⟩
  rw [hb]
  go_wp2_with fail
  rw [HE.out]
  exact bodyPost_ret (v:=.tuple #[.agg #[.int .i64 0,.slice none 0 0],.int .i64 5]) (by simp [results,Tryz.results156,go_sem]) rfl ⟨HBA.out,.inl ⟨by decide,rfl⟩⟩
 | true =>
  have HF:Hid (filtR r.N root see rs=filtErr see rs):=by show filtR r.N root see rs=_;unfold filtR;rw [if_neg (by simp [hb])]
  by_cases h0:see<0
  ·have HE:Hid (filtErr see rs=1):=by show filtErr see rs=1;unfold filtErr;rw [if_pos (.inl h0)]
   have d1:decide (see<0)=true:=by simpa using h0
   go_enter Tryz.func156, Tryz.ntmps156
   go_wp2_with fail
   refine (refIs HH.out root).mono ?_
   rintro e w1 ⟨rfl,rfl⟩
   rw [hb]
   go_wp2_with fail
   rw [HF.out,HE.out]
   exact bodyPost_ret (v:=.tuple #[.agg #[.int .i64 0,.slice none 0 0],.int .i64 1]) (by simp [results,Tryz.results156,go_sem]) rfl ⟨HBA.out,.inl ⟨by decide,rfl⟩⟩
  by_cases h30:30<see
  ·have HE:Hid (filtErr see rs=1):=by show filtErr see rs=1;unfold filtErr;rw [if_pos (.inr h30)]
   have d1:decide (see<0)=false:=by simpa using h0
   have d2:decide (30<see)=true:=by simpa using h30
   go_enter Tryz.func156, Tryz.ntmps156
   go_wp2_with fail
   refine (refIs HH.out root).mono ?_
   rintro e w1 ⟨rfl,rfl⟩
   rw [hb]
   go_wp2_with fail
   rw [HF.out,HE.out]
   exact bodyPost_ret (v:=.tuple #[.agg #[.int .i64 0,.slice none 0 0],.int .i64 1]) (by simp [results,Tryz.results156,go_sem]) rfl ⟨HBA.out,.inl ⟨by decide,rfl⟩⟩
  have d1:decide (see<0)=false:=by simpa using h0
  have d2:decide (30<see)=false:=by simpa using h30
  have HSE:Hid (¬ (see<0∨30<see)):=by rintro (h | h) <;> contradiction
  by_cases h10:10<rs.length
  ·have HE:Hid (filtErr see rs=3):=by show filtErr see rs=3;unfold filtErr;rw [if_neg HSE.out,if_pos h10]
   have d3:(10:Int)<((rs.length:Nat):Int):=by omega
   clear h0 h30
   go_enter Tryz.func156, Tryz.ntmps156
   go_wp2_with fail
   refine (refIs HH.out root).mono ?_
   rintro e w1 ⟨rfl,rfl⟩
   rw [hb]
   go_wp2_with fail
   rw [HF.out,HE.out]
   exact bodyPost_ret (v:=.tuple #[.agg #[.int .i64 0,.slice none 0 0],.int .i64 3]) (by simp [results,Tryz.results156,go_sem]) rfl ⟨HBA.out,.inl ⟨by decide,rfl⟩⟩
  have hl10:rs.length≤10:=by omega
  have d3:¬ (10:Int)<((rs.length:Nat):Int):=by omega
  have HE:Hid (filtErr see rs=if anyBad rs=true then 11 else 0):=by show filtErr see rs=_;unfold filtErr;rw [if_neg HSE.out,if_neg h10]
  clear h0 h30 h10 hl
  go_enter Tryz.func156, Tryz.ntmps156
  go_wp2_with fail
  refine (refIs HH.out root).mono ?_
  rintro e w1 ⟨rfl,rfl⟩
  rw [hb]
  go_wp2_with fail
  go_loopw [12] (fun i wr=>∃ (k:Nat) (ao:Option Addr) (c:Nat),k≤rs.length∧i=.int .i64 k∧FMid w wr see rs k (.slice ao k c)) (fun i _=>rs.length-(intOf i).toNat)
  case atStart =>
   refine ⟨0,none,0,Nat.zero_le _,rfl,⟨rfl,HBA.out.alloc (by simp) _,?_,?_,World.ownsRow_nil _ _ _ _⟩⟩
   ·rw [Below.heap_alloc _ _ _ (by simp)];exact heap_alloc_new w _
   ·have e:=heap_alloc_new (w.alloc (.cells #[.int .i64 0,.slice none 0 0] 202)) (.cells #[.int .i64 see,.slice none 0 0] 202)
    rw [World.size_alloc] at e
    exact e
  case round =>
   obtain ⟨k,fa,fc,hkl,rfl,hM⟩:=hrel
   obtain ⟨w2,rfl⟩:∃ w2:World,w2=wr:=⟨_,rfl⟩
   have HM:Hid (FMid w w2 see rs k (.slice fa k fc)):=hM
   have p0:=cells_of hM.res 0
   have p1:=cells_of hM.res 1
   have pf:∀ j,w2.frozen? ⟨w.heap.size,j,none⟩=false:=frees_of hM.res
   have f0:=cells_of hM.f 0
   have f1:=cells_of hM.f 1
   have ff:∀ j,w2.frozen? ⟨w.heap.size+1,j,none⟩=false:=frees_of hM.f
   have lt1:=lt_of_block hM.f
   clear hM
   by_cases hlt:k<rs.length
   ·have ibk:(k:Int)<(rs.length:Int):=by omega
    rcases HRC.out with h0 | ⟨g,rfl,hgs,hc⟩
    ·omega
    have hget:rs[k]?=some rs[k]:=List.getElem?_eq_getElem hlt
    have q0:w2.cell? ⟨g,k*2,none⟩=some (.string rs[k].1):=by
     rw [HM.out.b.cell (p:=⟨g,k*2,none⟩) hgs,hc (k*2) (by omega)]
     exact flat_at rrow_len (j:=0) hget (by omega)
    have q1:w2.cell? ⟨g,k*2+1,none⟩=some (.int .i64 rs[k].2):=by
     rw [HM.out.b.cell (p:=⟨g,k*2+1,none⟩) hgs,hc (k*2+1) (by omega)]
     exact flat_at rrow_len (j:=1) hget (by omega)
    have HTK:Hid (rs.take (k+1)=rs.take k++[rs[k]]):=List.take_succ_eq_append_getElem hlt
    have HMEM:Hid (rs[k]∈rs):=List.getElem_mem hlt
    clear hc hget
    generalize rs[k]=x at *
    obtain ⟨xn,xv⟩:=x
    simp only at q0 q1
    have HSZ:Hid (xn.size≤maxLen):=HS.out _ HMEM.out
    go_wp2_with fail
    refine (refIsName xn _ HSZ.out).mono ?_
    rintro e w2 ⟨rfl,rfl⟩
    have HBD:Hid (badR (xn,xv)=(!nameB xn.data.toList || decide (xv<1) || decide (3<xv))):=rfl
    have HANY:Hid (badR (xn,xv)=true→anyBad rs=true):=fun e=>anyBad_mem HMEM.out e
    generalize nameB xn.data.toList=nm at *
    cases nm with
    | false =>
     have HAB:Hid (anyBad rs=true):=HANY.out (by rw [HBD.out];rfl)
     go_wp2_with fail
     rw [HF.out,HE.out,HAB.out]
     exact bodyPost_ret (v:=.tuple #[.agg #[.int .i64 0,.slice none 0 0],.int .i64 11]) (by simp [results,Tryz.results156,go_sem,p0,p1]) rfl ⟨(HM.out.b.setCell (Nat.le_refl _) _).setCell (Nat.le_refl _) _,.inl ⟨by decide,rfl⟩⟩
    | true =>
    by_cases hv1:xv<1
    ·have HAB:Hid (anyBad rs=true):=HANY.out (by rw [HBD.out];simp [hv1])
     have e1:decide (xv<1)=true:=by simpa using hv1
     go_wp2_with fail
     rw [HF.out,HE.out,HAB.out]
     exact bodyPost_ret (v:=.tuple #[.agg #[.int .i64 0,.slice none 0 0],.int .i64 11]) (by simp [results,Tryz.results156,go_sem,p0,p1]) rfl ⟨(HM.out.b.setCell (Nat.le_refl _) _).setCell (Nat.le_refl _) _,.inl ⟨by decide,rfl⟩⟩
    by_cases hv3:3<xv
    ·have HAB:Hid (anyBad rs=true):=HANY.out (by rw [HBD.out];simp [hv3])
     have e1:decide (xv<1)=false:=by simpa using hv1
     have e3:decide (3<xv)=true:=by simpa using hv3
     go_wp2_with fail
     rw [HF.out,HE.out,HAB.out]
     exact bodyPost_ret (v:=.tuple #[.agg #[.int .i64 0,.slice none 0 0],.int .i64 11]) (by simp [results,Tryz.results156,go_sem,p0,p1]) rfl ⟨(HM.out.b.setCell (Nat.le_refl _) _).setCell (Nat.le_refl _) _,.inl ⟨by decide,rfl⟩⟩
    have e1:decide (xv<1)=false:=by simpa using hv1
    have e3:decide (3<xv)=false:=by simpa using hv3
    have HGD:Hid (badR (xn,xv)=false):=by show badR (xn,xv)=false;rw [HBD.out,e1,e3];rfl
    have HZ:Hid (w2.ownsRow (w.heap.size+2) 207 2 (.slice fa k fc) k ((rs.take k).flatMap rrow)):=HM.out.row
    have hgw:g<w2.heap.size:=by have:=HM.out.b.size;omega
    have hgw':g<w2.heap.size+1:=by omega
    have lt1':w.heap.size+1<w2.heap.size+1:=by omega
    have gne:g≠w2.heap.size:=by omega
    have lne:w.heap.size+1≠w2.heap.size:=by omega
    have hD2:w.heap.size+2≤w2.heap.size:=by omega
    have hk5:k≤4000001:=by omega
    clear hv1 hv3
    go_wp2_with fail
    go_region_law (first
     | (refine step_rule_append (w:=w2) (D:=w.heap.size+2) (n:=k) (icap:=fc) (iao:=fa) (x:=(xn,xv)) rfl (.tmp 64) (.tmp 69) rfl (by simp [Act.eval]) (by simp [Act.eval]) HZ.out hk5 hD2 ?_
        intro gg ic w3 hown3 hgrow3 hat3 hlt3
        have RR:=HM.out.next HGD.out HTK.out hown3 hgrow3
        have u1:w3.cell? ⟨w.heap.size+1,1,none⟩=some (.slice fa k fc):=(cell_same' RR.2 1).trans f1
        have u2:w3.frozen? ⟨w.heap.size+1,1,none⟩=false:=(frozen_same' RR.2 1).trans (ff 1)
        have HRR:Hid (FMid w (w3.setCell ⟨w.heap.size+1,1,none⟩ (.slice (some ⟨gg,0,none⟩) (k+1) ic)) see rs (k+1) (.slice (some ⟨gg,0,none⟩) (k+1) ic)):=RR.1
        clear RR hown3 hgrow3 hat3 hlt3))
    all_goals
     go_wp2_with fail
     go_roundw
     case rel=>exact ⟨k+1,_,_,hlt,by go_num,HRR.out⟩
     case measure=>simp [intOf];omega
   ·have ibk:¬ (k:Int)<(rs.length:Int):=by omega
    have HG:Hid (anyBad rs=false):=by have:=HM.out.good;rw [List.take_of_length_le (by omega)] at this;exact this
    have HRW:Hid (w2.ownsRow (w.heap.size+2) 207 2 (.slice fa k fc) rs.length (rs.flatMap rrow)):=by have:=HM.out.row;rw [List.take_of_length_le (by omega)] at this;rw [show rs.length=k by omega];exact this
    have HB:Hid (Below w.heap.size w w2):=HM.out.b
    have HKL:Hid (k=rs.length):=by show k=rs.length;omega
    go_wp2_with fail
    rw [HF.out,HE.out,HG.out]
    refine bodyPost_ret (v:=.tuple #[.agg #[.int .i64 see,.slice fa k fc],.int .i64 0]) (by simp [results,Tryz.results156,go_sem,p0,p1]) rfl ⟨?_,.inr ⟨rfl,fa,fc,by rw [HKL.out],?_⟩⟩
    ·exact (HB.out.setCell (Nat.le_refl _) _).setCell (Nat.le_refl _) _
    ·rw [← HKL.out]
     have hne:∀ g,(Value.slice fa k fc).ownBlock=some g→g≠w.heap.size:=fun g hg e=>by have:=(HRW.out.lt g hg).1;omega
     rw [← HKL.out] at HRW
     refine rowB (ownsRow_same HRW.out (fun g hg=>?_)) (by omega)
     rw [Below.heap_setCell _ _ _ _ (hne g hg),Below.heap_setCell _ _ _ _ (hne g hg)]
end
end Go.Proofs.YtcedebpoihcbdaaGreatDoor
