/-
  The document's own answer: attributes without one of them; a node's attributes laid anew.
  The document's own answer: its Set and Unset.
  The document's own answer: its Unset.
-/
import Derived.Test.YtcedebpoihcbdaaGreatDoorRE
import Derived.Laws.AppendOwnNone
import Derived.Test.YtcedebpoihcbdaaGreatDoorR9
import Derived.Deep.RegionHeld3
import Derived.Deep.RegionWith
set_option linter.unusedVariables false
set_option maxHeartbeats 2000000
set_option maxRecDepth 100000
namespace Go.Proofs.YtcedebpoihcbdaaGreatDoor
open Go.RowKit Go.Shelf Gv
theorem Tryz.info199:(Tryz.prog.info? 199).map (fun i=>(i.zero,i.size,i.bytes))=some (some (.agg #[.string ByteArray.empty,.string ByteArray.empty]),2,32):=by kernel_rfl
theorem arow_len (l:List Atr):(l.flatMap arow).length=l.length*2:=by
 induction l with
 | nil=>rfl
 | cons x l ih=>rw [List.flatMap_cons,List.length_append,ih,List.length_cons];show 2+_=_;omega
theorem arows_one (l:List Atr):∀ u∈l.flatMap arow,u.oneCell'=true:=by
 intro u hu
 obtain ⟨x,_,hx⟩:=List.mem_flatMap.1 hu
 simp only [arow,List.mem_cons,List.not_mem_nil,or_false] at hx
 rcases hx with rfl | rfl <;> rfl
theorem apiece {w:World} {g:Nat} {us xs vs:List Atr} (h:∀ j,j<(us++xs++vs).length*2→w.cell? ⟨g,j,none⟩=((us++xs++vs).flatMap arow)[j]?):∀ j u,(xs.flatMap arow)[j]?=some u→w.cell? ((⟨g,us.length*2,none⟩:Addr).add j)=some u:=by
 intro j u hj
 have hl:=(List.getElem?_eq_some_iff.1 hj).1
 rw [arow_len] at hl
 rw [at_add,h _ (by simp;omega),List.flatMap_append,List.flatMap_append,List.append_assoc,List.getElem?_append_right (by rw [arow_len];omega),arow_len,show us.length*2+j-us.length*2=j by omega,List.getElem?_append_left (by rw [arow_len];exact hl)]
 exact hj
section
variable {w W:World} {r:Rx}
theorem refWithout {D:Nat} (av:Value) (us vs:List Atr) (x:Atr) (hv:W.ownsRow D 199 2 av (us++[x]++vs).length ((us++[x]++vs).flatMap arow)) (hl:(us++[x]++vs).length≤4000001) :
  Calls Tryz.prog 150 #[av,.int .i64 us.length] W fun e w'=>∃ v,e=.returned v∧w'.ownsRow W.heap.size 199 2 v (us++vs).length ((us++vs).flatMap arow)∧Below W.heap.size W w':=by
 have hlen:(us++[x]++vs).length=us.length+1+vs.length:=by simp;omega
 obtain ⟨i0,hi,hz0,hz1,hz2⟩:=info_parts Tryz.info199
 rcases row_form hv with ⟨_,h0⟩ | ⟨g,cap,hav,_,hgs,_,hle⟩
 ·omega
 subst hav
 have hcell:∀ j,j<(us++[x]++vs).length*2→W.cell? ⟨g,j,none⟩=((us++[x]++vs).flatMap arow)[j]?:=fun j hj=>hv.cellAt j (by rw [← arow_len] at hj;rw [arow_len] at hj;exact hj)
 have P1:Hid (∀ j u,(us.flatMap arow)[j]?=some u→W.cell? ((⟨g,0,none⟩:Addr).add j)=some u):=by
  have h:=apiece (w:=W) (g:=g) (us:=[]) (xs:=us) (vs:=[x]++vs) (by simpa using hcell)
  show ∀ j u,(us.flatMap arow)[j]?=some u→W.cell? ((⟨g,0,none⟩:Addr).add j)=some u
  simpa using h
 have P2:Hid (∀ j u,(vs.flatMap arow)[j]?=some u→W.cell? ((⟨g,(us.length+1)*2,none⟩:Addr).add j)=some u):=by
  have h:=apiece (w:=W) (g:=g) (us:=us++[x]) (xs:=vs) (vs:=[]) (by simpa using hcell)
  show ∀ j u,(vs.flatMap arow)[j]?=some u→W.cell? ((⟨g,(us.length+1)*2,none⟩:Addr).add j)=some u
  simpa using h
 rw [hlen] at hl hle
 rw [hlen]
 clear hv hcell hlen
 have ib0:(us.length:Int)≤(cap:Int):=by omega
 go_enter Tryz.func150, Tryz.ntmps150
 go_wp2_with (at_builtin;refine wpList_append_own _ rfl _ _ 148 rfl W.heap.size 199 i0 _ 2 32 Tryz.underlying148 hi hz0 hz1 hz2 rfl (by decide) (.slice none 0 0) 0 [] rfl (World.ownsRow_nil _ _ _ _) ⟨g,0,none⟩ us.length cap (us.flatMap arow) rfl ?a0 P1.out ?a2 ?a3 ?a4 (Nat.le_refl _) ?_)
 case a0=>exact arow_len us
 case a2=>exact arows_one us
 case a3=>unfold maxLen;omega
 case a4=>omega
 intro uv w3 hu hgrow3 _
 have hB3:Below W.heap.size W w3:=⟨hgrow3.os,hgrow3.tape,hgrow3.output,hgrow3.size,fun k hk=>hgrow3.block k hk (by simp [Value.ownBlock])⟩
 have HB3:Hid (Below W.heap.size W w3):=hB3
 have HU:Hid (w3.ownsRow W.heap.size 199 2 uv us.length (us.flatMap arow)):=by
  show w3.ownsRow W.heap.size 199 2 uv us.length (us.flatMap arow)
  simpa using hu
 have hsz3:=hB3.size
 have P3:Hid (∀ j u,(vs.flatMap arow)[j]?=some u→w3.cell? ((⟨g,(us.length+1)*2,none⟩:Addr).add j)=some u):=fun j u hj=>by
  rw [at_add]
  have:=P2.out j u hj
  rw [at_add] at this
  rw [← this]
  exact World.cell?_of_block (hB3.block g hgs)
 clear hu hgrow3 hB3 P1 P2
 by_cases hcap:cap=us.length+1
 ·have hvs:vs=[]:=List.eq_nil_of_length_eq_zero (by omega)
  subst hvs
  subst hcap
  go_wp2_with (at_builtin;refine wpList_append_own _ rfl _ _ 148 rfl W.heap.size 199 i0 _ 2 32 Tryz.underlying148 hi hz0 hz1 hz2 rfl (by decide) uv us.length (us.flatMap arow) rfl HU.out _ 0 _ [] rfl (by rfl) ?d1 ?d2 ?d3 ?d4 ?d5 ?_)
  case d1=>intro j u hj;simp at hj
  case d2=>intro u hu;simp at hu
  case d3=>unfold maxLen;omega
  case d4=>omega
  case d5=>exact hsz3
  intro nv w6 hv6 hg6 _
  have HB6:Hid (Below W.heap.size W w6):=HB3.out.trans ⟨hg6.os,hg6.tape,hg6.output,hg6.size,fun k hk=>hg6.block k (by omega) (fun e=>by have:=(HU.out.lt k e.symm).1;omega)⟩
  have HV6:Hid (w6.ownsRow W.heap.size 199 2 nv (us++[]).length ((us++[]).flatMap arow)):=by
   show w6.ownsRow W.heap.size 199 2 nv (us++[]).length ((us++[]).flatMap arow)
   simpa using hv6
  clear hv6 hg6
  go_wp2_with fail
  go_ret
  exact ⟨_,rfl,HV6.out,HB6.out⟩
 ·have hcap':us.length+1<cap:=by omega
  go_wp2_with (at_builtin;refine wpList_append_own _ rfl _ _ 148 rfl W.heap.size 199 i0 _ 2 32 Tryz.underlying148 hi hz0 hz1 hz2 rfl (by decide) uv us.length (us.flatMap arow) rfl HU.out ⟨g,(us.length+1)*2,none⟩ vs.length (cap-(us.length+1)) (vs.flatMap arow) rfl ?d0 P3.out ?d2 ?d3 ?d4 ?d5 ?_)
  case d0=>exact arow_len vs
  case d2=>exact arows_one vs
  case d3=>unfold maxLen;omega
  case d4=>omega
  case d5=>exact hsz3
  intro nv w6 hv6 hg6 _
  have HB6:Hid (Below W.heap.size W w6):=HB3.out.trans ⟨hg6.os,hg6.tape,hg6.output,hg6.size,fun k hk=>hg6.block k (by omega) (fun e=>by have:=(HU.out.lt k e.symm).1;omega)⟩
  have HV6:Hid (w6.ownsRow W.heap.size 199 2 nv (us++vs).length ((us++vs).flatMap arow)):=by
   show w6.ownsRow W.heap.size 199 2 nv (us++vs).length ((us++vs).flatMap arow)
   rw [List.length_append,List.flatMap_append];exact hv6
  clear hv6 hg6
  go_wp2_with fail
  go_ret
  exact ⟨_,rfl,HV6.out,HB6.out⟩
theorem atts_end {w w3:World} {n t:Nat} {v':Value} {l':List Atr} (h:RefOK w r) (hn:n≤r.N) (hK:Kept w w3 (fun b=>(r.av n).ownBlock≠some b)) (hv:w3.ownsRow 0 199 2 v' l'.length (l'.flatMap arow)) (hat:∀ b,v'.ownBlock=some b→(r.av n).ownBlock=some b∨w.heap.size≤b) (ht:r.top≤t) (hl:l'.length≤t) (ht4:t≤4000000) :
  RPost w (w3.setCell ⟨r.rn,n*5+2,none⟩ v') r { r with av:=up r.av n v',ats:=up r.ats n l',top:=t }:=by
 obtain ⟨csn,hcn⟩:=h.rnblock
 have hap:∀ (b:Nat) (cs:Array Value) (ty:TypeId),w.heap[b]?=some (.cells cs ty (0,0))→ty≠199→w3.heap[b]?=w.heap[b]?:=fun b cs ty hb hty=>hK.block b (lt_of_block hb) (row_ne (h.att n hn) hb hty)
 have hcn3:w3.heap[r.rn]?=some (.cells csn 150 (0,0)):=(hap _ _ _ hcn (by decide)).trans hcn
 have hst3:=store_apart (p:=⟨r.rn,n*5+2,none⟩) hcn3 v'
 have hk:∀ (b:Nat) (cs:Array Value) (ty:TypeId),w.heap[b]?=some (.cells cs ty (0,0))→(ty≠199∧ty≠150)→(w3.setCell ⟨r.rn,n*5+2,none⟩ v').heap[b]?=w.heap[b]?:=fun b cs ty hb hty=>by
  rw [hst3 b cs ty ((hap b cs ty hb hty.1).trans hb) hty.2,hap b cs ty hb hty.1]
 obtain ⟨p1,_,p3,_,p5,p6,p7,p8,p9⟩:=h.part (ok:=fun ty=>ty≠199∧ty≠150) hk
 have hrow3:=row_keep h.row (fun b hb=>by
  have hb':r.rn=b:=by simpa [Value.ownBlock] using hb
  subst hb'
  exact hap _ _ _ hcn (by decide))
 have hst:=hrow3.stored (n*5+2) v'
 have e:=refCells_set (L:=r.N+1) (kn:=r.kn) (tag:=r.tag) (av:=r.av) (par:=r.par) (kv:=r.kv) (kn':=r.kn) (tag':=r.tag) (av':=up r.av n v') (par':=r.par) (kv':=r.kv) (i:=n) (j:=2) (v:=v') (by omega) (by omega) (fun x hx=>by simp [refRow,up_other _ _ _ hx]) (by simp [refRow,up_same])
 rw [e] at hst
 have hrn:∀ b,v'.ownBlock=some b→b≠r.rn:=fun b hb e'=>by
  obtain ⟨cs,hcs⟩:=row_block hv hb
  rw [e',hcn3] at hcs
  simp only [Option.some.injEq,Obj.cells.injEq] at hcs
  exact absurd hcs.2.1 (by decide)
 refine ⟨⟨p1 (by decide),hst.1,h.hN,p3 (by decide),h.few,fun i hi=>?_,fun i hi=>?_,ht4,fun i j hi hj hij b hb=>?_,p5 (by decide),h.wfew,p6 (by decide),h.ifew,p7 (by decide),p8 (by decide),h.qfew,p9 (by decide)⟩,?_,fun i hi=>?_,rfl⟩
 ·show World.ownsRow _ 0 199 2 (up r.av n v' i) (up r.ats n l' i).length ((up r.ats n l' i).flatMap arow)
  by_cases ei:i=n
  ·subst ei;rw [up_same,up_same]
   exact row_keep hv (fun b hb=>heap_setCell_other _ _ _ _ (hrn b hb))
  ·rw [up_other _ _ _ ei,up_other _ _ _ ei]
   refine row_keep (h.att i hi) (fun b hb=>?_)
   obtain ⟨cs,hcs⟩:=row_block (h.att i hi) hb
   have e3:w3.heap[b]?=w.heap[b]?:=hK.block b (lt_of_block hcs) (fun e'=>h.nd i n hi hn ei b hb e')
   rw [hst3 b cs _ (e3.trans hcs) (by decide),e3]
 ·show (up r.ats n l' i).length≤t
  by_cases ei:i=n
  ·subst ei;rw [up_same];exact hl
  ·rw [up_other _ _ _ ei];exact Nat.le_trans (h.afew i hi) ht
 ·have hb':(up r.av n v' i).ownBlock=some b:=hb
  show (up r.av n v' j).ownBlock≠some b
  by_cases ei:i=n
  ·subst ei
   rw [up_same] at hb'
   rw [up_other _ _ _ (fun e'=>hij e'.symm)]
   rcases hat b hb' with e' | e'
   ·exact h.nd i j hi hj hij b e'
   ·intro e2
    have:=((h.att j hj).lt b e2).2
    omega
  ·rw [up_other _ _ _ ei] at hb'
   by_cases ej:j=n
   ·subst ej
    rw [up_same]
    intro e2
    rcases hat b e2 with e' | e'
    ·exact h.nd i j hi hj hij b hb' e'
    ·have:=((h.att i hi).lt b hb').2
     omega
   ·rw [up_other _ _ _ ej]
    exact h.nd i j hi hj hij b hb'
 ·have f1:Fr r.own w w3:=⟨hK.os,hK.tape,hK.output,hK.size,fun i hi hno=>hK.block i hi (fun e'=>hno (.inr (.inr (.inr (.inl ⟨n,hn,e'⟩)))))⟩
  exact f1.setCell (p:=⟨r.rn,n*5+2,none⟩) Rx.own_n _
 ·rcases hi with hi | hi | hi | ⟨j,hj,hi⟩ | hi | hi | hi | hi | hi
  ·exact .inl (.inl hi)
  ·exact .inl (.inr (.inl hi))
  ·exact .inl (.inr (.inr (.inl hi)))
  ·have hi':(up r.av n v' j).ownBlock=some i:=hi
   by_cases ej:j=n
   ·subst ej
    rw [up_same] at hi'
    rcases hat i hi' with e' | e'
    ·exact .inl (.inr (.inr (.inr (.inl ⟨j,hj,e'⟩))))
    ·exact .inr e'
   ·rw [up_other _ _ _ ej] at hi'
    exact .inl (.inr (.inr (.inr (.inl ⟨j,hj,hi'⟩))))
  ·exact .inl (.inr (.inr (.inr (.inr (.inl hi)))))
  ·exact .inl (.inr (.inr (.inr (.inr (.inr (.inl hi))))))
  ·exact .inl (.inr (.inr (.inr (.inr (.inr (.inr (.inl hi)))))))
  ·exact .inl (.inr (.inr (.inr (.inr (.inr (.inr (.inr (.inl hi))))))))
  ·exact .inl (.inr (.inr (.inr (.inr (.inr (.inr (.inr (.inr hi))))))))
end
open Go.RowKit Go.Shelf Gv
def CutL (l:List Atr) (name:ByteArray) (l':List Atr):Prop:=(∃ us x vs,l=us++[x]++vs∧x.1=name∧atPos l name=us.length∧l'=us++vs)∨((∀ y,y∈l→y.1≠name)∧atPos l name=-1∧l'=l)
theorem cut_at (l:List Atr) (name:ByteArray):(∃ us x vs,l=us++[x]++vs∧x.1=name∧atPos l name=us.length)∨((∀ y,y∈l→y.1≠name)∧atPos l name=-1):=by
 rcases at_both l name with ⟨i,x,h1,h2,h3,_⟩ | ⟨h1,h2,_⟩
 ·have hl:=(List.getElem?_eq_some_iff.1 h1).1
  refine .inl ⟨l.take i,x,l.drop (i+1),?_,h2,?_⟩
  ·have:=List.take_append_drop i l
   rw [List.drop_eq_getElem_cons hl,(List.getElem?_eq_some_iff.1 h1).2] at this
   rw [List.append_assoc];exact this.symm
  ·rw [h3,List.length_take,Nat.min_eq_left (by omega)]
 ·exact .inr ⟨h1,h2⟩
theorem up_self {α:Type} (f:Nat→α) (n:Nat):up f n (f n)=f:=by
 funext i
 by_cases e:i=n
 ·subst e;rw [up_same]
 ·rw [up_other _ _ _ e]
theorem up_again {α:Type} (f:Nat→α) (n:Nat) (a b:α):up (up f n a) n b=up f n b:=by
 funext i
 by_cases e:i=n
 ·subst e;rw [up_same,up_same]
 ·rw [up_other _ _ _ e,up_other _ _ _ e,up_other _ _ _ e]
def Rx.atts (r:Rx) (n:Nat) (v:Value) (l:List Atr) (t:Nat):Rx:={ r with av:=up r.av n v,ats:=up r.ats n l,top:=t }
theorem Rx.atts_again (r:Rx) (n:Nat) (v v':Value) (l l':List Atr) (t t':Nat):(r.atts n v l t).atts n v' l' t'=r.atts n v' l' t':=by unfold Rx.atts;simp only [up_again]
theorem step_att_append {ops:Array Oper} {o:Oper} {a:Act} {w:World} {K:Act→World→Prop} {Q:Exit→Act→World→Prop} {E:Prop} {n icap:Nat} {iao:Option Addr} {cs:List Value} {x:Atr}
  (hgd:o.guard=none) (s y:Operand) (ho:o.op=.call { callee:=.builtin .append,args:=#[s,y],argTypes:=#[148,148] })
  (hs:a.eval s=.slice iao n icap) (hx:a.eval y=.slice (some ⟨w.heap.size,0,none⟩) 1 1)
  (hown:w.ownsRow 0 199 2 (.slice iao n icap) n cs) (h50:n≤4000001)
  (hK:∀ g cap w',w'.ownsRow 0 199 2 (.slice (some ⟨g,0,none⟩) (n+1) cap) (n+1) (cs++arow x) →
    World.grownBy (w.alloc (.cells (arow x).toArray 199)).drew w' (Value.slice iao n icap).ownBlock→((Value.slice iao n icap).ownBlock=some g∨g=w.heap.size+1)→g<w'.heap.size→K (a.put o.dst (.slice (some ⟨g,0,none⟩) (n+1) cap)) w') :
  if Region.wanted o (yielded ops a.tmps)=true then Oper.wp Tryz.prog o a (w.alloc (.cells (arow x).toArray 199)).drew K Q else E:=by
 obtain ⟨i0,hi,hz0,hz1,hz2⟩:=info_parts Tryz.info199
 have hal:Below w.heap.size w (w.alloc (.cells (arow x).toArray 199)).drew:=((Below.refl _ w).alloc (Nat.le_refl _) _).drew
 refine step_append_lies _ hgd s y 148 ho 0 199 i0 _ 2 32 Tryz.underlying148 hi hz0 hz1 hz2 rfl (by decide) (.slice iao n icap) n cs hs (ownsRow_since hown hal) ⟨w.heap.size,0,none⟩ 1 1 (arow x) hx rfl ?_ (by intro u hu;simp only [arow,List.mem_cons,List.not_mem_nil,or_false] at hu;rcases hu with rfl | rfl <;> rfl) (by omega) (by unfold maxLen;omega) (by omega) (by simp) (w.heap.size+1) (by simp) hK
 intro j u hj
 have e:(⟨w.heap.size,0,none⟩:Addr).add j=⟨w.heap.size,j,none⟩:=by unfold Addr.add;split <;> simp_all
 rw [e]
 have hb:(w.alloc (.cells (arow x).toArray 199)).drew.heap[w.heap.size]?=some (.cells (arow x).toArray 199 (0,0)):=heap_alloc_new w (.cells (arow x).toArray 199)
 rw [cells_of hb j]
 simpa using hj
section
variable {w w' W:World} {r:Rx}
def SetPost (w:World) (r:Rx) (n:Int) (name value:ByteArray) (e:Ending) (w':World):Prop :=
 e=.returned (.int .i64 (setErr r.N r.kn n name value))∧((setErr r.N r.kn n name value≠0∧w'=w)∨(setErr r.N r.kn n name value=0∧∃ (m:Nat) (v:Value) (l1:List Atr),n=m∧1≤m∧m≤r.N∧CutL (r.ats m) name l1∧RPost w w' r (r.atts m v (l1++[(name,value)]) (r.top+1))))
theorem refSet (h:RefOK w r) (n:Int) (name value:ByteArray) (hs:name.size≤maxLen) (hv:value.size≤maxLen) (ht:r.top≤3999999) :
  Calls Tryz.prog 98 #[.pointer (some ⟨r.rb,0,none⟩),.int .i64 n,.string name,.string value] w (SetPost w r n name value):=by
 have HH:Hid (RefOK w r):=h
 have HRF:Hid (Calls Tryz.prog 148 #[.pointer (some ⟨r.rb,0,none⟩),.int .i64 n,.string name] w fun e w'=>e=.returned (.int .i64 (haveErr r.N r.kn n name))∧w'=w):=refRefused h n name hs
 by_cases he:haveErr r.N r.kn n name=0
 ·obtain ⟨m,rfl,h1,hm,h2,_⟩:=have_zero he
  by_cases h40:40<value.size
  ·have h40':(40:Int)<(value.size:Int):=by omega
   have HE:Hid (setErr r.N r.kn m name value=3):=by show setErr r.N r.kn m name value=3;unfold setErr;rw [if_neg (by simp [he]),if_pos h40]
   have q0:((0:Int) != 0)=false:=rfl
   clear h
   go_enter Tryz.func98, Tryz.ntmps98
   go_wp2_with fail
   refine Calls.mono HRF.out ?_
   rintro e w ⟨rfl,rfl⟩
   rw [he]
   go_wp2_with fail
   go_ret
   exact ⟨ret_int HE.out.symm,.inl ⟨by rw [HE.out];decide,rfl⟩⟩
  ·have h40':¬ (40:Int)<(value.size:Int):=by omega
   have HE:Hid (setErr r.N r.kn m name value=0):=by show setErr r.N r.kn m name value=0;unfold setErr;rw [if_neg (by simp [he]),if_neg h40]
   obtain ⟨L,hLe⟩:∃ L,L=r.N+1:=⟨_,rfl⟩
   have hN:=h.hN
   have hL3:L≤301:=by omega
   have HLe:Hid (L=r.N+1):=hLe
   have hg:w.cell? ⟨r.rb,0,none⟩=some (.slice (some ⟨r.rn,0,none⟩) L r.cap):=by rw [hLe];exact h.c0
   have hmL:(m:Int)<(L:Int):=by omega
   have k0:=h.ckn hm
   have k1:=h.ctag hm
   have k2:=h.cav hm
   have k3:=h.cpar hm
   have k4:=h.ckv hm
   obtain ⟨aa,ac,hav,_,_⟩:=rowForm (h.att m hm)
   obtain ⟨ka,kc,hkv,_,_⟩:=rowForm (h.kids m hm)
   rw [hav] at k2
   rw [hkv] at k4
   have HAV:Hid (r.av m=.slice aa (r.ats m).length ac):=hav
   have HAT:Hid (w.ownsRow 0 199 2 (.slice aa (r.ats m).length ac) (r.ats m).length ((r.ats m).flatMap arow)):=by rw [← hav];exact h.att m hm
   have hfew:=h.afew m hm
   have HT4:Hid ((r.ats m).length≤4000001):=by show (r.ats m).length≤4000001;omega
   have fz:=h.free
   have hne:=h.ne
   clear h hav hkv hLe h2
   generalize hlq:(r.ats m).length=lq at *
   have HLQ:Hid ((r.ats m).length=lq):=hlq
   clear hlq
   generalize r.kn m=km at *
   generalize r.tag m=tm at *
   generalize r.par m=pm at *
   generalize (r.K m).length=kq at *
   go_enter Tryz.func98, Tryz.ntmps98
   go_wp2_with fail
   refine Calls.mono HRF.out ?_
   rintro e w ⟨rfl,rfl⟩
   rw [he]
   go_wp2_with fail
   refine (refAttr (D:=0) km tm (.slice aa lq ac) pm (.slice ka kq kc) (r.ats m) name (by rw [HLQ.out];exact HAT.out) (by rw [HLQ.out];exact HT4.out)).mono ?_
   rintro e w2 ⟨rfl,hb2⟩
   have HB2:Hid (Below w.heap.size w w2):=hb2
   have R2:Hid (RefOK w2 r):=HH.out.since hb2
   have g2:w2.cell? ⟨r.rb,0,none⟩=some (.slice (some ⟨r.rn,0,none⟩) L r.cap):=by rw [HLe.out];exact R2.out.c0
   have a2:w2.cell? ⟨r.rn,m*5+2,none⟩=some (.slice aa lq ac):=by have:=R2.out.cav hm;rw [HAV.out] at this;exact this
   have fz2:=R2.out.free
   have HA2:Hid (w2.ownsRow 0 199 2 (.slice aa lq ac) lq ((r.ats m).flatMap arow)):=by have:=R2.out.att m hm;rw [HAV.out,HLQ.out] at this;exact this
   clear hb2 hg k0 k1 k2 k3 k4 fz HAT HRF
   obtain ⟨ps,hps⟩:∃ p,p=atPos (r.ats m) name:=⟨_,rfl⟩
   rw [← hps]
   have HPS:Hid (ps=atPos (r.ats m) name):=hps
   clear hps
   go_upto_if 31 with fail
   go_cut [] (fun wx=>∃ (v1:Value) (l1:List Atr),RPost w wx r (r.atts m v1 l1 r.top)∧CutL (r.ats m) name l1)
   case first =>
    rcases cut_at (r.ats m) name with ⟨us,x,vs,hl,hx,hp⟩ | ⟨hno,hp⟩
    ·obtain rfl:ps=(us.length:Int):=by rw [HPS.out,hp]
     have p0:(0:Int)≤(us.length:Int):=by omega
     have HL:Hid (r.ats m=us++[x]++vs):=hl
     have HC:Hid (CutL (r.ats m) name (us++vs)):=.inl ⟨us,x,vs,hl,hx,hp,rfl⟩
     have HW:Hid (∀ W:World,W.ownsRow 0 199 2 (.slice aa lq ac) lq ((r.ats m).flatMap arow)→Calls Tryz.prog 150 #[.slice aa lq ac,.int .i64 us.length] W fun e w'=>∃ v,e=.returned v∧w'.ownsRow W.heap.size 199 2 v (us++vs).length ((us++vs).flatMap arow)∧Below W.heap.size W w'):=fun W hW=>by
      have e0:lq=(us++[x]++vs).length:=by rw [← HLQ.out,HL.out]
      rw [HL.out,e0] at hW
      have:=refWithout (.slice aa lq ac) us vs x (by rw [e0];exact hW) (by rw [← e0,← HLQ.out];rw [HLQ.out];exact HT4.out)
      exact this
     clear hl hx hp
     go_wp2_with fail
     go_region_with (go_at_call 150;(refine Calls.mono (HW.out w2.drew (row_keep HA2.out (fun _ _=>rfl))) ?_);rintro e w4 ⟨v,rfl,hv4,hb4⟩;obtain ⟨va,vn,vc,hvv⟩:=slice_of hv4;subst hvv;have HV4:Hid (w4.ownsRow w2.drew.heap.size 199 2 (.slice va vn vc) (us++vs).length ((us++vs).flatMap arow)):=hv4;have HB4:Hid (Below w2.heap.size w2 w4):=(Below.refl _ w2).drew.trans hb4;have R4:RefOK w4 r:=R2.out.since HB4.out;have y1:w4.cell? ⟨r.rb,0,none⟩=some (.slice (some ⟨r.rn,0,none⟩) L r.cap):=(by rw [HLe.out];exact R4.c0);have y2:w4.cell? ⟨r.rn,m*5+2,none⟩=some (.slice aa lq ac):=(by have:=R4.cav hm;rw [HAV.out] at this;exact this);have fz4:=R4.free;clear hv4 hb4 R4)
     all_goals
      have HA4:Hid (RPost w (w4.setCell ⟨r.rn,m*5+2,none⟩ (.slice va vn vc)) r (r.atts m (.slice va vn vc) (us++vs) r.top)):=by
       have e1:=atts_end (n:=m) (t:=r.top) (v':=.slice va vn vc) (l':=us++vs) R2.out hm (Kept.of_below HB4.out _) (row_base HV4.out (Nat.zero_le _)) (fun b hb=>.inr (HV4.out.lt b hb).1) (Nat.le_refl _) (by have:=R2.out.afew m hm;rw [HL.out] at this;simp at this ⊢;omega) (by omega)
       exact RPost.trans (RPost.of_below HH.out HB2.out) e1
      go_wp2_with fail
      go_meet
      case rel=>exact ⟨_,_,HA4.out,HC.out⟩
    ·obtain rfl:ps=-1:=by rw [HPS.out,hp]
     have HC:Hid (CutL (r.ats m) name (r.ats m)):=.inr ⟨hno,hp,rfl⟩
     have HEq:Hid (r.atts m (r.av m) (r.ats m) r.top=r):=by show r.atts m (r.av m) (r.ats m) r.top=r;unfold Rx.atts;rw [up_self,up_self]
     clear hno hp
     go_wp2_with fail
     go_meet
     case rel=>exact ⟨r.av m,r.ats m,by rw [HEq.out];exact RPost.of_below HH.out HB2.out,HC.out⟩
   case rest =>
    obtain ⟨v1,l1,hP1,hC⟩:=hcut
    have HC:Hid (CutL (r.ats m) name l1):=hC
    have HP1:Hid (RPost w wc r (r.atts m v1 l1 r.top)):=hP1
    have R5:Hid (RefOK wc (r.atts m v1 l1 r.top)):=hP1.ok
    have hat5:wc.ownsRow 0 199 2 v1 l1.length (l1.flatMap arow):=by
     have h5:=R5.out.att m hm
     have e1:(r.atts m v1 l1 r.top).av m=v1:=up_same _ _ _
     have e2:(r.atts m v1 l1 r.top).ats m=l1:=up_same _ _ _
     rw [e1,e2] at h5
     exact h5
    have hl1:l1.length≤r.top:=by
     have h5:=R5.out.afew m hm
     have e2:(r.atts m v1 l1 r.top).ats m=l1:=up_same _ _ _
     rw [e2] at h5
     exact h5
    obtain ⟨aa5,ac5,hv1,_,_⟩:=rowForm hat5
    subst hv1
    obtain ⟨w5,hw5⟩:∃ w5:World,w5=wc:=⟨_,rfl⟩
    subst hw5
    have g5:w5.cell? ⟨r.rb,0,none⟩=some (.slice (some ⟨r.rn,0,none⟩) L r.cap):=by rw [HLe.out];exact R5.out.c0
    have a5:w5.cell? ⟨r.rn,m*5+2,none⟩=some (.slice aa5 l1.length ac5):=by
     have h5:=R5.out.cav hm
     have e1:(r.atts m (.slice aa5 l1.length ac5) l1 r.top).av m=.slice aa5 l1.length ac5:=up_same _ _ _
     rw [e1] at h5
     exact h5
    have HZ:Hid (w5.ownsRow 0 199 2 (.slice aa5 l1.length ac5) l1.length (l1.flatMap arow)):=hat5
    have fz5:∀ j,w5.frozen? ⟨r.rn,j,none⟩=false:=R5.out.free
    have ltb:r.rb<w5.heap.size:=R5.out.ltb
    have ltn:r.rn<w5.heap.size:=R5.out.ltn
    have ltb':r.rb<w5.heap.size+1:=by omega
    have ltn':r.rn<w5.heap.size+1:=by omega
    have bne:r.rb≠w5.heap.size:=by omega
    have nne:r.rn≠w5.heap.size:=by omega
    obtain ⟨csn,hcn⟩:=R5.out.rnblock
    have HCN:Hid (w5.heap[r.rn]?=some (.cells csn 150 (0,0))):=hcn
    clear hat5 hP1 hC hcn g2 a2 fz2
    go_wp2_with fail
    go_region_law (first
     | (refine step_att_append (w:=w5) (n:=l1.length) (icap:=ac5) (iao:=aa5) (x:=(name,value)) rfl (.tmp 61) (.tmp 65) rfl (by simp [Act.eval]) (by simp [Act.eval]) HZ.out (by omega) ?_
        intro g ic w3 hown3 hgrow3 hat3 hlt3
        have hal:Below w5.heap.size w5 (w5.alloc (.cells (arow (name,value)).toArray 199)).drew:=((Below.refl _ w5).alloc (Nat.le_refl _) _).drew
        have q0:w3.heap[r.rb]?=w5.heap[r.rb]?:=(hgrow3.block r.rb (by simp;omega) (fun e=>row_ne HZ.out R5.out.g (by decide) e.symm)).trans (hal.block r.rb ltb)
        have q4:w3.heap[r.rn]?=w5.heap[r.rn]?:=(hgrow3.block r.rn (by simp;omega) (fun e=>row_ne HZ.out HCN.out (by decide) e.symm)).trans (hal.block r.rn ltn)
        have q1:w3.cell? ⟨r.rb,0,none⟩=some (.slice (some ⟨r.rn,0,none⟩) L r.cap):=(cell_same' q0 0).trans g5
        have q2:w3.cell? ⟨r.rn,m*5+2,none⟩=some (.slice aa5 l1.length ac5):=(cell_same' q4 (m*5+2)).trans a5
        have q3:w3.frozen? ⟨r.rn,m*5+2,none⟩=false:=(frozen_same' q4 (m*5+2)).trans (fz5 (m*5+2))
        have HO:Hid (w3.ownsRow 0 199 2 (.slice (some ⟨g,0,none⟩) (l1.length+1) ic) (l1.length+1) (l1.flatMap arow++arow (name,value))):=hown3
        have HG:Hid (World.grownBy (w5.alloc (.cells (arow (name,value)).toArray 199)).drew w3 (Value.slice aa5 l1.length ac5).ownBlock):=hgrow3
        have HA:Hid ((Value.slice aa5 l1.length ac5).ownBlock=some g∨g=w5.heap.size+1):=hat3
        clear q0 q4 hown3 hgrow3 hat3 hlt3 hal))
    all_goals
     have hal:Below w5.heap.size w5 (w5.alloc (.cells (arow (name,value)).toArray 199)).drew:=((Below.refl _ w5).alloc (Nat.le_refl _) _).drew
     have e1:(r.atts m (.slice aa5 l1.length ac5) l1 r.top).av m=.slice aa5 l1.length ac5:=up_same _ _ _
     have HE6:Hid (RPost w5 (w3.setCell ⟨r.rn,m*5+2,none⟩ (.slice (some ⟨g,0,none⟩) (l1.length+1) ic)) (r.atts m (.slice aa5 l1.length ac5) l1 r.top) (r.atts m (.slice (some ⟨g,0,none⟩) (l1.length+1) ic) (l1++[(name,value)]) (r.top+1))):=by
      rw [← Rx.atts_again r m (.slice aa5 l1.length ac5) (.slice (some ⟨g,0,none⟩) (l1.length+1) ic) l1 (l1++[(name,value)]) r.top (r.top+1)]
      refine atts_end (n:=m) (t:=r.top+1) (v':=.slice (some ⟨g,0,none⟩) (l1.length+1) ic) (l':=l1++[(name,value)]) R5.out hm ?_ ?_ ?_ (Nat.le_succ _) (by simp;omega) (by omega)
      ·rw [e1]
       exact ⟨HG.out.os.trans hal.os,HG.out.tape.trans hal.tape,HG.out.output.trans hal.output,Nat.le_trans hal.size HG.out.size,fun b hb hno=>(HG.out.block b (Nat.lt_of_lt_of_le hb hal.size) (fun e=>hno e.symm)).trans (hal.block b hb)⟩
      ·rw [List.length_append,List.flatMap_append]
       have:=HO.out
       simpa using this
      ·intro b hb
       rw [e1]
       have hb':g=b:=by simpa [Value.ownBlock] using hb
       subst hb'
       rcases HA.out with e | e
       ·exact .inl e
       ·exact .inr (by omega)
     go_wp2_with fail
     go_ret
     exact ⟨ret_int HE.out.symm,.inr ⟨HE.out,m,_,l1,rfl,h1,hm,HC.out,RPost.trans HP1.out HE6.out⟩⟩
 ·have HE:Hid (setErr r.N r.kn n name value=haveErr r.N r.kn n name):=by show setErr r.N r.kn n name value=_;unfold setErr;rw [if_pos he]
  have HNE:Hid (haveErr r.N r.kn n name≠0):=he
  have he':(haveErr r.N r.kn n name != 0)=true:=by simpa using he
  clear h he
  go_enter Tryz.func98, Tryz.ntmps98
  go_wp2_with fail
  refine Calls.mono HRF.out ?_
  rintro e w ⟨rfl,rfl⟩
  clear HRF
  generalize haveErr r.N r.kn n name=q at *
  go_wp2_with fail
  go_ret
  exact ⟨ret_int HE.out.symm,.inl ⟨by rw [HE.out];exact HNE.out,rfl⟩⟩
end
open Go.RowKit Go.Shelf Gv
section
variable {w w' W:World} {r:Rx}
def UnsetPost (w:World) (r:Rx) (n:Int) (name:ByteArray) (e:Ending) (w':World):Prop :=
 e=.returned (.int .i64 (unsetErr r.N r.kn (fun i=>atOf (r.ats i)) n name))∧((unsetErr r.N r.kn (fun i=>atOf (r.ats i)) n name≠0∧RPost w w' r r)∨(unsetErr r.N r.kn (fun i=>atOf (r.ats i)) n name=0∧∃ (m:Nat) (v:Value) (l1:List Atr),n=m∧1≤m∧m≤r.N∧CutL (r.ats m) name l1∧(∃ v,atOf (r.ats m) name=some v)∧RPost w w' r (r.atts m v l1 r.top)))
theorem refUnset (h:RefOK w r) (n:Int) (name:ByteArray) (hs:name.size≤maxLen) (ht:r.top≤3999999) :
  Calls Tryz.prog 100 #[.pointer (some ⟨r.rb,0,none⟩),.int .i64 n,.string name] w (UnsetPost w r n name):=by
 have HH:Hid (RefOK w r):=h
 have HRF:Hid (Calls Tryz.prog 148 #[.pointer (some ⟨r.rb,0,none⟩),.int .i64 n,.string name] w fun e w'=>e=.returned (.int .i64 (haveErr r.N r.kn n name))∧w'=w):=refRefused h n name hs
 by_cases he:haveErr r.N r.kn n name=0
 ·obtain ⟨m,rfl,h1,hm,h2,_⟩:=have_zero he
  obtain ⟨L,hLe⟩:∃ L,L=r.N+1:=⟨_,rfl⟩
  have hN:=h.hN
  have hL3:L≤301:=by omega
  have HLe:Hid (L=r.N+1):=hLe
  have hg:w.cell? ⟨r.rb,0,none⟩=some (.slice (some ⟨r.rn,0,none⟩) L r.cap):=by rw [hLe];exact h.c0
  have hmL:(m:Int)<(L:Int):=by omega
  have k0:=h.ckn hm
  have k1:=h.ctag hm
  have k2:=h.cav hm
  have k3:=h.cpar hm
  have k4:=h.ckv hm
  obtain ⟨aa,ac,hav,_,_⟩:=rowForm (h.att m hm)
  obtain ⟨ka,kc,hkv,_,_⟩:=rowForm (h.kids m hm)
  rw [hav] at k2
  rw [hkv] at k4
  have HAV:Hid (r.av m=.slice aa (r.ats m).length ac):=hav
  have HAT:Hid (w.ownsRow 0 199 2 (.slice aa (r.ats m).length ac) (r.ats m).length ((r.ats m).flatMap arow)):=by rw [← hav];exact h.att m hm
  have hfew:=h.afew m hm
  have HT4:Hid ((r.ats m).length≤4000001):=by show (r.ats m).length≤4000001;omega
  have fz:=h.free
  have hne:=h.ne
  clear h hav hkv hLe h2
  generalize hlq:(r.ats m).length=lq at *
  have HLQ:Hid ((r.ats m).length=lq):=hlq
  clear hlq
  generalize r.kn m=km at *
  generalize r.tag m=tm at *
  generalize r.par m=pm at *
  generalize (r.K m).length=kq at *
  go_enter Tryz.func100, Tryz.ntmps100
  go_wp2_with fail
  refine Calls.mono HRF.out ?_
  rintro e w ⟨rfl,rfl⟩
  rw [he]
  go_wp2_with fail
  refine (refAttr (D:=0) km tm (.slice aa lq ac) pm (.slice ka kq kc) (r.ats m) name (by rw [HLQ.out];exact HAT.out) (by rw [HLQ.out];exact HT4.out)).mono ?_
  rintro e w2 ⟨rfl,hb2⟩
  have HB2:Hid (Below w.heap.size w w2):=hb2
  have R2:Hid (RefOK w2 r):=HH.out.since hb2
  have g2:w2.cell? ⟨r.rb,0,none⟩=some (.slice (some ⟨r.rn,0,none⟩) L r.cap):=by rw [HLe.out];exact R2.out.c0
  have a2:w2.cell? ⟨r.rn,m*5+2,none⟩=some (.slice aa lq ac):=by have:=R2.out.cav hm;rw [HAV.out] at this;exact this
  have fz2:=R2.out.free
  have HA2:Hid (w2.ownsRow 0 199 2 (.slice aa lq ac) lq ((r.ats m).flatMap arow)):=by have:=R2.out.att m hm;rw [HAV.out,HLQ.out] at this;exact this
  clear hb2 hg k0 k1 k2 k3 k4 fz HAT HRF
  rcases cut_at (r.ats m) name with ⟨us,x,vs,hl,hx,hp⟩ | ⟨hno,hp⟩
  ·rw [hp]
   have p0:¬ (us.length:Int)<0:=by omega
   have HF:Hid (∃ v,atOf (r.ats m) name=some v):=by
    rcases at_both (r.ats m) name with ⟨_,y,_,_,_,h4⟩ | ⟨_,h5,_⟩
    ·exact ⟨_,h4⟩
    ·omega
   have HE:Hid (unsetErr r.N r.kn (fun i=>atOf (r.ats i)) m name=0):=by
    obtain ⟨v,hv⟩:=HF.out
    show unsetErr r.N r.kn (fun i=>atOf (r.ats i)) m name=0
    unfold unsetErr
    rw [if_neg (by simp [he]),if_neg (by simp [hv])]
   have HL:Hid (r.ats m=us++[x]++vs):=hl
   have HC:Hid (CutL (r.ats m) name (us++vs)):=.inl ⟨us,x,vs,hl,hx,hp,rfl⟩
   have HW:Hid (∀ W:World,W.ownsRow 0 199 2 (.slice aa lq ac) lq ((r.ats m).flatMap arow)→Calls Tryz.prog 150 #[.slice aa lq ac,.int .i64 us.length] W fun e w'=>∃ v,e=.returned v∧w'.ownsRow W.heap.size 199 2 v (us++vs).length ((us++vs).flatMap arow)∧Below W.heap.size W w'):=fun W hW=>by
    have e0:lq=(us++[x]++vs).length:=by rw [← HLQ.out,HL.out]
    rw [HL.out,e0] at hW
    have:=refWithout (.slice aa lq ac) us vs x (by rw [e0];exact hW) (by rw [← e0,← HLQ.out];rw [HLQ.out];exact HT4.out)
    exact this
   clear hl hx hp
   go_wp2_with fail
   go_region_with (go_at_call 150;(refine Calls.mono (HW.out w2.drew (row_keep HA2.out (fun _ _=>rfl))) ?_);rintro e w4 ⟨v,rfl,hv4,hb4⟩;obtain ⟨va,vn,vc,hvv⟩:=slice_of hv4;subst hvv;have HV4:Hid (w4.ownsRow w2.drew.heap.size 199 2 (.slice va vn vc) (us++vs).length ((us++vs).flatMap arow)):=hv4;have HB4:Hid (Below w2.heap.size w2 w4):=(Below.refl _ w2).drew.trans hb4;have R4:RefOK w4 r:=R2.out.since HB4.out;have y1:w4.cell? ⟨r.rb,0,none⟩=some (.slice (some ⟨r.rn,0,none⟩) L r.cap):=(by rw [HLe.out];exact R4.c0);have y2:w4.cell? ⟨r.rn,m*5+2,none⟩=some (.slice aa lq ac):=(by have:=R4.cav hm;rw [HAV.out] at this;exact this);have fz4:=R4.free;clear hv4 hb4 R4)
   all_goals
    have HA4:Hid (RPost w (w4.setCell ⟨r.rn,m*5+2,none⟩ (.slice va vn vc)) r (r.atts m (.slice va vn vc) (us++vs) r.top)):=by
     have e1:=atts_end (n:=m) (t:=r.top) (v':=.slice va vn vc) (l':=us++vs) R2.out hm (Kept.of_below HB4.out _) (row_base HV4.out (Nat.zero_le _)) (fun b hb=>.inr (HV4.out.lt b hb).1) (Nat.le_refl _) (by have:=R2.out.afew m hm;rw [HL.out] at this;simp at this ⊢;omega) (by omega)
     exact RPost.trans (RPost.of_below HH.out HB2.out) e1
    go_wp2_with fail
    go_ret
    exact ⟨ret_int HE.out.symm,.inr ⟨HE.out,m,_,_,rfl,h1,hm,HC.out,HF.out,HA4.out⟩⟩
  ·rw [hp]
   have HE:Hid (unsetErr r.N r.kn (fun i=>atOf (r.ats i)) m name=9):=by
    have hn:atOf (r.ats m) name=none:=by
     rcases at_both (r.ats m) name with ⟨i,_,_,_,h3,_⟩ | ⟨_,_,h5⟩
     ·omega
     ·exact h5
    show unsetErr r.N r.kn (fun i=>atOf (r.ats i)) m name=9
    unfold unsetErr
    rw [if_neg (by simp [he]),if_pos (by simp [hn])]
   clear hno hp
   go_wp2_with fail
   go_ret
   exact ⟨ret_int HE.out.symm,.inl ⟨by rw [HE.out];decide,RPost.of_below HH.out HB2.out⟩⟩
 ·have HE:Hid (unsetErr r.N r.kn (fun i=>atOf (r.ats i)) n name=haveErr r.N r.kn n name):=by show unsetErr r.N r.kn (fun i=>atOf (r.ats i)) n name=_;unfold unsetErr;rw [if_pos he]
  have HNE:Hid (haveErr r.N r.kn n name≠0):=he
  have he':(haveErr r.N r.kn n name != 0)=true:=by simpa using he
  clear h he
  go_enter Tryz.func100, Tryz.ntmps100
  go_wp2_with fail
  refine Calls.mono HRF.out ?_
  rintro e w ⟨rfl,rfl⟩
  clear HRF
  generalize haveErr r.N r.kn n name=q at *
  go_wp2_with fail
  go_ret
  exact ⟨ret_int HE.out.symm,.inl ⟨by rw [HE.out];exact HNE.out,RPost.refl HH.out⟩⟩
end
end Go.Proofs.YtcedebpoihcbdaaGreatDoor
