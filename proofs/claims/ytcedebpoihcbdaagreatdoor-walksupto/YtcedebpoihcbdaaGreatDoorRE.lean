/-
  The document's own answer: words between blanks; an attribute's value asked for; a class asked for.
  The document's own answer: a class asked for.
-/
import Derived.Test.YtcedebpoihcbdaaGreatDoorR11
import Derived.Test.YtcedebpoihcbdaaGreatDoorBA
import Derived.Lib.SplitLaws
import Derived.Lib.IndexLaws
set_option linter.unusedVariables false
set_option maxHeartbeats 1000000
set_option maxRecDepth 100000
namespace Go.Proofs.YtcedebpoihcbdaaGreatDoor
open Go.RowKit Go.Shelf Gv
def wordsL:List UInt8→List (List UInt8)
 | []=>[[]]
 | b :: l=>if b=32 then [] :: wordsL l else (match wordsL l with
  | []=>[[b]]
  | w :: ws=>(b :: w) :: ws)
theorem words_no:∀ {l:List UInt8},32 ∉ l→wordsL l=[l]
 | [],_=>rfl
 | b :: l,h=>by
  have h1:b≠32:=fun e=>h (by simp [e])
  have h2:32 ∉ l:=fun e=>h (by simp [e])
  rw [wordsL,if_neg h1,words_no h2]
theorem words_cut:∀ {pre rest:List UInt8},32 ∉ pre→wordsL (pre++32 :: rest)=pre :: wordsL rest
 | [],rest,_=>by rw [List.nil_append,wordsL,if_pos rfl]
 | b :: l,rest,h=>by
  have h1:b≠32:=fun e=>h (by simp [e])
  have h2:32 ∉ l:=fun e=>h (by simp [e])
  rw [List.cons_append,wordsL,if_neg h1,words_cut h2]
theorem ext_list (s:ByteArray) (a b:Nat):(s.extract a b).data.toList=(s.data.toList.drop a).take (b-a):=by
 rw [ByteArray.data_extract,Array.toList_extract,List.extract_eq_take_drop]
theorem blank_first {s:ByteArray} (h:32∈s.data.toList):∃ i:Nat,Lib.indexB s blank=i∧∃ pre rest,s.data.toList=pre++32 :: rest∧32 ∉ pre∧pre.length=i:=by
 have e:Lib.indexB s blank=Lib.indexByte s.data.toList 32:=Lib.index_one _ _
 have hge:=Lib.indexByte_ge s.data.toList 32
 have hne:Lib.indexByte s.data.toList 32≠-1:=fun e0=>by
  obtain ⟨k,hk⟩:=List.getElem?_of_mem h
  exact Lib.indexByte_none e0 k hk
 obtain ⟨i,hi⟩:=Int.eq_ofNat_of_zero_le (show 0≤Lib.indexByte s.data.toList 32 by omega)
 obtain ⟨h1,h2⟩:=Lib.indexByte_some hi
 have hl:=(List.getElem?_eq_some_iff.1 h1).1
 refine ⟨i,by rw [e,hi],s.data.toList.take i,s.data.toList.drop (i+1),?_,?_,by rw [List.length_take];exact Nat.min_eq_left (Nat.le_of_lt hl)⟩
 ·have:=List.take_append_drop i s.data.toList
  rw [List.drop_eq_getElem_cons hl,(List.getElem?_eq_some_iff.1 h1).2] at this
  exact this.symm
 ·intro hm
  obtain ⟨k,hk⟩:=List.getElem?_of_mem hm
  rw [List.getElem?_take] at hk
  split at hk
  ·rename_i hlt
   exact h2 k hlt hk
  ·cases hk
theorem cut_words:∀ (k:Nat) (s:ByteArray),Lib.countB s blank=k→(Lib.splitB blank 0 k s).map (fun x=>x.data.toList)=wordsL s.data.toList
 | 0,s,h=>by
  have hno:32 ∉ s.data.toList:=fun hm=>by
   obtain ⟨i,hi,_⟩:=blank_first hm
   have:=Lib.countB_hit s blank i (by decide) hi
   omega
  rw [Lib.splitB_zero,words_no hno];rfl
 | k+1,s,h=>by
  have hm:32∈s.data.toList:=by
   by_cases e:Lib.indexB s blank=-1
   ·have:=Lib.countB_miss s blank e;omega
   ·have e1:Lib.indexB s blank=Lib.indexByte s.data.toList 32:=Lib.index_one _ _
    have hge:=Lib.indexByte_ge s.data.toList 32
    obtain ⟨i,hi⟩:=Int.eq_ofNat_of_zero_le (show 0≤Lib.indexByte s.data.toList 32 by omega)
    exact List.mem_of_getElem? (Lib.indexByte_some hi).1
  obtain ⟨i,hi,pre,rest,hs,hno,hl⟩:=blank_first hm
  have hc:=Lib.countB_hit s blank i (by decide) hi
  have hb:blank.size=1:=by decide
  rw [hb] at hc
  have ih:=cut_words k (s.extract (i+1) s.size) (by omega)
  have hrest:(s.extract (i+1) s.size).data.toList=rest:=by
   rw [Lib.extract_to_end,hs,← hl]
   simp
  have hpre:(s.extract 0 (i+0)).data.toList=pre:=by
   rw [ext_list,hs,← hl]
   simp
  unfold Lib.splitB
  rw [hi,if_neg (by simp),hb,Int.toNat_natCast,List.map_cons,hpre,ih,hrest,hs,words_cut hno]
theorem inCut_words (s c:ByteArray):inCut s c=true↔c.data.toList∈wordsL s.data.toList:=by
 unfold inCut
 rw [Lib.containsS_iff,← cut_words _ s rfl]
 show c∈cut s↔_
 constructor
 ·exact fun h=>List.mem_map.2 ⟨c,h,rfl⟩
 ·intro h
  obtain ⟨x,hx,e⟩:=List.mem_map.1 h
  have:x=c:=by
   obtain ⟨⟨x⟩⟩:=x
   obtain ⟨⟨c⟩⟩:=c
   simp only at e
   rw [e]
  rw [← this];exact hx
def clsL (l c:List UInt8):Prop:=c≠[]∧c∈wordsL l
theorem hasCls_iff (A:ByteArray→Option ByteArray) (c:ByteArray):hasCls A c=true↔∃ v,A strClass=some v∧clsL v.data.toList c.data.toList:=by
 unfold hasCls clsL
 have hc:c.toList.isEmpty=true↔c.data.toList=[]:=by rw [Lib.toList_data];exact List.isEmpty_iff
 split
 ·rename_i h
  have:=hc.1 h
  simp [this]
 ·rename_i h
  have hne:c.data.toList≠[]:=fun e=>h (hc.2 e)
  rw [inCut_words]
  cases hA:A strClass with
  | none =>
   simp only [Option.getD_none,reduceCtorEq,false_and,exists_false,iff_false]
   show c.data.toList ∉ wordsL []
   simp [wordsL,hne]
  | some v=>simp [hne]
section
variable {w W:World} {r:Rx}
def hasBl (s:ByteArray):Bool:=decide ((32:UInt8)∈s.data.toList)
theorem refBlank (s:ByteArray) (w:World) (hs:s.size≤maxLen) :
  Calls Tryz.prog 155 #[.string s] w fun e w'=>e=.returned (.bool (hasBl s))∧w'=w:=by
 unfold maxLen at hs
 have hlen:s.data.toList.length=s.size:=by simp
 have HLen:Hid (s.data.toList.length=s.size):=hlen
 clear hlen
 go_enter Tryz.func155, Tryz.ntmps155
 go_wp2
 go_loop [3] (fun i=>∃ k:Nat,k≤s.size∧i=.int .i64 k∧(32:UInt8) ∉ s.data.toList.take k) (fun i=>s.size-(intOf i).toNat)
 case atStart=>exact ⟨0,Nat.zero_le _,rfl,by simp⟩
 case round =>
  obtain ⟨k,hk,rfl,hno⟩:=hrel
  have HNO:Hid ((32:UInt8) ∉ s.data.toList.take k):=hno
  clear hno
  by_cases hlt:k<s.size
  ·have HS:Hid (s.data.toList.take (k+1)=s.data.toList.take k++[s[k]]):=take_snoc s k hlt
   by_cases c1:s[k]=32
   ·have c1':((s[k].toNat:Int) == 32)=true:=by rw [c1];rfl
    have HM:Hid (hasBl s=true):=by
     show decide ((32:UInt8)∈s.data.toList)=true
     refine decide_eq_true (List.mem_of_mem_take (i:=k+1) ?_)
     rw [HS.out,c1];simp
    clear c1
    go_wp2
    go_ret
    exact ⟨ret_bool HM.out.symm,rfl⟩
   ·have c1':((s[k].toNat:Int) == 32)=false:=by
     simp only [beq_eq_false_iff_ne,ne_eq]
     intro e
     have e':s[k].toNat=32:=by omega
     exact c1 (UInt8.toNat_inj.1 e')
    have HC:Hid (s[k]≠32):=c1
    clear c1
    go_wp2
    go_round
    case rel=>exact ⟨k+1,by omega,by go_num,by rw [HS.out];simp only [List.mem_append,List.mem_singleton,not_or];exact ⟨HNO.out,fun e=>HC.out e.symm⟩⟩
    case measure=>simp [intOf];omega
  ·have HM:Hid (hasBl s=false):=by
    show decide ((32:UInt8)∈s.data.toList)=false
    refine decide_eq_false (fun e=>HNO.out ?_)
    rw [List.take_of_length_le (by rw [HLen.out];omega)];exact e
   go_wp2
   go_ret
   exact ⟨ret_bool HM.out.symm,rfl⟩
def hasV (o:Option ByteArray) (v:ByteArray):Bool:=!v.toList.isEmpty && isB o v
theorem refHas {D:Nat} (kn:Nat) (tag:ByteArray) (av:Value) (par:Nat) (ka:Option Addr) (kl kc:Nat) (l:List Atr) (name value:ByteArray) (hv:W.ownsRow D 199 2 av l.length (l.flatMap arow)) (hl:l.length≤4000001) :
  Calls Tryz.prog 154 #[nodeV kn tag av par (.slice ka kl kc),.string name,.string value] W fun e w'=>e=.returned (.bool (hasV (atOf l name) value))∧Below W.heap.size W w':=by
 obtain ⟨ao,cap,rfl,_,hc⟩:=rowForm hv
 have HC:Hid _:=hc
 have hB:Below W.heap.size W (W.alloc (.cells #[.int .i64 kn,.string tag,.slice ao l.length cap,.int .i64 par,.slice ka kl kc] 150)):=(Below.refl _ _).alloc (Nat.le_refl _) _
 have hob:(W.alloc (.cells #[.int .i64 kn,.string tag,.slice ao l.length cap,.int .i64 par,.slice ka kl kc] 150)).heap[W.heap.size]?=some (.cells #[.int .i64 kn,.string tag,.slice ao l.length cap,.int .i64 par,.slice ka kl kc] 150 (0,0)):=heap_alloc_new W _
 have hsz:(W.alloc (.cells #[.int .i64 kn,.string tag,.slice ao l.length cap,.int .i64 par,.slice ka kl kc] 150)).heap.size=W.heap.size+1:=by simp
 have HV1:Hid ((W.alloc (.cells #[.int .i64 kn,.string tag,.slice ao l.length cap,.int .i64 par,.slice ka kl kc] 150)).ownsRow D 199 2 (.slice ao l.length cap) l.length (l.flatMap arow)):=row_keep hv (fun b hb=>hB.block b (hv.lt b hb).2)
 have HB:Hid (Below W.heap.size W (W.alloc (.cells #[.int .i64 kn,.string tag,.slice ao l.length cap,.int .i64 par,.slice ka kl kc] 150))):=hB
 have HOB:Hid ((W.alloc (.cells #[.int .i64 kn,.string tag,.slice ao l.length cap,.int .i64 par,.slice ka kl kc] 150)).heap[W.heap.size]?=some (.cells #[.int .i64 kn,.string tag,.slice ao l.length cap,.int .i64 par,.slice ka kl kc] 150 (0,0))):=hob
 clear hv hc hob hB
 go_enter Tryz.func154, Tryz.ntmps154
 go_wp2_with fail
 refine (refAttr kn tag _ par _ l name HV1.out hl).mono ?_
 rintro e w2 ⟨rfl,hb2⟩
 have hob2:w2.heap[W.heap.size]?=_:=(hb2.block W.heap.size (by omega)).trans HOB.out
 have o2:=cells_of hob2 2
 have HB2:Hid (Below W.heap.size W w2):=HB.out.trans (hb2.mono (by omega))
 clear hob2 hb2
 cases hve:value.toList.isEmpty with
 | true =>
  have HR:Hid (hasV (atOf l name) value=false):=by show hasV (atOf l name) value=false;unfold hasV;rw [hve];rfl
  rcases at_both l name with ⟨i,x,h1,h2,h3,h4⟩ | ⟨h1,h2,h3⟩
  ·rw [h3]
   clear h1 h2 h3 h4
   go_wp2_with fail
   go_ret
   exact ⟨ret_bool HR.out.symm,HB2.out⟩
  ·rw [h2]
   clear h1 h2 h3
   go_wp2_with fail
   go_ret
   exact ⟨ret_bool HR.out.symm,HB2.out⟩
 | false =>
  rcases at_both l name with ⟨i,x,h1,h2,h3,h4⟩ | ⟨h1,h2,h3⟩
  ·rw [h3]
   have hil:=(List.getElem?_eq_some_iff.1 h1).1
   rcases HC.out with h0 | ⟨g,rfl,hgs,hcell⟩
   ·omega
   have c1:w2.cell? ⟨g,i*2+1,none⟩=some (.string x.2):=by
    rw [← (arow_at h1).2,← hcell (i*2+1) (by omega)]
    exact HB2.out.cell (p:=⟨g,_,none⟩) hgs
   have HR:Hid (hasV (atOf l name) value=(x.2.toList == value.toList)):=by show hasV (atOf l name) value=_;unfold hasV;rw [hve,h4];rfl
   have ib:(i:Int)<(l.length:Int):=by omega
   have ip:(0:Int)≤(i:Int):=by omega
   clear h1 h2 h3 h4 hcell
   go_wp2_with fail
   go_ret
   exact ⟨ret_bool HR.out.symm,HB2.out⟩
  ·rw [h2]
   have HR:Hid (hasV (atOf l name) value=false):=by show hasV (atOf l name) value=false;unfold hasV;rw [h3];simp [isB]
   clear h1 h2 h3
   go_wp2_with fail
   go_ret
   exact ⟨ret_bool HR.out.symm,HB2.out⟩
end
open Go.RowKit Go.Shelf Gv
section
variable {v c:List UInt8} {f k:Nat}
theorem cls_blank (hf:f≤k) (hk:v[k]?=some 32) (hno:(32:UInt8) ∉ (v.drop f).take (k-f)):clsL (v.drop f) c↔(f<k∧(v.drop f).take (k-f)=c)∨clsL (v.drop (k+1)) c:=by
 have hl:=(List.getElem?_eq_some_iff.1 hk).1
 have e:v.drop f=(v.drop f).take (k-f)++32 :: v.drop (k+1):=by
  have h1:=List.take_append_drop (k-f) (v.drop f)
  rw [List.drop_drop,show f+(k-f)=k by omega,List.drop_eq_getElem_cons hl,(List.getElem?_eq_some_iff.1 hk).2] at h1
  exact h1.symm
 have hlen:((v.drop f).take (k-f)).length=k-f:=by rw [List.length_take,List.length_drop];omega
 unfold clsL
 rw [e,words_cut hno,List.mem_cons,← e]
 constructor
 ·rintro ⟨h1,h2 | h2⟩
  ·left
   refine ⟨?_,h2.symm⟩
   by_cases e':f<k
   ·exact e'
   ·exfalso
    apply h1
    rw [h2]
    apply List.eq_nil_of_length_eq_zero
    rw [hlen];omega
  ·exact .inr ⟨h1,h2⟩
 ·rintro (⟨h1,h2⟩ | ⟨h1,h2⟩)
  ·refine ⟨fun e'=>?_,.inl h2.symm⟩
   rw [e'] at h2
   rw [h2] at hlen
   simp at hlen
   omega
  ·exact ⟨h1,.inr h2⟩
theorem cls_last (hf:f≤v.length) (hno:(32:UInt8) ∉ (v.drop f).take (v.length-f)):clsL (v.drop f) c↔f<v.length∧(v.drop f).take (v.length-f)=c:=by
 have e:(v.drop f).take (v.length-f)=v.drop f:=List.take_of_length_le (by rw [List.length_drop];exact Nat.le_refl _)
 rw [e] at hno ⊢
 unfold clsL
 rw [words_no hno,List.mem_singleton]
 constructor
 ·rintro ⟨h1,rfl⟩
  refine ⟨?_,rfl⟩
  by_cases e':f<v.length
  ·exact e'
  ·exact absurd (List.drop_of_length_le (by omega)) h1
 ·rintro ⟨h1,rfl⟩
  refine ⟨fun e'=>?_,rfl⟩
  have:=congrArg List.length e'
  rw [List.length_drop] at this
  simp at this
  omega
end
def ClsAt (v c:List UInt8) (f k:Nat):Prop:=(k≤v.length∧f≤k∧(32:UInt8) ∉ (v.drop f).take (k-f)∧(clsL v c↔clsL (v.drop f) c))∨(k=v.length+1∧¬ clsL v c)
def ClassPost (W:World) (l:List Atr) (c:ByteArray) (e:Ending) (w':World):Prop:=∃ b:Bool,e=.returned (.bool b)∧(b=true↔∃ v,atOf l strClass=some v∧clsL v.data.toList c.data.toList)∧Below W.heap.size W w'
theorem ClassPost.yes {W w':World} {l:List Atr} {c v:ByteArray} (h:atOf l strClass=some v) (hc:clsL v.data.toList c.data.toList) (hb:Below W.heap.size W w'):ClassPost W l c (.returned (.bool true)) w':=⟨true,rfl,⟨fun _=>⟨v,h,hc⟩,fun _=>rfl⟩,hb⟩
theorem ClassPost.no {W w':World} {l:List Atr} {c v:ByteArray} (h:atOf l strClass=some v) (hc:¬ clsL v.data.toList c.data.toList) (hb:Below W.heap.size W w'):ClassPost W l c (.returned (.bool false)) w':=by
 refine ⟨false,rfl,⟨fun e=>(by cases e),fun e=>?_⟩,hb⟩
 obtain ⟨v',e1,e2⟩:=e
 rw [h] at e1
 obtain rfl:=Option.some.inj e1
 exact absurd e2 hc
theorem ClassPost.none {W w':World} {l:List Atr} {c:ByteArray} (h:atOf l strClass=Option.none) (hb:Below W.heap.size W w'):ClassPost W l c (.returned (.bool false)) w':=by
 refine ⟨false,rfl,⟨fun e=>(by cases e),fun e=>?_⟩,hb⟩
 obtain ⟨v',e1,_⟩:=e
 rw [h] at e1;cases e1
section
variable {W:World}
theorem refClass {D:Nat} (kn:Nat) (tag:ByteArray) (av:Value) (par:Nat) (ka:Option Addr) (kl kc:Nat) (l:List Atr) (c:ByteArray) (hv:W.ownsRow D 199 2 av l.length (l.flatMap arow)) (hl:l.length≤4000001) (hsv:∀ v,atOf l strClass=some v→v.size≤40) :
  Calls Tryz.prog 164 #[nodeV kn tag av par (.slice ka kl kc),.string c] W (ClassPost W l c):=by
 obtain ⟨ao,cap,rfl,_,hc⟩:=rowForm hv
 have HC:Hid _:=hc
 have hB:Below W.heap.size W (W.alloc (.cells #[.int .i64 kn,.string tag,.slice ao l.length cap,.int .i64 par,.slice ka kl kc] 150)):=(Below.refl _ _).alloc (Nat.le_refl _) _
 have hob:(W.alloc (.cells #[.int .i64 kn,.string tag,.slice ao l.length cap,.int .i64 par,.slice ka kl kc] 150)).heap[W.heap.size]?=some (.cells #[.int .i64 kn,.string tag,.slice ao l.length cap,.int .i64 par,.slice ka kl kc] 150 (0,0)):=heap_alloc_new W _
 have hsz:(W.alloc (.cells #[.int .i64 kn,.string tag,.slice ao l.length cap,.int .i64 par,.slice ka kl kc] 150)).heap.size=W.heap.size+1:=by simp
 have HV1:Hid ((W.alloc (.cells #[.int .i64 kn,.string tag,.slice ao l.length cap,.int .i64 par,.slice ka kl kc] 150)).ownsRow D 199 2 (.slice ao l.length cap) l.length (l.flatMap arow)):=row_keep hv (fun b hb=>hB.block b (hv.lt b hb).2)
 have HB:Hid (Below W.heap.size W (W.alloc (.cells #[.int .i64 kn,.string tag,.slice ao l.length cap,.int .i64 par,.slice ka kl kc] 150))):=hB
 have HOB:Hid ((W.alloc (.cells #[.int .i64 kn,.string tag,.slice ao l.length cap,.int .i64 par,.slice ka kl kc] 150)).heap[W.heap.size]?=some (.cells #[.int .i64 kn,.string tag,.slice ao l.length cap,.int .i64 par,.slice ka kl kc] 150 (0,0))):=hob
 have HSV:Hid (∀ v,atOf l strClass=some v→v.size≤40):=hsv
 clear hv hc hob hB hsv
 go_enter Tryz.func164, Tryz.ntmps164
 go_wp2_with fail
 refine (refAttr kn tag _ par _ l strClass HV1.out hl).mono ?_
 rintro e w2 ⟨rfl,hb2⟩
 have hob2:w2.heap[W.heap.size]?=_:=(hb2.block W.heap.size (by omega)).trans HOB.out
 have o2:=cells_of hob2 2
 have HB2:Hid (Below W.heap.size W w2):=HB.out.trans (hb2.mono (by omega))
 clear hob2 hb2
 rcases at_both l strClass with ⟨i,x,h1,h2,h3,h4⟩ | ⟨h1,h2,h3⟩
 ·rw [h3]
  have hil:=(List.getElem?_eq_some_iff.1 h1).1
  rcases HC.out with h0 | ⟨g,rfl,hgs,hcell⟩
  ·omega
  have c1:w2.cell? ⟨g,i*2+1,none⟩=some (.string x.2):=by
   rw [← (arow_at h1).2,← hcell (i*2+1) (by omega)]
   exact HB2.out.cell (p:=⟨g,_,none⟩) hgs
  have HX:Hid (atOf l strClass=some x.2):=h4
  have hx40:=HSV.out _ h4
  have ib:(i:Int)<(l.length:Int):=by omega
  have ip:¬ (i:Int)<0:=by omega
  obtain ⟨v,hvx⟩:∃ v:ByteArray,v=x.2:=⟨_,rfl⟩
  rw [← hvx] at c1 HX hx40
  have HVL:Hid (v.data.toList.length=v.size):=by show v.data.toList.length=v.size;simp
  clear h1 h2 h3 h4 hcell hvx
  go_wp2_with fail
  go_loop [7,8] (fun a b=>∃ f k:Nat,f≤42∧k≤v.size+1∧a=.int .i64 f∧b=.int .i64 k∧ClsAt v.data.toList c.data.toList f k) (fun _ b=>v.size+1-(intOf b).toNat)
  case atStart=>exact ⟨0,0,by omega,by omega,rfl,rfl,.inl ⟨Nat.zero_le _,Nat.le_refl _,by simp,by simp⟩⟩
  case round =>
   obtain ⟨f,k,hf42,hkm,rfl,rfl,hI⟩:=hrel
   have HI:Hid (ClsAt v.data.toList c.data.toList f k):=hI
   clear hI
   by_cases hkv:k≤v.size
   ·have hkv':(k:Int)≤(v.size:Int):=by omega
    obtain ⟨hkl,hfk,hno,hcc⟩:k≤v.data.toList.length∧f≤k∧(32:UInt8) ∉ (v.data.toList.drop f).take (k-f)∧(clsL v.data.toList c.data.toList↔clsL (v.data.toList.drop f) c.data.toList):=by
     rcases HI.out with h | ⟨h,_⟩
     ·exact h
     ·have:=HVL.out;omega
    have HNO:Hid ((32:UInt8) ∉ (v.data.toList.drop f).take (k-f)):=hno
    have HCC:Hid (clsL v.data.toList c.data.toList↔clsL (v.data.toList.drop f) c.data.toList):=hcc
    have HEX:Hid (((v.extract f k).toList == c.toList)=true↔(v.data.toList.drop f).take (k-f)=c.data.toList):=by
     show ((v.extract f k).toList == c.toList)=true↔_
     rw [Lib.toList_data,Lib.toList_data,ext_list];exact beq_iff_eq
    clear hno hcc hkl
    by_cases hke:k=v.size
    ·subst hke
     have d0:((v.size:Int) == (v.size:Int))=true:=by simp
     have HL:Hid (clsL v.data.toList c.data.toList↔f<v.size∧(v.data.toList.drop f).take (v.size-f)=c.data.toList):=by
      show clsL v.data.toList c.data.toList↔_
      rw [HCC.out]
      have:=cls_last (v:=v.data.toList) (c:=c.data.toList) (f:=f) (by rw [HVL.out];omega) (by rw [HVL.out];exact HNO.out)
      rw [HVL.out] at this
      exact this
     by_cases hfv:f<v.size
     ·have hfv':(f:Int)<(v.size:Int):=by omega
      cases he:((v.extract f v.size).toList == c.toList) with
      | true =>
       have HR:Hid (clsL v.data.toList c.data.toList):=HL.out.2 ⟨hfv,HEX.out.1 he⟩
       go_wp2_with fail
       go_ret
       exact ClassPost.yes HX.out HR.out HB2.out
      | false =>
       have HR:Hid (¬ clsL v.data.toList c.data.toList):=fun e=>by have:=HEX.out.2 (HL.out.1 e).2;rw [he] at this;cases this
       go_wp2_with fail
       go_round
       case rel=>exact ⟨v.size+1,v.size+1,by omega,by omega,by go_num,by go_num,.inr ⟨by rw [HVL.out],HR.out⟩⟩
       case measure=>simp [intOf]
     ·have hfv':¬ (f:Int)<(v.size:Int):=by omega
      have HR:Hid (¬ clsL v.data.toList c.data.toList):=fun e=>hfv (HL.out.1 e).1
      go_wp2_with fail
      go_round
      case rel=>exact ⟨v.size+1,v.size+1,by omega,by omega,by go_num,by go_num,.inr ⟨by rw [HVL.out],HR.out⟩⟩
      case measure=>simp [intOf]
    ·have hlt:k<v.size:=by omega
     have d0:((k:Int) == (v.size:Int))=false:=by simp;omega
     have HG:Hid (v.data.toList[k]?=some v[k]):=by
      show v.data.toList[k]?=some v[k]
      rw [List.getElem?_eq_getElem (by rw [HVL.out];exact hlt)];rfl
     by_cases c32:v[k]=32
     ·have c32':((v[k].toNat:Int) == 32)=true:=by rw [c32];rfl
      have HL:Hid (clsL v.data.toList c.data.toList↔(f<k∧(v.data.toList.drop f).take (k-f)=c.data.toList)∨clsL (v.data.toList.drop (k+1)) c.data.toList):=by
       show clsL v.data.toList c.data.toList↔_
       rw [HCC.out]
       exact cls_blank hfk (by rw [HG.out,c32]) HNO.out
      clear c32
      by_cases hfk2:f<k
      ·have hfk':(f:Int)<(k:Int):=by omega
       cases he:((v.extract f k).toList == c.toList) with
       | true =>
        have HR:Hid (clsL v.data.toList c.data.toList):=HL.out.2 (.inl ⟨hfk2,HEX.out.1 he⟩)
        go_wp2_with fail
        go_ret
        exact ClassPost.yes HX.out HR.out HB2.out
       | false =>
        have HR:Hid (clsL v.data.toList c.data.toList↔clsL (v.data.toList.drop (k+1)) c.data.toList):=by
         show clsL v.data.toList c.data.toList↔_
         rw [HL.out]
         refine ⟨fun e=>e.resolve_left (fun e'=>?_),.inr⟩
         have:=HEX.out.2 e'.2
         rw [he] at this;cases this
        go_wp2_with fail
        go_round
        case rel=>exact ⟨k+1,k+1,by omega,by omega,by go_num,by go_num,.inl ⟨by rw [HVL.out];omega,Nat.le_refl _,by simp,HR.out⟩⟩
        case measure=>simp [intOf];omega
      ·have hfk':¬ (f:Int)<(k:Int):=by omega
       have HR:Hid (clsL v.data.toList c.data.toList↔clsL (v.data.toList.drop (k+1)) c.data.toList):=by
        show clsL v.data.toList c.data.toList↔_
        rw [HL.out]
        exact ⟨fun e=>e.resolve_left (fun e'=>hfk2 e'.1),.inr⟩
       go_wp2_with fail
       go_round
       case rel=>exact ⟨k+1,k+1,by omega,by omega,by go_num,by go_num,.inl ⟨by rw [HVL.out];omega,Nat.le_refl _,by simp,HR.out⟩⟩
       case measure=>simp [intOf];omega
     ·have c32':((v[k].toNat:Int) == 32)=false:=by
       simp only [beq_eq_false_iff_ne,ne_eq]
       intro e
       have e':v[k].toNat=32:=by omega
       exact c32 (UInt8.toNat_inj.1 e')
      have HR:Hid ((32:UInt8) ∉ (v.data.toList.drop f).take (k+1-f)):=by
       show (32:UInt8) ∉ (v.data.toList.drop f).take (k+1-f)
       have e1:k+1-f=(k-f)+1:=by omega
       rw [e1,List.take_add_one,List.getElem?_drop,show f+(k-f)=k by omega,HG.out]
       simp only [Option.toList_some,List.mem_append,List.mem_singleton,not_or]
       exact ⟨HNO.out,fun e=>c32 e.symm⟩
      clear c32
      go_wp2_with fail
      go_round
      case rel=>exact ⟨f,k+1,by omega,by omega,rfl,by go_num,.inl ⟨by rw [HVL.out];omega,by omega,HR.out,HCC.out⟩⟩
      case measure=>simp [intOf];omega
   ·have hkv':¬ (k:Int)≤(v.size:Int):=by omega
    have HR:Hid (¬ clsL v.data.toList c.data.toList):=by
     rcases HI.out with ⟨h,_⟩ | ⟨_,h⟩
     ·have:=HVL.out;omega
     ·exact h
    go_wp2_with fail
    go_ret
    exact ClassPost.no HX.out HR.out HB2.out
 ·rw [h2]
  have HX:Hid (atOf l strClass=none):=h3
  clear h1 h2 h3
  go_wp2_with fail
  go_ret
  exact ClassPost.none HX.out HB2.out
end
end Go.Proofs.YtcedebpoihcbdaaGreatDoor
