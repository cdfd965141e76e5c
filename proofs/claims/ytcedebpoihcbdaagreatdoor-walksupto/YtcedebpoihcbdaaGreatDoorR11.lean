/-
  The document's own answer: a node's attributes, looked at.
-/
import Derived.Test.YtcedebpoihcbdaaGreatDoorRB
set_option linter.unusedVariables false
set_option maxHeartbeats 400000
set_option maxRecDepth 100000
namespace Go.Proofs.YtcedebpoihcbdaaGreatDoor
open Go.RowKit Go.Shelf Gv
abbrev nodeV (kn:Nat) (tag:ByteArray) (av:Value) (par:Nat) (kv:Value):Value:=.agg #[.int .i64 kn,.string tag,av,.int .i64 par,kv]
theorem arow_at {l:List Atr} {i:Nat} {x:Atr} (h:l[i]?=some x):(l.flatMap arow)[i*2]?=some (.string x.1)∧(l.flatMap arow)[i*2+1]?=some (.string x.2):=by
 induction l generalizing i with
 | nil=>simp at h
 | cons y l ih =>
  cases i with
  | zero =>
   simp only [List.getElem?_cons_zero,Option.some.injEq] at h
   subst h
   exact ⟨rfl,rfl⟩
  | succ i =>
   rw [List.getElem?_cons_succ] at h
   have:=ih h
   rw [List.flatMap_cons,show (i+1)*2=i*2+2 by omega]
   exact this
def atPos (l:List Atr) (name:ByteArray):Int:=match l.findIdx? (fun x=>x.1.toList == name.toList) with
 | some i=>i
 | none=>-1
theorem atPos_some {l:List Atr} {name:ByteArray} {i:Nat} {x:Atr} (hi:l[i]?=some x) (hx:(x.1.toList == name.toList)=true) (hno:∀ y,y∈l.take i→(y.1.toList == name.toList)=false):atPos l name=i:=by
 have hl:=(List.getElem?_eq_some_iff.1 hi).1
 have:l.findIdx? (fun x=>x.1.toList == name.toList)=some i:=by
  rw [List.findIdx?_eq_some_iff_getElem]
  refine ⟨hl,?_,fun j hj=>?_⟩
  ·rw [(List.getElem?_eq_some_iff.1 hi).2];exact hx
  ·have:=hno l[j] (by rw [List.mem_take_iff_getElem];exact ⟨j,by omega,rfl⟩)
   rw [this];simp
 unfold atPos
 rw [this]
theorem atPos_none {l:List Atr} {name:ByteArray} (hno:∀ y,y∈l→(y.1.toList == name.toList)=false):atPos l name=-1:=by
 have:l.findIdx? (fun x=>x.1.toList == name.toList)=none:=by
  rw [List.findIdx?_eq_none_iff]
  exact hno
 unfold atPos
 rw [this]
def atOf (l:List Atr) (k:ByteArray):Option ByteArray:=(l.find? (fun x=>decide (x.1=k))).map (·.2)
theorem eq_bytes (a b:ByteArray):(a.toList == b.toList)=decide (a=b):=by
 by_cases h:a=b
 ·subst h;simp
 ·have:a.toList≠b.toList:=fun e=>h (toList_inj e)
  simp [h,this]
theorem at_both (l:List Atr) (name:ByteArray):(∃ (i:Nat) (x:Atr),l[i]?=some x∧x.1=name∧atPos l name=i∧atOf l name=some x.2)∨((∀ y,y∈l→y.1≠name)∧atPos l name=-1∧atOf l name=none):=by
 induction l with
 | nil=>exact .inr ⟨by simp,rfl,rfl⟩
 | cons y l ih =>
  by_cases e:y.1=name
  ·left
   refine ⟨0,y,rfl,e,?_,?_⟩
   ·exact atPos_some (l:=y :: l) (i:=0) rfl (by rw [eq_bytes];simpa using e) (by simp)
   ·unfold atOf;rw [List.find?_cons_of_pos (by simpa using e)];rfl
  ·have ho:atOf (y :: l) name=atOf l name:=by unfold atOf;rw [List.find?_cons_of_neg (by simpa using e)]
   rcases ih with ⟨i,x,h1,h2,h3,h4⟩ | ⟨h1,h2,h3⟩
   ·left
    refine ⟨i+1,x,by simpa using h1,h2,?_,by rw [ho];exact h4⟩
    have key:l.findIdx? (fun x=>x.1.toList == name.toList)=some i:=by
     unfold atPos at h3
     split at h3
     ·rename_i k hk
      rw [hk];congr 1;omega
     ·omega
    unfold atPos
    rw [List.findIdx?_cons,key]
    have:(y.1.toList == name.toList)=false:=by rw [eq_bytes];simpa using e
    rw [this]
    simp
   ·right
    refine ⟨fun z hz=>?_,atPos_none (fun z hz=>?_),by rw [ho];exact h3⟩
    ·rcases List.mem_cons.1 hz with rfl | hz
     ·exact e
     ·exact h1 z hz
    ·rw [eq_bytes]
     rcases List.mem_cons.1 hz with rfl | hz
     ·simpa using e
     ·simpa using h1 z hz
section
variable {w W:World} {r:Rx}
theorem refAttr {D:Nat} (kn:Nat) (tag:ByteArray) (av:Value) (par:Nat) (kv:Value) (l:List Atr) (name:ByteArray) (hv:W.ownsRow D 199 2 av l.length (l.flatMap arow)) (hl:l.length≤4000001) :
  Calls Tryz.prog 149 #[nodeV kn tag av par kv,.string name] W fun e w'=>e=.returned (.int .i64 (atPos l name))∧Below W.heap.size W w':=by
 obtain ⟨ao,cap,rfl,_,hc⟩:=rowForm hv
 have HC:Hid _:=hc
 have hob:(W.alloc (.cells #[.int .i64 kn,.string tag,.slice ao l.length cap,.int .i64 par,kv] 150)).heap[W.heap.size]?=some (.cells #[.int .i64 kn,.string tag,.slice ao l.length cap,.int .i64 par,kv] 150 (0,0)):=heap_alloc_new W _
 have o2:=cells_of hob 2
 have HB:Hid (Below W.heap.size W (W.alloc (.cells #[.int .i64 kn,.string tag,.slice ao l.length cap,.int .i64 par,kv] 150))):=(Below.refl _ _).alloc (Nat.le_refl _) _
 clear hv hc hob
 go_enter Tryz.func149, Tryz.ntmps149
 go_wp2_with fail
 go_loop [5] (fun i=>∃ k:Nat,k≤l.length∧i=.int .i64 k∧∀ y,y∈l.take k→(y.1.toList == name.toList)=false) (fun i=>l.length-(intOf i).toNat)
 case atStart=>exact ⟨0,Nat.zero_le _,rfl,by simp⟩
 case round =>
  obtain ⟨k,hk,rfl,hno⟩:=hrel
  have HNO:Hid (∀ y,y∈l.take k→(y.1.toList == name.toList)=false):=hno
  clear hno
  by_cases hlt:k<l.length
  ·rcases HC.out with h0 | ⟨g,rfl,hgs,hcell⟩
   ·omega
   obtain ⟨x,hx⟩:∃ x,l[k]?=some x:=⟨_,List.getElem?_eq_getElem hlt⟩
   have hxr:=arow_at hx
   have c1:(W.alloc (.cells #[.int .i64 kn,.string tag,.slice (some ⟨g,0,none⟩) l.length cap,.int .i64 par,kv] 150)).cell? ⟨g,k*2,none⟩=some (.string x.1):=by
    rw [← hxr.1,← hcell (k*2) (by omega)]
    exact HB.out.cell (p:=⟨g,_,none⟩) hgs
   have HX:Hid (l[k]?=some x):=hx
   have HT:Hid (l.take (k+1)=l.take k++[x]):=by
    show l.take (k+1)=_
    rw [List.take_add_one,hx];rfl
   have ib:(k:Int)<(l.length:Int):=by omega
   clear hcell hxr hx
   cases he:(x.1.toList == name.toList) with
   | true =>
    have HE:Hid ((x.1.toList == name.toList)=true):=he
    go_wp2_with fail
    go_ret
    exact ⟨ret_int (atPos_some HX.out HE.out HNO.out).symm,HB.out⟩
   | false =>
    have HE:Hid ((x.1.toList == name.toList)=false):=he
    go_wp2_with fail
    go_round
    case rel=>exact ⟨k+1,hlt,by go_num,by rw [HT.out];intro y hy;rcases mem_snoc hy with hy | rfl;(exact HNO.out y hy);(exact HE.out)⟩
    case measure=>simp [intOf];omega
  ·have ib:¬ (k:Int)<(l.length:Int):=by omega
   have HE:Hid (atPos l name=-1):=atPos_none (fun y hy=>HNO.out y (by rw [List.take_of_length_le (by omega)];exact hy))
   go_wp2_with fail
   go_ret
   exact ⟨ret_int HE.out.symm,HB.out⟩
theorem refRefused (h:RefOK W r) (n:Int) (name:ByteArray) (hs:name.size≤maxLen) :
  Calls Tryz.prog 148 #[.pointer (some ⟨r.rb,0,none⟩),.int .i64 n,.string name] W fun e w'=>e=.returned (.int .i64 (haveErr r.N r.kn n name))∧w'=W:=by
 have HH:Hid (RefOK W r):=h
 have hg:=h.c0
 have hN:=h.hN
 obtain ⟨L,hLe⟩:∃ L,L=r.N+1:=⟨_,rfl⟩
 rw [← hLe] at hg
 have HLe:Hid (L=r.N+1):=hLe
 have hL3:L≤301:=by omega
 cases hb:hasB (r.N+1) n with
 | false =>
  have HE:Hid (haveErr r.N r.kn n name=5):=by show haveErr r.N r.kn n name=5;unfold haveErr;rw [if_pos hb]
  clear h hLe
  go_enter Tryz.func148, Tryz.ntmps148
  go_wp2_with fail
  refine (refIs HH.out n).mono ?_
  rintro e W ⟨rfl,rfl⟩
  rw [hb]
  go_wp2_with fail
  go_ret
  exact ⟨ret_int HE.out.symm,rfl⟩
 | true =>
  obtain ⟨m,rfl,h1,hm⟩:=has_nat hb
  have kp:=h.ckn hm
  have hmL:(m:Int)<(L:Int):=by omega
  by_cases k2:r.kn m=2
  ·have k2':((r.kn m:Int) != 2)=false:=by simp;omega
   have HI:Hid _:=fun w=>refIsName name w hs
   have HE:Hid (haveErr r.N r.kn m name=if nameB name.data.toList=false then 2 else 0):=by show haveErr r.N r.kn m name=_;unfold haveErr;rw [if_neg (by simp [hb]),if_neg (by simpa using k2)]
   clear h hLe
   generalize r.kn m=km at *
   go_enter Tryz.func148, Tryz.ntmps148
   go_wp2_with fail
   refine (refIs HH.out m).mono ?_
   rintro e W ⟨rfl,rfl⟩
   rw [hb]
   go_wp2_with fail
   refine (refIsName name _ hs).mono ?_
   rintro e W ⟨rfl,rfl⟩
   cases hn:nameB name.data.toList with
   | true =>
    have HE2:Hid (haveErr r.N r.kn m name=0):=by show haveErr r.N r.kn m name=0;rw [HE.out,hn];rfl
    go_wp2_with fail
    go_ret
    exact ⟨ret_int HE2.out.symm,rfl⟩
   | false =>
    have HE2:Hid (haveErr r.N r.kn m name=2):=by show haveErr r.N r.kn m name=2;rw [HE.out,hn];rfl
    go_wp2_with fail
    go_ret
    exact ⟨ret_int HE2.out.symm,rfl⟩
  ·have k2':((r.kn m:Int) != 2)=true:=by simp;omega
   have HE:Hid (haveErr r.N r.kn m name=1):=by show haveErr r.N r.kn m name=1;unfold haveErr;rw [if_neg (by simp [hb]),if_pos (by simpa using k2)]
   clear h hLe
   go_enter Tryz.func148, Tryz.ntmps148
   go_wp2_with fail
   refine (refIs HH.out m).mono ?_
   rintro e W ⟨rfl,rfl⟩
   rw [hb]
   go_wp2_with fail
   go_ret
   exact ⟨ret_int HE.out.symm,rfl⟩
end
end Go.Proofs.YtcedebpoihcbdaaGreatDoor
