/-
  The document's own answer: the first element with an id.
  The document's own answer: a list more.
-/
import Derived.Test.YtcedebpoihcbdaaGreatDoorRE
import Derived.Test.YtcedebpoihcbdaaGreatDoorGB
import Derived.Deep.RegionHeld3
set_option linter.unusedVariables false
set_option maxHeartbeats 1000000
set_option maxRecDepth 100000
namespace Go.Proofs.YtcedebpoihcbdaaGreatDoor
open Go.RowKit Go.Shelf Gv
section
variable {w w' W:World} {r:Rx} {s:Fo} {K:Nat→List Nat}
theorem RefOK.node (h:RefOK w r) {y:Nat} (hy:y≤r.N):∃ aa ac ka kc,w.cell? ⟨r.rn,y*5,none⟩=some (.int .i64 (r.kn y))∧w.cell? ⟨r.rn,y*5+1,none⟩=some (.string (r.tag y))∧w.cell? ⟨r.rn,y*5+2,none⟩=some (.slice aa (r.ats y).length ac)∧w.cell? ⟨r.rn,y*5+3,none⟩=some (.int .i64 (r.par y))∧w.cell? ⟨r.rn,y*5+4,none⟩=some (.slice ka (r.K y).length kc) ∧
  w.ownsRow 0 199 2 (.slice aa (r.ats y).length ac) (r.ats y).length ((r.ats y).flatMap arow):=by
 obtain ⟨aa,ac,hav,_,_⟩:=rowForm (h.att y hy)
 obtain ⟨ka,kc,hkv,_,_⟩:=rowForm (h.kids y hy)
 refine ⟨aa,ac,ka,kc,h.ckn hy,h.ctag hy,?_,h.cpar hy,?_,?_⟩
 ·rw [← hav];exact h.cav hy
 ·rw [← hkv];exact h.ckv hy
 ·rw [← hav];exact h.att y hy
def refIdF (r:Rx) (K:Nat→List Nat) (m:Nat) (id:ByteArray):Nat:=((P r.N K m).tail.find? (fun y=>hasV (atOf (r.ats y) strId) id)).getD 0
def IdPost (w:World) (r:Rx) (K:Nat→List Nat) (n:Int) (id:ByteArray) (e:Ending) (w':World):Prop:=Below w.heap.size w w' ∧
 ((hasB (r.N+1) n=false∧e=.returned (.tuple #[.int .i64 0,.int .i64 5]))∨∃ m:Nat,n=m∧1≤m∧m≤r.N∧e=.returned (.tuple #[.int .i64 (refIdF r K m id:Nat),.int .i64 0]))
theorem IdPost.mk' {w w':World} {r:Rx} {K:Nat→List Nat} {m y:Nat} {id:ByteArray} (hb:Below w.heap.size w w') (h1:1≤m) (hm:m≤r.N) (hy:refIdF r K m id=y):IdPost w r K m id (.returned (.tuple #[.int .i64 (y:Nat),.int .i64 0])) w':=⟨hb,.inr ⟨m,rfl,h1,hm,by rw [hy]⟩⟩
theorem tail_getD {l:List Nat} {k:Nat} (hk:1≤k):l.tail.getD (k-1) 0=l.getD k 0:=by
 cases l with
 | nil=>simp
 | cons a l =>
  obtain ⟨j,rfl⟩:∃ j,k=j+1:=⟨k-1,by omega⟩
  simp
theorem refById (h:RefOK w r) (hwf:WF r.N s K) (hK:r.K=K) (n:Int) (id:ByteArray) :
  Calls Tryz.prog 101 #[.pointer (some ⟨r.rb,0,none⟩),.int .i64 n,.string id] w (IdPost w r K n id):=by
 have HH:Hid (RefOK w r):=h
 have HW:Hid (WF r.N s K):=hwf
 have HK:Hid (r.K=K):=hK
 have hN:=h.hN
 obtain ⟨L,hLe⟩:∃ L,L=r.N+1:=⟨_,rfl⟩
 have HLe:Hid (L=r.N+1):=hLe
 have hL3:L≤301:=by omega
 cases hb:hasB (r.N+1) n with
 | false =>
  clear h hLe hwf hK
  go_enter Tryz.func101, Tryz.ntmps101
  go_wp2_with fail
  refine (refIs HH.out n).mono ?_
  rintro e w ⟨rfl,rfl⟩
  rw [hb]
  go_wp2_with fail
  go_ret2
  exact ⟨Below.refl _ _,.inl ⟨hb,rfl⟩⟩
 | true =>
  obtain ⟨m,rfl,h1,hm⟩:=has_nat hb
  have HI:Hid (∀ y,y∈P r.N K m→1≤y∧y≤r.N):=fun y hy=>pre_le hwf r.N m y h1 hm hy
  have hpl:=P_len hwf h1 hm
  clear h hLe hwf hK
  go_enter Tryz.func101, Tryz.ntmps101
  go_wp2_with fail
  refine (refIs HH.out m).mono ?_
  rintro e w ⟨rfl,rfl⟩
  rw [hb]
  go_wp2_with fail
  refine (refWithin HH.out HW.out HK.out m h1 hm).mono ?_
  rintro e w2 ⟨v,rfl,hv,hb2⟩
  obtain ⟨ao,cap,rfl,hnum⟩:=nums_form hv rfl
  have HNU:Hid _:=hnum
  have HB2:Hid (Below w.heap.size w w2):=hb2
  obtain ⟨l,hl⟩:∃ l,l=P r.N K m:=⟨_,rfl⟩
  rw [← hl] at HI HNU hpl ⊢
  have HF:Hid (refIdF r K m id=(l.tail.find? (fun y=>hasV (atOf (r.ats y) strId) id)).getD 0):=by show refIdF r K m id=_;rw [hl];rfl
  clear hv hb2 hnum hl
  go_wp2_with fail
  go_loopw [10] (fun i wr=>∃ k:Nat,1≤k∧(k≤l.length∨k=1)∧i=.int .i64 k∧Below w2.heap.size w2 wr∧∀ y,y∈l.tail.take (k-1)→hasV (atOf (r.ats y) strId) id=false) (fun i _=>l.length-(intOf i).toNat)
  case atStart=>exact ⟨1,Nat.le_refl _,.inr rfl,rfl,Below.refl _ _,by simp⟩
  case round =>
   obtain ⟨k,hk1,hkl,rfl,hb3,hno⟩:=hrel
   obtain ⟨w3,rfl⟩:∃ w3:World,w3=wr:=⟨_,rfl⟩
   have HB3:Hid (Below w2.heap.size w2 w3):=hb3
   have HNO:Hid (∀ y,y∈l.tail.take (k-1)→hasV (atOf (r.ats y) strId) id=false):=hno
   clear hb3 hno
   by_cases hlt:k<l.length
   ·rcases HNU.out with h0 | ⟨g,rfl,hgs,hc⟩
    ·omega
    have HX:Hid (l.tail.getD (k-1) 0=l.getD k 0):=tail_getD hk1
    have hmem:l.getD k 0∈l:=by rw [List.getD_eq_getElem?_getD,List.getElem?_eq_getElem hlt];exact List.getElem_mem _
    have hy:=HI.out _ hmem
    have c1:w3.cell? ⟨g,k,none⟩=some (.int .i64 (l.getD k 0:Nat)):=(HB3.out.cell (p:=⟨g,k,none⟩) hgs).trans (hc k hlt)
    have HT:Hid (l.tail.take (k-1+1)=l.tail.take (k-1)++[l.tail.getD (k-1) 0]):=by
     show l.tail.take (k-1+1)=_
     rw [List.take_add_one,List.getD_eq_getElem?_getD,List.getElem?_eq_getElem (by rw [List.length_tail];omega)];rfl
    have R3:Hid (RefOK w3 r):=HH.out.since (HB2.out.trans (HB3.out.mono HB2.out.size))
    have g3:w3.cell? ⟨r.rb,0,none⟩=some (.slice (some ⟨r.rn,0,none⟩) L r.cap):=by rw [HLe.out];exact R3.out.c0
    have hltail:k-1<l.tail.length:=by rw [List.length_tail];omega
    generalize hyy:l.getD k 0=y at *
    obtain ⟨aa,ac,ka,kc,n0,n1,n2,n3,n4,hat⟩:=R3.out.node hy.2
    have HAT:Hid (w3.ownsRow 0 199 2 (.slice aa (r.ats y).length ac) (r.ats y).length ((r.ats y).flatMap arow)):=hat
    have HT4:Hid ((r.ats y).length≤4000001):=by have h4:=R3.out.afew y hy.2;have h5:=R3.out.hT;show (r.ats y).length≤4000001;omega
    have hyL:(y:Int)<(L:Int):=by have:=HLe.out;omega
    have ib:(k:Int)<(l.length:Int):=by omega
    have HHAS:Hid (Calls Tryz.prog 154 #[.agg #[.int .i64 (r.kn y),.string (r.tag y),.slice aa (r.ats y).length ac,.int .i64 (r.par y),.slice ka (r.K y).length kc],.string ⟨#[105,100]⟩,.string id] w3.drew fun e w'=>e=.returned (.bool (hasV (atOf (r.ats y) strId) id))∧Below w3.drew.heap.size w3.drew w'):=refHas (r.kn y) (r.tag y) _ (r.par y) ka _ kc (r.ats y) strId id (row_keep HAT.out (fun _ _=>rfl)) HT4.out
    have hlv:w3.heap.size≤w3.drew.heap.size:=Nat.le_refl _
    clear hc hmem hat hyy
    generalize r.kn y=km at *
    generalize r.tag y=tm at *
    generalize r.par y=pm at *
    generalize (r.K y).length=kq at *
    generalize hlq:(r.ats y).length=lq at *
    cases hres:hasV (atOf (r.ats y) strId) id with
    | true =>
     rw [hres] at HHAS
     have HR:Hid (l.tail.find? (fun y=>hasV (atOf (r.ats y) strId) id)=some y):=by
      have:=take_find (p:=fun y=>hasV (atOf (r.ats y) strId) id) (l:=l.tail) (k:=k-1) hltail HNO.out (by show hasV (atOf (r.ats (l.tail.getD (k-1) 0)) strId) id=true;rw [HX.out];exact hres)
      rw [HX.out] at this
      exact this
     go_wp2_with fail
     go_region_held3 (fun wx=>wx.cell? ⟨r.rb,0,none⟩=some (.slice (some ⟨r.rn,0,none⟩) L r.cap)∧wx.cell? ⟨g,k,none⟩=some (.int .i64 y)∧wx.cell? ⟨r.rn,y*5,none⟩=some (.int .i64 km)∧wx.cell? ⟨r.rn,y*5+1,none⟩=some (.string tm)∧wx.cell? ⟨r.rn,y*5+2,none⟩=some (.slice aa lq ac)∧wx.cell? ⟨r.rn,y*5+3,none⟩=some (.int .i64 pm)∧wx.cell? ⟨r.rn,y*5+4,none⟩=some (.slice ka kq kc)) (first | exact ⟨g3,c1,n0,n1,n2,n3,n4⟩ | exact ⟨y0,y1,y2,y3,y4,y5,y6⟩ | go_keep) ((go_at_call 154;(with_reducible refine Calls.mono HHAS.out ?_);rintro e w4 ⟨rfl,hb4⟩;have HB4:Hid (Below w3.heap.size w3 w4):=(Below.refl _ w3).drew.trans hb4;have y0:w4.cell? ⟨r.rb,0,none⟩=some (.slice (some ⟨r.rn,0,none⟩) L r.cap):=(HB4.out.cell (p:=⟨r.rb,0,none⟩) R3.out.ltb).trans g3;have y1:w4.cell? ⟨g,k,none⟩=some (.int .i64 y):=(HB4.out.cell (p:=⟨g,k,none⟩) (Nat.lt_of_lt_of_le hgs HB3.out.size)).trans c1;have y2:w4.cell? ⟨r.rn,y*5,none⟩=some (.int .i64 km):=(HB4.out.cell (p:=⟨r.rn,y*5,none⟩) R3.out.ltn).trans n0;have y3:w4.cell? ⟨r.rn,y*5+1,none⟩=some (.string tm):=(HB4.out.cell (p:=⟨r.rn,y*5+1,none⟩) R3.out.ltn).trans n1;have y4:w4.cell? ⟨r.rn,y*5+2,none⟩=some (.slice aa lq ac):=(HB4.out.cell (p:=⟨r.rn,y*5+2,none⟩) R3.out.ltn).trans n2;have y5:w4.cell? ⟨r.rn,y*5+3,none⟩=some (.int .i64 pm):=(HB4.out.cell (p:=⟨r.rn,y*5+3,none⟩) R3.out.ltn).trans n3;have y6:w4.cell? ⟨r.rn,y*5+4,none⟩=some (.slice ka kq kc):=(HB4.out.cell (p:=⟨r.rn,y*5+4,none⟩) R3.out.ltn).trans n4;clear hb4))
     all_goals
      have z1:w4.cell? ⟨g,k,none⟩=some (.int .i64 y):=y1
      have HB5:Hid (Below w.heap.size w w4):=HB2.out.trans ((HB3.out.trans (HB4.out.mono HB3.out.size)).mono HB2.out.size)
      clear y0 y1 y2 y3 y4 y5 y6
      go_wp2_with fail
      go_ret2
      exact IdPost.mk' HB5.out h1 hm (by rw [HF.out,HR.out];rfl)
    | false =>
     rw [hres] at HHAS
     have HR:Hid (hasV (atOf (r.ats y) strId) id=false):=hres
     go_wp2_with fail
     go_region_held3 (fun wx=>wx.cell? ⟨r.rb,0,none⟩=some (.slice (some ⟨r.rn,0,none⟩) L r.cap)∧wx.cell? ⟨g,k,none⟩=some (.int .i64 y)∧wx.cell? ⟨r.rn,y*5,none⟩=some (.int .i64 km)∧wx.cell? ⟨r.rn,y*5+1,none⟩=some (.string tm)∧wx.cell? ⟨r.rn,y*5+2,none⟩=some (.slice aa lq ac)∧wx.cell? ⟨r.rn,y*5+3,none⟩=some (.int .i64 pm)∧wx.cell? ⟨r.rn,y*5+4,none⟩=some (.slice ka kq kc)) (first | exact ⟨g3,c1,n0,n1,n2,n3,n4⟩ | exact ⟨y0,y1,y2,y3,y4,y5,y6⟩ | go_keep) ((go_at_call 154;(with_reducible refine Calls.mono HHAS.out ?_);rintro e w4 ⟨rfl,hb4⟩;have HB4:Hid (Below w3.heap.size w3 w4):=(Below.refl _ w3).drew.trans hb4;have y0:w4.cell? ⟨r.rb,0,none⟩=some (.slice (some ⟨r.rn,0,none⟩) L r.cap):=(HB4.out.cell (p:=⟨r.rb,0,none⟩) R3.out.ltb).trans g3;have y1:w4.cell? ⟨g,k,none⟩=some (.int .i64 y):=(HB4.out.cell (p:=⟨g,k,none⟩) (Nat.lt_of_lt_of_le hgs HB3.out.size)).trans c1;have y2:w4.cell? ⟨r.rn,y*5,none⟩=some (.int .i64 km):=(HB4.out.cell (p:=⟨r.rn,y*5,none⟩) R3.out.ltn).trans n0;have y3:w4.cell? ⟨r.rn,y*5+1,none⟩=some (.string tm):=(HB4.out.cell (p:=⟨r.rn,y*5+1,none⟩) R3.out.ltn).trans n1;have y4:w4.cell? ⟨r.rn,y*5+2,none⟩=some (.slice aa lq ac):=(HB4.out.cell (p:=⟨r.rn,y*5+2,none⟩) R3.out.ltn).trans n2;have y5:w4.cell? ⟨r.rn,y*5+3,none⟩=some (.int .i64 pm):=(HB4.out.cell (p:=⟨r.rn,y*5+3,none⟩) R3.out.ltn).trans n3;have y6:w4.cell? ⟨r.rn,y*5+4,none⟩=some (.slice ka kq kc):=(HB4.out.cell (p:=⟨r.rn,y*5+4,none⟩) R3.out.ltn).trans n4;clear hb4))
     all_goals
      have HB5:Hid (Below w2.heap.size w2 w4):=HB3.out.trans (HB4.out.mono HB3.out.size)
      clear y0 y1 y2 y3 y4 y5 y6
      go_wp2_with fail
      go_roundw
      case rel=>exact ⟨k+1,by omega,.inl hlt,by go_num,HB5.out,by rw [show k+1-1=k-1+1 by omega,HT.out];intro z hz;rcases mem_snoc hz with hz | rfl;(exact HNO.out z hz);(rw [HX.out];exact HR.out)⟩
      case measure=>simp [intOf];omega
   ·have ib:¬ (k:Int)<(l.length:Int):=by omega
    have HR:Hid (l.tail.find? (fun y=>hasV (atOf (r.ats y) strId) id)=none):=find_not (fun y hy=>HNO.out y (by rw [List.take_of_length_le (by rw [List.length_tail];omega)];exact hy))
    have HB5:Hid (Below w.heap.size w w3):=HB2.out.trans (HB3.out.mono HB2.out.size)
    go_wp2_with fail
    go_ret2
    exact IdPost.mk' HB5.out h1 hm (by rw [HF.out,HR.out];rfl)
end
open Go.RowKit Go.Shelf Gv
theorem Tryz.info177:(Tryz.prog.info? 177).map (fun i=>(i.zero,i.size,i.bytes))=some (some (.agg #[.int .i64 0,.int .i64 0,.string ByteArray.empty]),3,32):=by kernel_rfl
theorem hasBl_index (s:ByteArray):hasBl s=decide (0≤Lib.indexByte s.data.toList 32):=by
 unfold hasBl
 have hge:=Lib.indexByte_ge s.data.toList 32
 by_cases h:(32:UInt8)∈s.data.toList
 ·have:0≤Lib.indexByte s.data.toList 32:=by
   by_cases e:Lib.indexByte s.data.toList 32=-1
   ·obtain ⟨k,hk⟩:=List.getElem?_of_mem h
    exact absurd hk (Lib.indexByte_none e k)
   ·omega
  rw [decide_eq_true h,decide_eq_true this]
 ·have:¬ 0≤Lib.indexByte s.data.toList 32:=fun e=>by
   obtain ⟨i,hi⟩:=Int.eq_ofNat_of_zero_le e
   exact h (List.mem_of_getElem? (Lib.indexByte_some hi).1)
  rw [decide_eq_false h,decide_eq_false this]
def Rx.watched (r:Rx) (root how:Nat) (what:ByteArray) (v:Value):Rx:={ r with wv:=v,wl:=r.wl++[(root,how,what)] }
theorem watched_end {w w3 w3':World} {r:Rx} {root how g cap:Nat} {what:ByteArray} (h:RefOK w r) (hal:Below w.heap.size w w3') (hown:w3.ownsRow 0 177 3 (.slice (some ⟨g,0,none⟩) (r.wl.length+1) cap) (r.wl.length+1) (r.wl.flatMap wrow++wrow (root,how,what)))
  (hgrow:World.grownBy w3' w3 r.wv.ownBlock) (hat:r.wv.ownBlock=some g∨w.heap.size≤g) (h50:r.wl.length<50) :
  RPost w (w3.setCell ⟨r.rb,1,none⟩ (.slice (some ⟨g,0,none⟩) (r.wl.length+1) cap)) r (r.watched root how what (.slice (some ⟨g,0,none⟩) (r.wl.length+1) cap)):=by
 have hk3:∀ b,b<w.heap.size→r.wv.ownBlock≠some b→w3.heap[b]?=w.heap[b]?:=fun b hb hne=>(hgrow.block b (Nat.lt_of_lt_of_le hb hal.size) (fun e=>hne e.symm)).trans (hal.block b hb)
 have hs3:w.heap.size≤w3.heap.size:=Nat.le_trans hal.size hgrow.size
 have hg3:w3.heap[r.rb]?=some (.cells #[.slice (some ⟨r.rn,0,none⟩) (r.N+1) r.cap,r.wv,r.iv,r.qv] 117 (0,0)):=(hk3 _ h.ltb (row_ne h.wat h.g (by decide))).trans h.g
 have hgb:g≠r.rb:=fun e=>row_ne hown hg3 (by decide) (by rw [← e];rfl)
 have hk:∀ (b:Nat) (cs:Array Value) (ty:TypeId),w.heap[b]?=some (.cells cs ty (0,0))→(ty≠177∧ty≠117)→(w3.setCell ⟨r.rb,1,none⟩ (.slice (some ⟨g,0,none⟩) (r.wl.length+1) cap)).heap[b]?=w.heap[b]?:=by
  intro b cs ty hb ht
  rw [heap_setCell_other _ _ _ _ (fun e=>?_)]
  ·exact hk3 b (lt_of_block hb) (row_ne h.wat hb ht.1)
  ·have hb':=h.g
   have e':b=r.rb:=e
   rw [← e',hb] at hb';simp at hb';exact ht.2 hb'.2
 obtain ⟨_,p2,p3,p4,_,p6,p7,p8,p9⟩:=h.part (ok:=fun ty=>ty≠177∧ty≠117) hk
 refine ⟨⟨?_,p2 (by decide),h.hN,p3 (by decide),h.few,p4 (by decide),h.afew,h.hT,h.nd,?_,?_,p6 (by decide),h.ifew,p7 (by decide),p8 (by decide),h.qfew,p9 (by decide)⟩,?_,fun i hi=>?_,rfl⟩
 ·exact heap_setCell_same w3 r.rb 1 _ _ _ hg3
 ·show World.ownsRow _ 0 177 3 (.slice (some ⟨g,0,none⟩) (r.wl.length+1) cap) (r.wl++[(root,how,what)]).length ((r.wl++[(root,how,what)]).flatMap wrow)
  rw [List.length_append,List.flatMap_append]
  have:=ownsRow_setCell_other (a:=⟨r.rb,1,none⟩) hown (by simp [Value.ownBlock];exact hgb) (.slice (some ⟨g,0,none⟩) (r.wl.length+1) cap)
  simpa using this
 ·show (r.wl++[(root,how,what)]).length≤50
  rw [List.length_append];simp;omega
 ·have f1:Fr r.own w w3:=⟨hgrow.os.trans hal.os,hgrow.tape.trans hal.tape,hgrow.output.trans hal.output,hs3,fun i hi hn=>hk3 i hi (fun e=>hn (.inr (.inr (.inr (.inr (.inl e))))))⟩
  exact f1.setCell (p:=⟨r.rb,1,none⟩) Rx.own_b _
 ·rcases hi with hi | hi | hi | hi | hi | hi | hi | hi | hi
  ·exact .inl (.inl hi)
  ·exact .inl (.inr (.inl hi))
  ·exact .inl (.inr (.inr (.inl hi)))
  ·exact .inl (.inr (.inr (.inr (.inl hi))))
  ·have hi':g=i:=by simpa [Rx.watched,Value.ownBlock] using hi
   subst hi'
   rcases hat with e | e
   ·exact .inl (.inr (.inr (.inr (.inr (.inl e)))))
   ·exact .inr e
  ·exact .inl (.inr (.inr (.inr (.inr (.inr (.inl hi))))))
  ·exact .inl (.inr (.inr (.inr (.inr (.inr (.inr (.inl hi)))))))
  ·exact .inl (.inr (.inr (.inr (.inr (.inr (.inr (.inr (.inl hi))))))))
  ·exact .inl (.inr (.inr (.inr (.inr (.inr (.inr (.inr (.inr hi))))))))
def WatchPost (w:World) (r:Rx) (root how:Int) (what:ByteArray) (e:Ending) (w':World):Prop :=
 (watchErr r.N root how what r.wl.length≠0∧e=.returned (.tuple #[.int .i64 0,.int .i64 (watchErr r.N root how what r.wl.length)])∧w'=w) ∨
 (watchErr r.N root how what r.wl.length=0∧∃ (m k:Nat) (v:Value),root=m∧how=k∧e=.returned (.tuple #[.int .i64 (r.wl.length+1:Nat),.int .i64 0])∧RPost w w' r (r.watched m k what v))
theorem WatchPost.err {w:World} {r:Rx} {root how q:Int} {what:ByteArray} (h:watchErr r.N root how what r.wl.length=q) (hq:q≠0):WatchPost w r root how what (.returned (.tuple #[.int .i64 0,.int .i64 q])) w:=.inl ⟨by rw [h];exact hq,by rw [h],rfl⟩
section
variable {w w' W:World} {r:Rx}
theorem refWatch (h:RefOK w r) (root how:Int) (what:ByteArray) (hs:what.size≤maxLen) :
  Calls Tryz.prog 102 #[.pointer (some ⟨r.rb,0,none⟩),.int .i64 root,.int .i64 how,.string what] w (WatchPost w r root how what):=by
 have HH:Hid (RefOK w r):=h
 have HS:Hid (what.size≤maxLen):=hs
 have hwf:=h.wfew
 obtain ⟨wa,wc,hwv,_,_⟩:=rowForm h.wat
 have g1:w.cell? ⟨r.rb,1,none⟩=some (.slice wa r.wl.length wc):=by rw [← hwv];exact h.c1
 have HWV:Hid (r.wv=.slice wa r.wl.length wc):=hwv
 have fzb:∀ j,w.frozen? ⟨r.rb,j,none⟩=false:=h.gfree
 have ltb:=h.ltb
 clear h hwv
 cases hb:hasB (r.N+1) root with
 | false =>
  have HE:Hid (watchErr r.N root how what r.wl.length=5):=by show watchErr r.N root how what r.wl.length=5;unfold watchErr;rw [if_pos hb]
  go_enter Tryz.func102, Tryz.ntmps102
  go_wp2_with fail
  refine (refIs HH.out root).mono ?_
  rintro e w ⟨rfl,rfl⟩
  rw [hb]
  go_wp2_with fail
  go_ret2
  exact WatchPost.err HE.out (by decide)
 | true =>
  obtain ⟨m,rfl,hm1,hmN⟩:=has_nat hb
  by_cases hh:1≤how∧how≤4
  ·obtain ⟨hh1,hh4⟩:=hh
   obtain ⟨k,rfl⟩:=Int.eq_ofNat_of_zero_le (show 0≤how by omega)
   have e1:¬ (k:Int)<1:=by omega
   have e4:¬ (4:Int)<(k:Int):=by omega
   have HE0:Hid (∀ q,(if nameErr k what=true then 2 else if 40<what.size then 3 else if 50≤r.wl.length then 4 else 0)=q→watchErr r.N m k what r.wl.length=q):=fun q hq=>by
    have hl:listErr k what=if nameErr k what=true then 2 else if 40<what.size then 3 else 0:=by unfold listErr;rw [if_neg (by omega)]
    unfold watchErr
    rw [if_neg (by simp [hb]),hl]
    by_cases h1:nameErr k what=true
    ·simp [h1] at hq ⊢;exact hq
    ·by_cases h2:40<what.size
     ·simp [h1,h2] at hq ⊢;exact hq
     ·simp [h1,h2] at hq ⊢;exact hq
   have HNE:Hid (nameErr k what=((decide ((k:Int)=1) && (!(what.toList == [42]) && !nameB what.data.toList)) || (decide ((k:Int)=2) && (what.toList.isEmpty || hasBl what)))):=by
    show nameErr k what=_
    rw [hasBl_index];rfl
   go_enter Tryz.func102, Tryz.ntmps102
   go_wp2_with fail
   refine (refIs HH.out m).mono ?_
   rintro e w ⟨rfl,rfl⟩
   rw [hb]
   go_wp2_with fail
   refine (refIsName what _ HS.out).mono ?_
   rintro e w ⟨rfl,rfl⟩
   go_wp2_with fail
   refine (refBlank what _ HS.out).mono ?_
   rintro e w ⟨rfl,rfl⟩
   generalize nameB what.data.toList=nm at *
   generalize hasBl what=bl at *
   go_upto_region 8 with fail
   go_cut [48] (fun t wx=>(∃ q:Bool,t=.bool q∧nameErr k what=q)∧wx=w)
   case first =>
    by_cases k1:k=1
    ·subst k1
     cases hst:(what.toList == [42]) with
     | true =>
      have HR:Hid (nameErr (1:Nat) what=false):=by show nameErr (1:Nat) what=false;rw [HNE.out,hst];rfl
      cases nm with
      | true =>
       go_wp2_with fail
       go_meet
       case rel=>exact ⟨⟨_,rfl,HR.out⟩,rfl⟩
      | false =>
       go_wp2_with fail
       go_meet
       case rel=>exact ⟨⟨_,rfl,HR.out⟩,rfl⟩
     | false =>
      cases nm with
      | true =>
       have HR:Hid (nameErr (1:Nat) what=false):=by show nameErr (1:Nat) what=false;rw [HNE.out,hst];rfl
       go_wp2_with fail
       go_meet
       case rel=>exact ⟨⟨_,rfl,HR.out⟩,rfl⟩
      | false =>
       have HR:Hid (nameErr (1:Nat) what=true):=by show nameErr (1:Nat) what=true;rw [HNE.out,hst];rfl
       go_wp2_with fail
       go_meet
       case rel=>exact ⟨⟨_,rfl,HR.out⟩,rfl⟩
    ·have k1':((k:Int) == 1)=false:=by simp;omega
     by_cases k2:k=2
     ·subst k2
      cases hem:what.toList.isEmpty with
      | true =>
       have HR:Hid (nameErr (2:Nat) what=true):=by show nameErr (2:Nat) what=true;rw [HNE.out,hem];rfl
       go_wp2_with fail
       go_meet
       case rel=>exact ⟨⟨_,rfl,HR.out⟩,rfl⟩
      | false =>
       cases bl with
       | true =>
        have HR:Hid (nameErr (2:Nat) what=true):=by show nameErr (2:Nat) what=true;rw [HNE.out,hem];rfl
        go_wp2_with fail
        go_meet
        case rel=>exact ⟨⟨_,rfl,HR.out⟩,rfl⟩
       | false =>
        have HR:Hid (nameErr (2:Nat) what=false):=by show nameErr (2:Nat) what=false;rw [HNE.out,hem];rfl
        go_wp2_with fail
        go_meet
        case rel=>exact ⟨⟨_,rfl,HR.out⟩,rfl⟩
     ·have k2':((k:Int) == 2)=false:=by simp;omega
      have HR:Hid (nameErr k what=false):=by
       show nameErr k what=false
       rw [HNE.out,decide_eq_false (by omega),decide_eq_false (by omega)];rfl
      go_wp2_with fail
      go_meet
      case rel=>exact ⟨⟨_,rfl,HR.out⟩,rfl⟩
   case rest =>
    obtain ⟨⟨q,rfl,hne⟩,hwc⟩:=hcut
    subst hwc
    cases q with
    | true =>
     have HR:Hid (nameErr k what=true):=hne
     clear hne
     go_wp2_with fail
     go_ret2
     exact WatchPost.err (HE0.out 2 (by rw [if_pos HR.out])) (by decide)
    | false =>
     have HN2:Hid (nameErr k what=false):=hne
     clear hne
     by_cases h40:40<what.size
     ·have h40':(40:Int)<(what.size:Int):=by omega
      have HR:Hid (watchErr r.N m k what r.wl.length=3):=HE0.out 3 (by rw [if_neg (by simp [HN2.out]),if_pos h40])
      go_wp2_with fail
      go_ret2
      exact WatchPost.err HR.out (by decide)
     ·have h40':¬ (40:Int)<(what.size:Int):=by omega
      by_cases h50:50≤r.wl.length
      ·have h50':(50:Int)≤(r.wl.length:Int):=by omega
       have HR:Hid (watchErr r.N m k what r.wl.length=4):=HE0.out 4 (by rw [if_neg (by simp [HN2.out]),if_neg h40,if_pos h50])
       go_wp2_with fail
       go_ret2
       exact WatchPost.err HR.out (by decide)
      ·have h50':¬ (50:Int)≤(r.wl.length:Int):=by omega
       have HR:Hid (watchErr r.N m k what r.wl.length=0):=HE0.out 0 (by rw [if_neg (by simp [HN2.out]),if_neg h40,if_neg h50])
       obtain ⟨i0,hi,hz0,hz1,hz2⟩:=info_parts Tryz.info177
       obtain ⟨w2,hw2⟩:∃ w2:World,w2=wc:=⟨_,rfl⟩
       subst hw2
       have HZ:Hid (w2.ownsRow 0 177 3 (.slice wa r.wl.length wc) r.wl.length (r.wl.flatMap wrow)):=by rw [← HWV.out];exact HH.out.wat
       have HZa:Hid _:=HZ.out.alloc (.cells #[.int .i64 m,.int .i64 k,.string what] 177)
       go_wp2_with (at_builtin;refine wpList_append_lies _ rfl _ _ 113 rfl 0 177 i0 _ 3 32 Tryz.underlying113 hi hz0 hz1 hz2 rfl (by decide) _ _ _ rfl HZa.out ⟨w2.heap.size,0,none⟩ 1 1 (wrow (m,k,what)) rfl ?c0 ?c1 ?c2 ?cm ?c3 ?c4 ?c5 _ rfl ?_)
       case c0=>rfl
       case c1 =>
        intro j u hj
        simpa [wrow] using hj
       case c2 =>
        intro u hu
        simp only [wrow,List.mem_cons,List.not_mem_nil,or_false] at hu
        rcases hu with rfl | rfl | rfl <;> rfl
       case c3=>unfold maxLen;omega
       case c4=>omega
       intro g cp w3 hown3 hgrow3 hat3 hlt3
       have hal:Below w2.heap.size w2 (w2.alloc (.cells #[.int .i64 m,.int .i64 k,.string what] 177)):=(Below.refl _ _).alloc (Nat.le_refl _) _
       have q0:w3.heap[r.rb]?=w2.heap[r.rb]?:=(hgrow3.block r.rb (by simp;omega) (fun e=>row_ne HZ.out HH.out.g (by decide) e.symm)).trans (hal.block r.rb ltb)
       have q1:w3.cell? ⟨r.rb,1,none⟩=some (.slice wa r.wl.length wc):=(cell_same' q0 1).trans g1
       have q2:w3.frozen? ⟨r.rb,1,none⟩=false:=(frozen_same' q0 1).trans (fzb 1)
       have HEND:Hid (RPost w2 (w3.setCell ⟨r.rb,1,none⟩ (.slice (some ⟨g,0,none⟩) (r.wl.length+1) cp)) r (r.watched m k what (.slice (some ⟨g,0,none⟩) (r.wl.length+1) cp))) :=
        watched_end HH.out hal hown3 (by rw [HWV.out];exact hgrow3) (by rw [HWV.out];exact hat3.imp id (fun e=>by rw [e];simp)) (by omega)
       clear q0 hown3 hgrow3 hat3 hlt3 hal HZa
       go_wp2_with fail
       go_ret2
       exact .inr ⟨HR.out,m,k,_,rfl,rfl,by simp,HEND.out⟩
  ·have HE:Hid (watchErr r.N m how what r.wl.length=1):=by
    show watchErr r.N m how what r.wl.length=1
    unfold watchErr listErr
    rw [if_neg (by simp [hb]),if_pos (by rw [if_pos (by omega)];decide),if_pos (by omega)]
   by_cases hh1:how<1
   ·go_enter Tryz.func102, Tryz.ntmps102
    go_wp2_with fail
    refine (refIs HH.out m).mono ?_
    rintro e w ⟨rfl,rfl⟩
    rw [hb]
    go_wp2_with fail
    go_ret2
    exact WatchPost.err HE.out (by decide)
   ·have hh4:4<how:=by omega
    go_enter Tryz.func102, Tryz.ntmps102
    go_wp2_with fail
    refine (refIs HH.out m).mono ?_
    rintro e w ⟨rfl,rfl⟩
    rw [hb]
    go_wp2_with fail
    go_ret2
    exact WatchPost.err HE.out (by decide)
end
end Go.Proofs.YtcedebpoihcbdaaGreatDoor
