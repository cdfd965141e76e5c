/-
  What a list's nodes does: it looks anew where its stamp is not that of now.
  A grove with lists: Len and Item.
-/
import Derived.Test.YtcedebpoihcbdaaGreatDoorLC
set_option maxHeartbeats 1000000
set_option maxRecDepth 100000
namespace Go.Proofs.YtcedebpoihcbdaaGreatDoor
open Go.RowKit Gv
def Ls.fresh (x:Ls) (v:Value) (l:List Nat) (r:Re):Ls:={ x with fv:=v,fd:=l,pl:=r.pl,cl:=nowCl x.how r }
theorem Lss.store {w:World} {B g cap n:Nat} {ls:List Ls} (h:Lss w B (.slice (some ⟨g,0,none⟩) n cap) ls) {i j:Nat} {x x':Ls} {v:Value} (hi:ls[i]?=some x) (hj:j<6) (hs:x'.row=x.row.set j v) (hf:w.ownsRow B 3 1 x'.fv x'.fd.length (ints x'.fd)) :
  Lss (w.setCell ⟨g,i*6+j,none⟩ v) B (.slice (some ⟨g,0,none⟩) n cap) (ls.set i x'):=by
 obtain ⟨cur,hc⟩:∃ cur,w.heap[g]?=some (.cells cur 77 (0,0)):=by
  rcases row_form h.row with ⟨e,_⟩ | ⟨g',c',e,_,_,hc,_⟩
  ·simp at e
  ·simp at e;rw [e.1];exact hc
 obtain rfl:=row_n h.row
 have hst:=(h.row.stored (i*6+j) v).1
 rw [flat_set Ls.row_len hi hj hs] at hst
 have hF:Fr (fun k=>k=g) w (w.setCell ⟨g,i*6+j,none⟩ v):=(Fr.refl (fun k=>k=g) w).setCell (p:=⟨g,i*6+j,none⟩) rfl v
 have keep:∀ y:Ls,w.ownsRow B 3 1 y.fv y.fd.length (ints y.fd)→(w.setCell ⟨g,i*6+j,none⟩ v).ownsRow B 3 1 y.fv y.fd.length (ints y.fd):=fun y hy =>
  ownsRow_fr hy hF (fun k hk e=>by subst e;exact row_apart hy hc (by decide) hk)
 refine ⟨by rw [List.length_set];exact hst,by rw [List.length_set];exact h.few,fun y hy=>?_⟩
 rcases List.mem_or_eq_of_mem_set hy with hy | rfl
 ·exact keep y (h.found y hy)
 ·exact keep _ hf
theorem row_slice {w:World} {base:Nat} {e:TypeId} {size:Nat} {v:Value} {n:Nat} {xs:List Value} (h:w.ownsRow base e size v n xs):∃ fo fn fc,v=.slice fo fn fc:=by
 rcases row_form h with ⟨e,_⟩ | ⟨g,cp,e,_⟩
 ·exact ⟨_,_,_,e⟩
 ·exact ⟨_,_,_,e⟩
theorem keepS {W:World} {b lb k:Nat} {p q v:Value} (hne:b≠lb) (h:W.cell? ⟨b,0,none⟩=some p∧W.cell? ⟨b,1,none⟩=some q):(W.setCell ⟨lb,k,none⟩ v).cell? ⟨b,0,none⟩=some p∧(W.setCell ⟨lb,k,none⟩ v).cell? ⟨b,1,none⟩=some q:=by
 have hb:(W.setCell ⟨lb,k,none⟩ v).heap[b]?=W.heap[b]?:=Below.heap_setCell _ _ _ _ hne
 exact ⟨(World.cell?_of_block (a:=⟨b,0,none⟩) hb).trans h.1,(World.cell?_of_block (a:=⟨b,1,none⟩) hb).trans h.2⟩
theorem fr_set3 {w w4:World} {lb a b c:Nat} {u v t:Value} (h:Below w.heap.size w w4):Fr (fun k=>k=lb) w (((w4.setCell ⟨lb,a,none⟩ u).setCell ⟨lb,b,none⟩ v).setCell ⟨lb,c,none⟩ t):=by
 have h0:Fr (fun k=>k=lb) w w4:=Fr.of_below h
 have h1:=h0.setCell (p:=⟨lb,a,none⟩) rfl u
 have h2:=h1.setCell (p:=⟨lb,b,none⟩) rfl v
 exact h2.setCell (p:=⟨lb,c,none⟩) rfl t
theorem set_same {α:Type} {l:List α} {i:Nat} {x:α} (h:l[i]?=some x):l.set i x=l:=by
 apply List.ext_getElem?
 intro k
 rw [List.getElem?_set]
 split
 ·rename_i e
  subst e
  split
  ·exact h.symm
  ·rename_i hl;rw [List.getElem?_eq_none (by omega)]
 ·rfl
theorem Lss.stamped {w:World} {B g cap n:Nat} {ls:List Ls} (h:Lss w B (.slice (some ⟨g,0,none⟩) n cap) ls) {i:Nat} {x:Ls} (hi:ls[i]?=some x) {v:Value} {l:List Nat} (r:Re) (hf:w.ownsRow B 3 1 v l.length (ints l)) :
  Lss (((w.setCell ⟨g,i*6+3,none⟩ v).setCell ⟨g,i*6+4,none⟩ (.int .i64 r.pl)).setCell ⟨g,i*6+5,none⟩ (.int .i64 (nowCl x.how r))) B (.slice (some ⟨g,0,none⟩) n cap) (ls.set i (x.fresh v l r)):=by
 have hl:i<ls.length:=(List.getElem?_eq_some_iff.1 hi).1
 have s1:=h.store (j:=3) (x':={ x with fv:=v,fd:=l }) hi (by omega) rfl hf
 have i1:(ls.set i { x with fv:=v,fd:=l })[i]?=some { x with fv:=v,fd:=l }:=by rw [List.getElem?_set];simp [hl]
 have s2:=s1.store (j:=4) (x':={ x with fv:=v,fd:=l,pl:=r.pl }) (v:=.int .i64 r.pl) i1 (by omega) rfl (s1.found { x with fv:=v,fd:=l } (List.mem_of_getElem? i1))
 rw [List.set_set] at s2
 have i2:(ls.set i { x with fv:=v,fd:=l,pl:=r.pl })[i]?=some { x with fv:=v,fd:=l,pl:=r.pl }:=by rw [List.getElem?_set];simp [hl]
 have s3:=s2.store (j:=5) (x':=x.fresh v l r) (v:=.int .i64 (nowCl x.how r)) i2 (by omega) rfl (s2.found { x with fv:=v,fd:=l,pl:=r.pl } (List.mem_of_getElem? i2))
 rw [List.set_set] at s3
 exact s3
section
variable {B:Nat} {w w':World} {gb nb cap N:Nat} {kk:Nat→Nat} {tg:Nat→ByteArray} {kd:Nat→Value} {mp:Nat→Nat} {σ:St} {r:Re} {A:Nat→ByteArray→Option ByteArray}
def NewOr (w:World) (old v:Value):Prop:=∀ g,v.ownBlock=some g→old.ownBlock=some g∨w.heap.size≤g
structure Ls.OK (N:Nat) (kk:Nat→Nat) (tg:Nat→ByteArray) (A:Nat→ByteArray→Option ByteArray) (K:Nat→List Nat) (r:Re) (x:Ls):Prop where
 root:1≤x.root∧x.root≤N
 how:1≤x.how∧x.how≤4
 pl:x.pl≤r.pl
 cl:x.how=2→x.cl≤r.cl
 right:x.pl=r.pl→x.cl=nowCl x.how r→x.fd=lookF N kk tg A K x.root x.how x.what
theorem nodesC (h:Gro B w gb nb cap N kk tg kd mp σ r) (hA:Ats w B N kk mp A) (hN:1≤N) {lb n c i:Nat} {ls:List Ls} {x:Ls} (hL:Lss w B (.slice (some ⟨lb,0,none⟩) n c) ls) (hi:ls[i]?=some x) (hx:x.OK N kk tg A σ.K r) :
  Calls Tryz.prog 86 #[.pointer (some ⟨lb,i*6,none⟩),.pointer (some ⟨gb,0,none⟩)] w fun e w'=>∃ v,e=.returned v∧Lss w' B (.slice (some ⟨lb,0,none⟩) n c) (ls.set i (x.fresh v (lookF N kk tg A σ.K x.root x.how x.what) r))∧Fr (fun k=>k=lb) w w'∧NewOr w x.fv v:=by
 have hlb:lb<w.heap.size:=by
  rcases row_form hL.row with ⟨e,_⟩ | ⟨g',c',e,_,hlt,_⟩
  ·simp at e
  ·simp at e;rw [e.1];exact hlt
 have c1:w.cell? ⟨lb,i*6+1,none⟩=some (.int .i64 x.how):=hL.cellAt (j:=1) hi (by omega)
 have HNow:Hid _:=nowF h.held x.how hlb c1
 have HG:Hid _:=h
 have HA:Hid _:=hA
 have HLs:Hid _:=hL
 clear h hA hL
 go_enter Tryz.func86, Tryz.ntmps86
 go_wp2_with fail
 refine Calls.mono HNow.out ?_
 rintro e w1 ⟨rfl,hB1⟩
 have HB1:Hid (Below w.heap.size w w1):=hB1
 clear hB1 HNow c1
 go_wp2_with fail
 obtain ⟨W2,hW2⟩:∃ W2,W2=w1.alloc (.cells #[.int .i64 r.pl,.int .i64 (nowCl x.how r)] 65):=⟨_,rfl⟩
 have HB2:Hid (Below w.heap.size w W2):=by show Below _ _ _;rw [hW2];exact HB1.out.alloc HB1.out.size _
 have b1:W2.cell? ⟨w1.heap.size,0,none⟩=some (.int .i64 r.pl):=by rw [hW2,World.cell?_alloc_at _ _ _ _ rfl];rfl
 have b2:W2.cell? ⟨w1.heap.size,1,none⟩=some (.int .i64 (nowCl x.how r)):=by rw [hW2,World.cell?_alloc_at _ _ _ _ rfl];rfl
 rw [← hW2]
 have HL2:Hid (Lss W2 B (.slice (some ⟨lb,0,none⟩) n c) ls):=HLs.out.since HB2.out
 have a4:W2.cell? ⟨lb,i*6+4,none⟩=some (.int .i64 x.pl):=HL2.out.cellAt (j:=4) hi (by omega)
 have a5:W2.cell? ⟨lb,i*6+5,none⟩=some (.int .i64 x.cl):=HL2.out.cellAt (j:=5) hi (by omega)
 clear hW2
 obtain ⟨fo,fn,fc,hfv⟩:∃ fo fn fc,x.fv=.slice fo fn fc:=row_slice (HL2.out.found x (List.mem_of_getElem? hi))
 have a3:W2.cell? ⟨lb,i*6+3,none⟩=some (.slice fo fn fc):=by rw [HL2.out.cellAt (j:=3) hi (by omega),← hfv];rfl
 have HFV:Hid (x.fv=.slice fo fn fc):=hfv
 have HX:Hid (x.OK N kk tg A σ.K r):=hx
 have HI:Hid (ls[i]?=some x):=hi
 clear hfv hx hi
 have hnb:w1.heap.size≠lb:=fun e=>by have:=HB1.out.size;omega
 by_cases hp:x.pl=r.pl
 ·by_cases hc:x.cl=nowCl x.how r
  ·rw [hp] at a4
   rw [hc] at a5
   have HP:Hid (x.pl=r.pl):=hp
   have HC:Hid (x.cl=nowCl x.how r):=hc
   clear hp hc
   have HFr:Hid (x.fresh (.slice fo fn fc) (lookF N kk tg A σ.K x.root x.how x.what) r=x):=by
    show x.fresh _ _ _=x
    rw [← HFV.out,← HX.out.right HP.out HC.out]
    unfold Ls.fresh
    rw [← HC.out,← HP.out]
   generalize hq:nowCl x.how r=q at b2 a5 ⊢
   generalize hpp:r.pl=p at b1 a4 ⊢
   clear hq hpp
   go_region_held3 (fun wx=>wx.cell? ⟨w1.heap.size,0,none⟩=some (.int .i64 p)∧wx.cell? ⟨w1.heap.size,1,none⟩=some (.int .i64 q)∧wx.cell? ⟨lb,i*6+4,none⟩=some (.int .i64 p)∧wx.cell? ⟨lb,i*6+5,none⟩=some (.int .i64 q)) (first | exact ⟨b1,b2,a4,a5⟩ | go_keep) (fail)
   go_wp2_with fail
   go_ret
   refine ⟨_,rfl,?_,?_,fun g hg=>.inl (by rw [HFV.out];exact hg)⟩
   ·show Lss W2.drew B _ (ls.set i (x.fresh (.slice fo fn fc) _ r))
    rw [HFr.out,set_same HI.out]
    exact HL2.out.since (Below.refl _ _).drew
   ·exact (Fr.of_below HB2.out).drew
  ·have hne:(x.cl == nowCl x.how r)=false:=by simpa using hc
   rw [hp] at a4
   go_region_held3 (fun wx=>wx.cell? ⟨w1.heap.size,0,none⟩=some (.int .i64 r.pl)∧wx.cell? ⟨w1.heap.size,1,none⟩=some (.int .i64 (nowCl x.how r))∧wx.cell? ⟨lb,i*6+4,none⟩=some (.int .i64 r.pl)∧wx.cell? ⟨lb,i*6+5,none⟩=some (.int .i64 x.cl)) (first | exact ⟨b1,b2,a4,a5⟩ | go_keep) (fail)
   go_wp2_with fail
   have HB3:Hid (Below w.heap.size w W2.drew):=HB2.out.drew
   have lw1:w1.heap.size<W2.drew.heap.size:=World.block_lt_of_cell? W2 ⟨w1.heap.size,0,none⟩ b1
   have HLook:Hid _:=lookC (w:=W2.drew.drew) (HG.out.since HB3.out.drew) (HA.out.since HB3.out.drew) hN x.root x.how HX.out.how x.what HX.out.root.1 HX.out.root.2 (lb:=lb) (o:=i*6) ((HB3.out.drew.cell (p:=⟨lb,i*6,none⟩) hlb).trans (HLs.out.cellAt (j:=0) HI.out (by omega))) ((HB3.out.drew.cell (p:=⟨lb,i*6+1,none⟩) hlb).trans (HLs.out.cellAt (j:=1) HI.out (by omega))) ((HB3.out.drew.cell (p:=⟨lb,i*6+2,none⟩) hlb).trans (HLs.out.cellAt (j:=2) HI.out (by omega))) (Nat.lt_of_lt_of_le hlb HB3.out.drew.size)
   have d1:W2.drew.cell? ⟨w1.heap.size,0,none⟩=some (.int .i64 r.pl):=b1
   have d2:W2.drew.cell? ⟨w1.heap.size,1,none⟩=some (.int .i64 (nowCl x.how r)):=b2
   go_region_held3 (fun wx=>wx.cell? ⟨w1.heap.size,0,none⟩=some (.int .i64 r.pl)∧wx.cell? ⟨w1.heap.size,1,none⟩=some (.int .i64 (nowCl x.how r))) (first | exact ⟨d1,d2⟩ | exact ⟨y1,y2⟩ | exact keepS hnb ⟨y1,y2⟩ | exact keepS hnb (keepS hnb ⟨y1,y2⟩) | exact keepS hnb (keepS hnb (keepS hnb ⟨y1,y2⟩)) | go_keep) ((go_at_call 139;refine Calls.mono HLook.out ?_;rintro e w4 ⟨v,rfl,hv,hB4⟩;obtain ⟨vo,vn,vc,hvv⟩:=row_slice hv;subst hvv;have HV:Hid _:=hv;have HB4:Hid (Below W2.drew.heap.size W2.drew w4):=(Below.refl _ W2.drew).drew.trans hB4;have y1:w4.cell? ⟨w1.heap.size,0,none⟩=some (.int .i64 r.pl):=(HB4.out.cell (p:=⟨w1.heap.size,0,none⟩) lw1).trans b1;have y2:w4.cell? ⟨w1.heap.size,1,none⟩=some (.int .i64 (nowCl x.how r)):=(HB4.out.cell (p:=⟨w1.heap.size,1,none⟩) lw1).trans b2;have HL4:Hid (Lss w4 B (.slice (some ⟨lb,0,none⟩) n c) ls):=HL2.out.since ((Below.refl _ W2).drew.trans HB4.out);have f3:w4.cell? ⟨lb,i*6+3,none⟩=some (.slice fo fn fc):=(HL4.out.cellAt (j:=3) HI.out (by omega)).trans (by rw [← HFV.out];rfl);have f4:w4.cell? ⟨lb,i*6+4,none⟩=some (.int .i64 x.pl):=HL4.out.cellAt (j:=4) HI.out (by omega);have f5:w4.cell? ⟨lb,i*6+5,none⟩=some (.int .i64 x.cl):=HL4.out.cellAt (j:=5) HI.out (by omega);have g3:=HL4.out.free (i*6+3);have g4:=HL4.out.free (i*6+4);have g5:=HL4.out.free (i*6+5);clear hv hB4))
   obtain ⟨W5,hW5⟩:∃ W5,W5=((w4.setCell ⟨lb,i*6+3,none⟩ (.slice vo vn vc)).setCell ⟨lb,i*6+4,none⟩ (.int .i64 r.pl)).setCell ⟨lb,i*6+5,none⟩ (.int .i64 (nowCl x.how r)):=⟨_,rfl⟩
   have HF5:Hid (Fr (fun k=>k=lb) w W5):=by
    show Fr _ _ _
    rw [hW5]
    exact fr_set3 (HB3.out.trans (HB4.out.mono HB3.out.size))
   have HL5:Hid (Lss W5 B (.slice (some ⟨lb,0,none⟩) n c) (ls.set i (x.fresh (.slice vo vn vc) (lookF N kk tg A σ.K x.root x.how x.what) r))):=by
    show Lss _ _ _ _
    rw [hW5]
    exact HL4.out.stamped HI.out r (ownsRow_base HV.out (Nat.le_trans (HG.out.held.hB) (Nat.le_trans (Nat.le_of_lt HG.out.held.ltg) HB3.out.drew.size)))
   have hl:i<ls.length:=(List.getElem?_eq_some_iff.1 HI.out).1
   have z3:W5.cell? ⟨lb,i*6+3,none⟩=some (.slice vo vn vc):=HL5.out.cellAt (j:=3) (x:=x.fresh (.slice vo vn vc) (lookF N kk tg A σ.K x.root x.how x.what) r) (by rw [List.getElem?_set];simp [hl]) (by omega)
   rw [← hW5]
   clear hW5 f3 f4 f5 g3 g4 g5 y1 y2 d1 d2 HLook a3 a4 a5 b1 b2
   go_wp2_with fail
   go_ret
   exact ⟨_,rfl,HL5.out,HF5.out,fun g hg=>.inr (Nat.le_trans HB3.out.drew.size (World.ownsRow.lt HV.out g hg).1)⟩
 ·have hne:(x.pl == r.pl)=false:=by simpa using hp
  go_region_held3 (fun wx=>wx.cell? ⟨w1.heap.size,0,none⟩=some (.int .i64 r.pl)∧wx.cell? ⟨w1.heap.size,1,none⟩=some (.int .i64 (nowCl x.how r))∧wx.cell? ⟨lb,i*6+4,none⟩=some (.int .i64 x.pl)∧wx.cell? ⟨lb,i*6+5,none⟩=some (.int .i64 x.cl)) (first | exact ⟨b1,b2,a4,a5⟩ | go_keep) (fail)
  go_wp2_with fail
  have HB3:Hid (Below w.heap.size w W2.drew):=HB2.out.drew
  have lw1:w1.heap.size<W2.drew.heap.size:=World.block_lt_of_cell? W2 ⟨w1.heap.size,0,none⟩ b1
  have HLook:Hid _:=lookC (w:=W2.drew.drew) (HG.out.since HB3.out.drew) (HA.out.since HB3.out.drew) hN x.root x.how HX.out.how x.what HX.out.root.1 HX.out.root.2 (lb:=lb) (o:=i*6) ((HB3.out.drew.cell (p:=⟨lb,i*6,none⟩) hlb).trans (HLs.out.cellAt (j:=0) HI.out (by omega))) ((HB3.out.drew.cell (p:=⟨lb,i*6+1,none⟩) hlb).trans (HLs.out.cellAt (j:=1) HI.out (by omega))) ((HB3.out.drew.cell (p:=⟨lb,i*6+2,none⟩) hlb).trans (HLs.out.cellAt (j:=2) HI.out (by omega))) (Nat.lt_of_lt_of_le hlb HB3.out.drew.size)
  have d1:W2.drew.cell? ⟨w1.heap.size,0,none⟩=some (.int .i64 r.pl):=b1
  have d2:W2.drew.cell? ⟨w1.heap.size,1,none⟩=some (.int .i64 (nowCl x.how r)):=b2
  go_region_held3 (fun wx=>wx.cell? ⟨w1.heap.size,0,none⟩=some (.int .i64 r.pl)∧wx.cell? ⟨w1.heap.size,1,none⟩=some (.int .i64 (nowCl x.how r))) (first | exact ⟨d1,d2⟩ | exact ⟨y1,y2⟩ | exact keepS hnb ⟨y1,y2⟩ | exact keepS hnb (keepS hnb ⟨y1,y2⟩) | exact keepS hnb (keepS hnb (keepS hnb ⟨y1,y2⟩)) | go_keep) ((go_at_call 139;refine Calls.mono HLook.out ?_;rintro e w4 ⟨v,rfl,hv,hB4⟩;obtain ⟨vo,vn,vc,hvv⟩:=row_slice hv;subst hvv;have HV:Hid _:=hv;have HB4:Hid (Below W2.drew.heap.size W2.drew w4):=(Below.refl _ W2.drew).drew.trans hB4;have y1:w4.cell? ⟨w1.heap.size,0,none⟩=some (.int .i64 r.pl):=(HB4.out.cell (p:=⟨w1.heap.size,0,none⟩) lw1).trans b1;have y2:w4.cell? ⟨w1.heap.size,1,none⟩=some (.int .i64 (nowCl x.how r)):=(HB4.out.cell (p:=⟨w1.heap.size,1,none⟩) lw1).trans b2;have HL4:Hid (Lss w4 B (.slice (some ⟨lb,0,none⟩) n c) ls):=HL2.out.since ((Below.refl _ W2).drew.trans HB4.out);have f3:w4.cell? ⟨lb,i*6+3,none⟩=some (.slice fo fn fc):=(HL4.out.cellAt (j:=3) HI.out (by omega)).trans (by rw [← HFV.out];rfl);have f4:w4.cell? ⟨lb,i*6+4,none⟩=some (.int .i64 x.pl):=HL4.out.cellAt (j:=4) HI.out (by omega);have f5:w4.cell? ⟨lb,i*6+5,none⟩=some (.int .i64 x.cl):=HL4.out.cellAt (j:=5) HI.out (by omega);have g3:=HL4.out.free (i*6+3);have g4:=HL4.out.free (i*6+4);have g5:=HL4.out.free (i*6+5);clear hv hB4))
  obtain ⟨W5,hW5⟩:∃ W5,W5=((w4.setCell ⟨lb,i*6+3,none⟩ (.slice vo vn vc)).setCell ⟨lb,i*6+4,none⟩ (.int .i64 r.pl)).setCell ⟨lb,i*6+5,none⟩ (.int .i64 (nowCl x.how r)):=⟨_,rfl⟩
  have HF5:Hid (Fr (fun k=>k=lb) w W5):=by
   show Fr _ _ _
   rw [hW5]
   exact fr_set3 (HB3.out.trans (HB4.out.mono HB3.out.size))
  have HL5:Hid (Lss W5 B (.slice (some ⟨lb,0,none⟩) n c) (ls.set i (x.fresh (.slice vo vn vc) (lookF N kk tg A σ.K x.root x.how x.what) r))):=by
   show Lss _ _ _ _
   rw [hW5]
   exact HL4.out.stamped HI.out r (ownsRow_base HV.out (Nat.le_trans (HG.out.held.hB) (Nat.le_trans (Nat.le_of_lt HG.out.held.ltg) HB3.out.drew.size)))
  have hl:i<ls.length:=(List.getElem?_eq_some_iff.1 HI.out).1
  have z3:W5.cell? ⟨lb,i*6+3,none⟩=some (.slice vo vn vc):=HL5.out.cellAt (j:=3) (x:=x.fresh (.slice vo vn vc) (lookF N kk tg A σ.K x.root x.how x.what) r) (by rw [List.getElem?_set];simp [hl]) (by omega)
  rw [← hW5]
  clear hW5 f3 f4 f5 g3 g4 g5 y1 y2 d1 d2 HLook a3 a4 a5 b1 b2
  go_wp2_with fail
  go_ret
  exact ⟨_,rfl,HL5.out,HF5.out,fun g hg=>.inr (Nat.le_trans HB3.out.drew.size (World.ownsRow.lt HV.out g hg).1)⟩
end
open Go.RowKit Gv
theorem numberedL (w:World) (ib n icap k:Nat) (hn:n≤50) (h1:1≤k) (hk:k≤n) :
  Calls Tryz.prog 51 #[.slice (some ⟨ib,0,none⟩) n icap,.int .i64 k] w fun e w'=>e=.returned (.pointer (some ⟨ib,(k-1)*6,none⟩))∧w'=w:=by
 obtain ⟨k,rfl⟩:∃ j,k=j+1:=⟨k-1,by omega⟩
 go_enter Tryz.func51, Tryz.ntmps51
 go_wp2
 go_ret
 exact ⟨by simp,rfl⟩
structure Grl (B:Nat) (w:World) (gb nb cap N:Nat) (kk:Nat→Nat) (tg:Nat→ByteArray) (kd:Nat→Value) (mp:Nat→Nat) (σ:St) (r:Re) (A:Nat→ByteArray→Option ByteArray) (ls:List Ls):Prop where
 gro:Gro B w gb nb cap N kk tg kd mp σ r
 ats:Ats w B N kk mp A
 lss:Lss w B r.lv ls
 ok:∀ x,x∈ls→x.OK N kk tg A σ.K r
def Ls.like (ls ls':List Ls):Prop:=ls'.length=ls.length∧∀ (i:Nat) (x:Ls),ls[i]?=some x→∃ y:Ls,ls'[i]?=some y∧y.root=x.root∧y.how=x.how∧y.what=x.what
def lvSet (r:Re):Nat→Prop:=fun i=>r.lv.ownBlock=some i
section
variable {B:Nat} {w w':World} {gb nb cap N:Nat} {kk:Nat→Nat} {tg:Nat→ByteArray} {kd:Nat→Value} {mp:Nat→Nat} {σ:St} {r:Re} {A:Nat→ByteArray→Option ByteArray} {ls:List Ls}
theorem Ls.like_refl (ls:List Ls):Ls.like ls ls:=⟨rfl,fun _ x h=>⟨x,h,rfl,rfl,rfl⟩⟩
theorem Ls.like.trans {a b c:List Ls} (h:Ls.like a b) (k:Ls.like b c):Ls.like a c:=⟨k.1.trans h.1,fun i x hx=>by
 obtain ⟨y,hy,e1,e2,e3⟩:=h.2 i x hx
 obtain ⟨z,hz,f1,f2,f3⟩:=k.2 i y hy
 exact ⟨z,hz,f1.trans e1,f2.trans e2,f3.trans e3⟩⟩
theorem Ls.OK.fresh {x:Ls} (h:x.OK N kk tg A σ.K r) (v:Value):(x.fresh v (lookF N kk tg A σ.K x.root x.how x.what) r).OK N kk tg A σ.K r :=
 ⟨h.root,h.how,Int.le_refl _,fun e=>by have e2:x.how=2:=e;show nowCl x.how r≤r.cl;unfold nowCl;rw [if_pos e2];exact Int.le_refl _,fun _ _=>rfl⟩
theorem Grl.looked (h:Grl B w gb nb cap N kk tg kd mp σ r A ls) {i:Nat} {x:Ls} (hi:ls[i]?=some x) {v:Value} (hF:Fr (lvSet r) w w') (hL:Lss w' B r.lv (ls.set i (x.fresh v (lookF N kk tg A σ.K x.root x.how x.what) r))) :
  Grl B w' gb nb cap N kk tg kd mp σ r A (ls.set i (x.fresh v (lookF N kk tg A σ.K x.root x.how x.what) r)):=by
 obtain ⟨cur,hn,_⟩:=h.gro.held.block
 have n1:¬ lvSet r gb:=fun e=>row_apart h.lss.row h.gro.held.g (by decide) e
 have n2:¬ lvSet r nb:=fun e=>row_apart h.lss.row hn (by decide) e
 refine ⟨⟨h.gro.held.fr hF n1 n2,h.gro.wf,h.gro.kinds,h.gro.its.fr hF (fun g hg e=>?_),h.gro.sound,fun k h1 h2 h3=>(h.gro.els k h1 h2 h3).fr hF (fun i cs fr hi e=>row_apart h.lss.row e (by decide) hi)⟩,h.ats.fr hF (fun i es c hi e=>?_),hL,fun y hy=>?_⟩
 ·rcases row_form h.gro.its.row with ⟨e',_⟩ | ⟨g',c',e',_,_,⟨cur,hc⟩,_⟩
  ·rw [e'] at hg;simp [Value.ownBlock] at hg
  ·rw [e'] at hg
   simp only [Value.ownBlock,Option.some.injEq] at hg
   subst hg
   exact row_apart h.lss.row hc (by decide) e
 ·rcases row_form h.lss.row with ⟨e',_⟩ | ⟨g',c',e',_,_,⟨cur,hc⟩,_⟩
  ·unfold lvSet at hi;rw [e'] at hi;simp [Value.ownBlock] at hi
  ·unfold lvSet at hi
   rw [e'] at hi
   simp only [Value.ownBlock,Option.some.injEq] at hi
   subst hi
   rw [hc] at e;cases e
 ·rcases List.mem_or_eq_of_mem_set hy with hy | rfl
  ·exact h.ok y hy
  ·exact (h.ok x (List.mem_of_getElem? hi)).fresh v
theorem lookF_len (hwf:WF N σ.s σ.K) {root how:Nat} {what:ByteArray} (h1:1≤root) (hn:root≤N):(lookF N kk tg A σ.K root how what).length≤N:=by
 unfold lookF
 refine Nat.le_trans (List.length_filter_le _ _) ?_
 split
 ·rw [List.length_tail];have:=P_len hwf h1 hn;omega
 ·exact hwf.few root
theorem found_form {w:World} {v:Value} {l:List Nat} (h:w.ownsRow B 3 1 v l.length (ints l)):∃ ao cp,v=.slice ao l.length cp∧Nums w ao l.length l:=by
 obtain ⟨_,ao,cp,e,_,hn⟩:=nums_of h
 exact ⟨ao,cp,e,hn⟩
theorem fresh_form {w':World} {lb n c i:Nat} {x:Ls} {v:Value} {l:List Nat} (hi:ls[i]?=some x) (hL:Lss w' B (.slice (some ⟨lb,0,none⟩) n c) (ls.set i (x.fresh v l r))):∃ ao cp,v=.slice ao l.length cp∧Nums w' ao l.length l:=by
 have hl:i<ls.length:=(List.getElem?_eq_some_iff.1 hi).1
 exact found_form (hL.found (x.fresh v l r) (List.mem_of_getElem? (i:=i) (by rw [List.getElem?_set];simp [hl])))
theorem listLen (h:Gro B w gb nb cap N kk tg kd mp σ r) (hA:Ats w B N kk mp A) (hN:1≤N) {lb n c i:Nat} {x:Ls} (hL:Lss w B (.slice (some ⟨lb,0,none⟩) n c) ls) (hi:ls[i]?=some x) (hx:x.OK N kk tg A σ.K r) :
  Calls Tryz.prog 52 #[.pointer (some ⟨lb,i*6,none⟩),.pointer (some ⟨gb,0,none⟩)] w fun e w'=>e=.returned (.int .i64 ((lookF N kk tg A σ.K x.root x.how x.what).length:Nat))∧∃ v,Lss w' B (.slice (some ⟨lb,0,none⟩) n c) (ls.set i (x.fresh v (lookF N kk tg A σ.K x.root x.how x.what) r))∧Fr (fun k=>k=lb) w w'∧NewOr w x.fv v:=by
 have HNd:Hid _:=nodesC h hA hN hL hi hx
 have HI:Hid _:=hi
 clear h hA hL hi hx
 generalize lookF N kk tg A σ.K x.root x.how x.what=lf at *
 go_enter Tryz.func52, Tryz.ntmps52
 go_wp2_with fail
 refine Calls.mono HNd.out ?_
 rintro e w1 ⟨v,rfl,hL1,hF1,hN1⟩
 obtain ⟨ao,cp,rfl,-⟩:=fresh_form HI.out hL1
 have HL1:Hid _:=hL1
 have HF1:Hid _:=hF1
 have HN1:Hid _:=hN1
 clear hL1 hF1 hN1 HNd
 go_wp2_with fail
 go_ret
 exact ⟨rfl,_,HL1.out,HF1.out,HN1.out⟩
def itemF (l:List Nat) (j:Int):Nat:=if j<0 then 0 else l.getD j.toNat 0
theorem listItem (h:Gro B w gb nb cap N kk tg kd mp σ r) (hA:Ats w B N kk mp A) (hN:1≤N) {lb n c i:Nat} {x:Ls} (hL:Lss w B (.slice (some ⟨lb,0,none⟩) n c) ls) (hi:ls[i]?=some x) (hx:x.OK N kk tg A σ.K r) (j:Int) :
  Calls Tryz.prog 53 #[.pointer (some ⟨lb,i*6,none⟩),.pointer (some ⟨gb,0,none⟩),.int .i64 j] w fun e w'=>e=.returned (.int .i64 (itemF (lookF N kk tg A σ.K x.root x.how x.what) j:Nat))∧∃ v,Lss w' B (.slice (some ⟨lb,0,none⟩) n c) (ls.set i (x.fresh v (lookF N kk tg A σ.K x.root x.how x.what) r))∧Fr (fun k=>k=lb) w w'∧NewOr w x.fv v:=by
 have HNd:Hid _:=nodesC h hA hN hL hi hx
 have HI:Hid _:=hi
 have HLen:Hid ((lookF N kk tg A σ.K x.root x.how x.what).length≤300):=Nat.le_trans (lookF_len h.wf hx.root.1 hx.root.2) h.N1
 clear h hA hL hi hx
 generalize lookF N kk tg A σ.K x.root x.how x.what=lf at *
 have hlen:=HLen.out
 go_enter Tryz.func53, Tryz.ntmps53
 go_wp2_with fail
 refine Calls.mono HNd.out ?_
 rintro e w1 ⟨v,rfl,hL1,hF1,hN1⟩
 obtain ⟨ao,cp,rfl,hnum⟩:=fresh_form HI.out hL1
 have HL1:Hid _:=hL1
 have HF1:Hid _:=hF1
 have HN1:Hid _:=hN1
 have HNm:Hid (Nums w1 ao lf.length lf):=hnum
 clear hL1 hF1 hN1 HNd hnum
 by_cases hj:j<0
 ·have HR:Hid (itemF lf j=0):=by show itemF lf j=0;unfold itemF;rw [if_pos hj]
  go_wp2_with fail
  go_ret
  exact ⟨ret_int (by rw [HR.out];rfl),_,HL1.out,HF1.out,HN1.out⟩
 ·by_cases hj2:((lf.length:Nat):Int)≤j
  ·have HR:Hid (itemF lf j=0):=by
    show itemF lf j=0
    unfold itemF
    rw [if_neg hj,List.getD_eq_getElem?_getD,List.getElem?_eq_none (by omega)];rfl
   go_wp2_with fail
   go_ret
   exact ⟨ret_int (by rw [HR.out];rfl),_,HL1.out,HF1.out,HN1.out⟩
  ·obtain ⟨k,rfl⟩:∃ k:Nat,j=k:=⟨j.toNat,by omega⟩
   have HR:Hid (itemF lf k=lf.getD k 0):=by
    show itemF lf k=_
    unfold itemF
    rw [if_neg hj];rfl
   rcases HNm.out with h0 | ⟨g,rfl,hg,hc⟩
   ·omega
   have hcell:=hc k (by omega)
   have hk:(k:Int)<((lf.length:Nat):Int):=by omega
   clear hc hj hj2
   generalize lf.getD k 0=y at *
   go_wp2_with fail
   go_ret
   exact ⟨ret_int (by rw [HR.out]),_,HL1.out,HF1.out,HN1.out⟩
theorem Grl.form (h:Grl B w gb nb cap N kk tg kd mp σ r A ls) {i:Nat} {x:Ls} (hi:ls[i]?=some x):∃ lb lc,r.lv=.slice (some ⟨lb,0,none⟩) ls.length lc:=by
 have hl:i<ls.length:=(List.getElem?_eq_some_iff.1 hi).1
 rcases row_form h.lss.row with ⟨_,e⟩ | ⟨g',c',e,_⟩
 ·omega
 ·exact ⟨g',c',e⟩
theorem lenS2 (h:Grl B w gb nb cap N kk tg kd mp σ r A ls) (hN:1≤N) {i:Nat} {x:Ls} (hi:ls[i]?=some x) :
  Calls Tryz.prog 18 #[.pointer (some ⟨gb,0,none⟩),.int .i64 ((i+1:Nat):Int)] w fun e w'=>e=.returned (.tuple #[.int .i64 ((lookF N kk tg A σ.K x.root x.how x.what).length:Nat),.int .i64 0])∧∃ v,Grl B w' gb nb cap N kk tg kd mp σ r A (ls.set i (x.fresh v (lookF N kk tg A σ.K x.root x.how x.what) r))∧Fr (lvSet r) w w'∧NewOr w x.fv v:=by
 have hl:i<ls.length:=(List.getElem?_eq_some_iff.1 hi).1
 have hfew:=h.lss.few
 obtain ⟨lb,lc,hlv⟩:=h.form hi
 have hlvc:w.cell? ⟨gb,3,none⟩=some (.slice (some ⟨lb,0,none⟩) ls.length lc):=by rw [← hlv];exact h.gro.held.glv
 have hLs:Lss w B (.slice (some ⟨lb,0,none⟩) ls.length lc) ls:=by rw [← hlv];exact h.lss
 have HNd:Hid _:=listLen h.gro h.ats hN hLs hi (h.ok x (List.mem_of_getElem? hi))
 have HH:Hid _:=h
 have HI:Hid (ls[i]?=some x):=hi
 have HLV:Hid (r.lv=.slice (some ⟨lb,0,none⟩) ls.length lc):=hlv
 clear h hi hLs hlv
 go_enter Tryz.func18, Tryz.ntmps18
 go_wp2_with fail
 refine (numberedL w lb ls.length lc (i+1) hfew (by omega) (by omega)).mono ?_
 rintro e w ⟨rfl,rfl⟩
 rw [Nat.add_sub_cancel]
 go_wp2_with fail
 refine Calls.mono HNd.out ?_
 rintro e w1 ⟨rfl,v,hL1,hF1,hN1⟩
 have HL1:Hid _:=hL1
 have HF1:Hid (Fr (lvSet r) w w1):=hF1.mono (fun k hk=>by show r.lv.ownBlock=some k;rw [HLV.out,hk];rfl)
 have HN1:Hid _:=hN1
 clear hL1 hF1 hN1 HNd
 go_wp2_with fail
 go_ret2
 exact ⟨rfl,v,HH.out.looked HI.out HF1.out (by rw [HLV.out];exact HL1.out),HF1.out,HN1.out⟩
theorem itemS2 (h:Grl B w gb nb cap N kk tg kd mp σ r A ls) (hN:1≤N) {i:Nat} {x:Ls} (hi:ls[i]?=some x) (j:Int) :
  Calls Tryz.prog 19 #[.pointer (some ⟨gb,0,none⟩),.int .i64 ((i+1:Nat):Int),.int .i64 j] w fun e w'=>e=.returned (.tuple #[.int .i64 (itemF (lookF N kk tg A σ.K x.root x.how x.what) j:Nat),.int .i64 0])∧∃ v,Grl B w' gb nb cap N kk tg kd mp σ r A (ls.set i (x.fresh v (lookF N kk tg A σ.K x.root x.how x.what) r))∧Fr (lvSet r) w w'∧NewOr w x.fv v:=by
 have hl:i<ls.length:=(List.getElem?_eq_some_iff.1 hi).1
 have hfew:=h.lss.few
 obtain ⟨lb,lc,hlv⟩:=h.form hi
 have hlvc:w.cell? ⟨gb,3,none⟩=some (.slice (some ⟨lb,0,none⟩) ls.length lc):=by rw [← hlv];exact h.gro.held.glv
 have hLs:Lss w B (.slice (some ⟨lb,0,none⟩) ls.length lc) ls:=by rw [← hlv];exact h.lss
 have HNd:Hid _:=listItem h.gro h.ats hN hLs hi (h.ok x (List.mem_of_getElem? hi)) j
 have HH:Hid _:=h
 have HI:Hid (ls[i]?=some x):=hi
 have HLV:Hid (r.lv=.slice (some ⟨lb,0,none⟩) ls.length lc):=hlv
 clear h hi hLs hlv
 go_enter Tryz.func19, Tryz.ntmps19
 go_wp2_with fail
 refine (numberedL w lb ls.length lc (i+1) hfew (by omega) (by omega)).mono ?_
 rintro e w ⟨rfl,rfl⟩
 rw [Nat.add_sub_cancel]
 go_wp2_with fail
 refine Calls.mono HNd.out ?_
 rintro e w1 ⟨rfl,v,hL1,hF1,hN1⟩
 have HL1:Hid _:=hL1
 have HF1:Hid (Fr (lvSet r) w w1):=hF1.mono (fun k hk=>by show r.lv.ownBlock=some k;rw [HLV.out,hk];rfl)
 have HN1:Hid _:=hN1
 clear hL1 hF1 hN1 HNd
 go_wp2_with fail
 go_ret2
 exact ⟨rfl,v,HH.out.looked HI.out HF1.out (by rw [HLV.out];exact HL1.out),HF1.out,HN1.out⟩
end
end Go.Proofs.YtcedebpoihcbdaaGreatDoor
