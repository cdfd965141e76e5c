/-
  The law's step that makes a grove more.
-/
import Derived.Test.YtcedebpoihcbdaaGreatDoorD3
set_option linter.unusedVariables false
set_option maxHeartbeats 1000000
set_option maxRecDepth 100000
namespace Go.Proofs.YtcedebpoihcbdaaGreatDoor
open Go.RowKit Go.Shelf Gv
theorem Tryz.info27:(Tryz.prog.info? 27).map (fun i=>(i.zero,i.size,i.bytes))=some (some (.pointer none),1,8):=by kernel_rfl
theorem Tryz.info109:(Tryz.prog.info? 109).map (fun i=>(i.zero,i.size,i.bytes))=some (some (.pointer none),1,8):=by kernel_rfl
section
variable {W w1 w2 W3 W5:World} {D wb last c:Nat} {l:La}
theorem newD (w:World) (hD:D≤w.heap.size):Calls Tryz.prog 32 #[] w fun e w'=>∃ gb nb,e=.returned (.pointer (some ⟨gb,0,none⟩))∧GOK D w' (Gx.first gb nb)∧Below w.heap.size w w'∧w.heap.size≤gb∧w.heap.size≤nb:=by
 refine (newG w).mono ?_
 rintro e w' ⟨gb,nb,rfl,hH,hB⟩
 have hH':Held w' D gb nb 1 1 zeroF noKind re0:=⟨hH.g,row_base hH.row hD,Nat.le_trans hD hH.hB,hH.hL⟩
 exact ⟨gb,nb,rfl,first_gok hH',hB,hH.hB,hH.Bn⟩
theorem get_snoc {α:Type} {l:List α} {x y:α} {j:Nat} (h:(l++[x])[j]?=some y):(j<l.length∧l[j]?=some y)∨(j=l.length∧y=x):=by
 have hl:=(List.getElem?_eq_some_iff.1 h).1
 rw [List.length_append,List.length_singleton] at hl
 by_cases e:j<l.length
 ·rw [List.getElem?_append_left e] at h
  exact .inl ⟨e,h⟩
 ·obtain rfl:j=l.length:=by omega
  rw [List.getElem?_append_right (Nat.le_refl _),Nat.sub_self] at h
  exact .inr ⟨rfl,(Option.some.inj h).symm⟩
theorem LInv.news {gb nb rb rn cap ga ra:Nat} {v0 v1:Value} (h:LInv W D wb last c l) (hb1:Below W.heap.size W w1) (hg:GOK D w1 (Gx.first gb nb)) (hgb:W.heap.size≤gb) (hnb:W.heap.size≤nb) (hb2:Below w1.heap.size w1 w2) (hr:RefOK w2 (Rx.first rb rn cap)) (hrb:w1.heap.size≤rb) (hrn:w1.heap.size≤rn)
  (x2:W3.ownsRow D 27 1 v0 (l.gs.length+1) (l.gs.map gptr++[.pointer (some ⟨gb,0,none⟩)])) (x3:Kept w2 W3 (fun b=>b≠wb∧l.gsv.1.ownBlock≠some b)) (x4:l.gsv.1.ownBlock=some ga∨w2.heap.size≤ga) (x5:v0.ownBlock=some ga)
  (y1:W5.heap[wb]?=some (.cells (lawCells (v0,l.gsv.2) v1 l.n l.iv l.wv l.ev) 55 (0,0))) (y2:W5.ownsRow D 109 1 v1 (l.gs.length+1) (l.rs.map rptr++[.pointer (some ⟨rb,0,none⟩)])) (y3:Kept W3 W5 (fun b=>b≠wb∧l.rsv.ownBlock≠some b)) (y4:l.rsv.ownBlock=some ra∨W3.heap.size≤ra) (y5:v1.ownBlock=some ra) :
  LInv W5 D wb last (c+1) { l with gsv:=(v0,l.gsv.2),rsv:=v1,gs:=l.gs++[Gx.first gb nb],rs:=l.rs++[Rx.first rb rn cap],col:=Go.Proofs.YtcedebpoihcbdaaGreatDoor.recol w2 (Go.Proofs.YtcedebpoihcbdaaGreatDoor.recol w1 (Go.Proofs.YtcedebpoihcbdaaGreatDoor.recol W l.col (2*l.gs.length+1)) (2*l.gs.length+2)) 0 }∧Below D W W5:=by
 have hD:=h.lowD
 have s1:=hb1.size
 have s2:=hb2.size
 have s3:=x3.size
 have s5:=y3.size
 have hwb:=lt_of_block h.h.w
 have gl:=fun b hb=>h.gr.lt b hb
 have rl:=fun b hb=>h.rr.lt b hb
 have w2W:∀ b,b<W.heap.size→w2.heap[b]?=W.heap[b]?:=fun b hb=>(hb2.block b (by omega)).trans (hb1.block b hb)
 -- what is neither the law's block nor one of the two rows
 have stay:∀ b,b<w2.heap.size→b≠wb→l.gsv.1.ownBlock≠some b→l.rsv.ownBlock≠some b→W5.heap[b]?=w2.heap[b]?:=fun b hb n1 n2 n3=>(y3.block b (by omega) ⟨n1,n3⟩).trans (x3.block b hb ⟨n1,n2⟩)
 have colS:∀ b,b<W.heap.size→l.col b≠0→W5.heap[b]?=W.heap[b]?:=fun b hb hn=>(stay b (by omega) (fun e=>hn (h.c0 b (.inl (by rw [e];exact LOwn.self)))) (fun e=>hn (h.c0 b (.inr (.inr (.inl e))))) (fun e=>hn (h.c0 b (.inr (.inr (.inr e)))))).trans (w2W b hb)
 have tyS:∀ (b:Nat) (cs:Array Value) (t:TypeId),W.heap[b]?=some (.cells cs t (0,0))→t≠55→t≠27→t≠109→W5.heap[b]?=W.heap[b]?:=by
  intro b cs t hb t1 t2 t3
  refine (stay b (by have:=lt_of_block hb;omega) ?_ (row_ne h.gr hb t2) (row_ne h.rr hb t3)).trans (w2W b (lt_of_block hb))
  rintro rfl
  rw [h.h.w] at hb
  simp only [Option.some.injEq,Obj.cells.injEq] at hb
  exact t1 hb.2.1.symm
 have rowS:∀ {e size n:Nat} {v:Value} {xs:List Value},W.ownsRow D e size v n xs→e≠55→e≠27→e≠109→W5.ownsRow D e size v n xs:=fun h t1 t2 t3=>row_keep h (fun b hb=>by
  obtain ⟨cs,hcs⟩:=row_block h hb
  exact tyS b cs _ hcs t1 t2 t3)
 have new:∀ b,W.heap.size≤b→b<w2.heap.size→W5.heap[b]?=w2.heap[b]?:=fun b hb hb'=>stay b hb' (by omega) (fun e=>by have:=(gl b e).2;omega) (fun e=>by have:=(rl b e).2;omega)
 have old:∀ b,b<W.heap.size→Go.Proofs.YtcedebpoihcbdaaGreatDoor.recol w2 (Go.Proofs.YtcedebpoihcbdaaGreatDoor.recol w1 (Go.Proofs.YtcedebpoihcbdaaGreatDoor.recol W l.col (2*l.gs.length+1)) (2*l.gs.length+2)) 0 b=l.col b:=fun b hb=>by rw [recol_old (by omega),recol_old (by omega),recol_old hb]
 have gown:∀ b,(Gx.first gb nb).own b→W.heap.size≤b∧b<w1.heap.size:=fun b hb=>by
  have:=(hg.bounds hb).2
  rcases Gx.first_own hb with rfl | rfl <;> exact ⟨by assumption,this⟩
 have rown:∀ b,(Rx.first rb rn cap).own b→w1.heap.size≤b∧b<w2.heap.size:=fun b hb=>by
  have:=hr.bounds hb
  rcases Rx.first_own hb with rfl | rfl <;> exact ⟨by assumption,this⟩
 have gok:GOK D W5 (Gx.first gb nb):=hg.keep (fun b hb=>(new b (gown b hb).1 (by have:=(gown b hb).2;omega)).trans (hb2.block b (gown b hb).2))
 have rok:RefOK W5 (Rx.first rb rn cap):=hr.keep (fun b hb=>new b (by have:=(rown b hb).1;omega) (rown b hb).2)
 have hH:HInv W5 D wb (v0,l.gsv.2) v1 l.n l.iv l.wv l.ev l.es l.ws:=by
  refine ⟨y1,h.h.hD,rowS h.h.i (by decide) (by decide) (by decide),rowS h.h.t (by decide) (by decide) (by decide),rowS h.h.e (by decide) (by decide) (by decide),h.h.te,fun x hx=>?_,fun x hx=>?_,h.h.nd,h.h.ef,h.h.wf,h.h.cnt⟩
  ·have hx':=h.h.ent x hx
   exact ⟨hx'.1.keep (fun b cs _ hcs=>tyS b cs 3 hcs (by decide) (by decide) (by decide)),hx'.2.1,fun b hb=>by have:=hx'.2.2 b hb;omega⟩
  ·have hx':=h.h.wl x hx
   exact ⟨rowS hx'.1 (by decide) (by decide) (by decide),rowS hx'.2.1 (by decide) (by decide) (by decide),hx'.2.2⟩
 have hlen:=h.len
 refine ⟨⟨hH,h.q.keep (fun b hb _=>?_) (by omega),?_,?_,?_,?_,fun b hb=>?_,?_,?_,?_,?_,?_,by show l.qs.length≤4*(c+1);have:=h.qf;omega,fun x hx b hb=>by
  obtain ⟨cs,hcs⟩:=h.qa x hx b hb
  exact ⟨cs,(tyS b cs _ hcs (by decide) (by decide) (by decide)).trans hcs⟩⟩,?_⟩
 ·obtain ⟨cs,t,hc,ht⟩:=h.q.blk b hb
  rcases ht with rfl | rfl
  ·exact tyS b cs _ hc (by decide) (by decide) (by decide)
  ·exact tyS b cs _ hc (by decide) (by decide) (by decide)
 ·show W5.ownsRow D _ 1 v0 (l.gs++[Gx.first gb nb]).length ((l.gs++[Gx.first gb nb]).map gptr)
  rw [List.length_append,List.length_singleton,map_snoc]
  refine row_keep x2 (fun b hb=>y3.block b (x2.lt b hb).2 ⟨?_,?_⟩)
  ·rintro rfl
   obtain ⟨cs,hcs⟩:=row_block x2 hb
   rw [x5] at hb
   obtain rfl:=Option.some.inj hb
   rcases x4 with e | e
   ·exact row_ne h.gr h.h.w (by decide) e
   ·omega
  ·intro e
   rw [x5] at hb
   obtain rfl:=Option.some.inj hb
   rcases x4 with e' | e'
   ·exact rows_apart h.gr h.rr (by decide) e' e
   ·have:=(rl _ e).2;omega
 ·show W5.ownsRow D _ 1 v1 (l.gs++[Gx.first gb nb]).length ((l.rs++[Rx.first rb rn cap]).map rptr)
  rw [List.length_append,List.length_singleton,map_snoc]
  exact y2
 ·show (l.rs++[Rx.first rb rn cap]).length=(l.gs++[Gx.first gb nb]).length
  rw [List.length_append,List.length_append,hlen];rfl
 ·intro k g r hk hk'
  rcases get_snoc hk with ⟨k1,hk⟩ | ⟨k1,rfl⟩
  ·rcases get_snoc hk' with ⟨_,hk'⟩ | ⟨k2,_⟩
   ·refine (h.tw k g r hk hk').keep (fun i hi=>colS i (h.glt hk hi) ?_) (fun i hi=>colS i (h.rlt hk' hi) ?_) (by omega)
    ·have:=h.cg k g hk i hi;omega
    ·have:=h.cr k r hk' i hi;omega
   ·omega
  ·rcases get_snoc hk' with ⟨k2,_⟩ | ⟨_,rfl⟩
   ·omega
   ·refine ⟨gok,rok,fun i hi=>by have:=(rown i hi).1;omega,rfl,rfl,rfl,fun i i1 i2=>?_,fun i i1 i2=>?_,fun i i1 i2=>?_,fun i i1 i2=>?_,fun i i1 i2=>?_,rfl,rfl,rfl,?_,?_,?_,fun x hx=>absurd hx List.not_mem_nil,fun x hx=>absurd hx List.not_mem_nil⟩
    ·have:i≤0:=i2
     omega
    ·have:i≤0:=i2
     omega
    ·have:i≤0:=i2
     omega
    ·have:i≤0:=i2
     omega
    ·have:i≤0:=i2
     omega
    ·show (0:Int)≤_;omega
    ·show (0:Int)≤_;omega
    ·show 0≤_;omega
 ·show Go.Proofs.YtcedebpoihcbdaaGreatDoor.recol w2 (Go.Proofs.YtcedebpoihcbdaaGreatDoor.recol w1 (Go.Proofs.YtcedebpoihcbdaaGreatDoor.recol W l.col (2*l.gs.length+1)) (2*l.gs.length+2)) 0 b=0
  rcases hb with hb | hb | hb | hb
  ·rw [old b (h.h.bounds hb)];exact h.c0 b (.inl hb)
  ·rw [old b (h.q.lt hb)];exact h.c0 b (.inr (.inl hb))
  ·have hb':v0.ownBlock=some b:=hb
   rw [x5] at hb'
   obtain rfl:=Option.some.inj hb'
   rcases x4 with e | e
   ·rw [old _ (gl _ e).2];exact h.c0 _ (.inr (.inr (.inl e)))
   ·exact recol_new e
  ·have hb':v1.ownBlock=some b:=hb
   rw [y5] at hb'
   obtain rfl:=Option.some.inj hb'
   rcases y4 with e | e
   ·rw [old _ (rl _ e).2];exact h.c0 _ (.inr (.inr (.inr e)))
   ·exact recol_new (by omega)
 ·intro k g hk b hb
  show Go.Proofs.YtcedebpoihcbdaaGreatDoor.recol w2 (Go.Proofs.YtcedebpoihcbdaaGreatDoor.recol w1 (Go.Proofs.YtcedebpoihcbdaaGreatDoor.recol W l.col (2*l.gs.length+1)) (2*l.gs.length+2)) 0 b=2*k+1
  rcases get_snoc hk with ⟨_,hk⟩ | ⟨rfl,rfl⟩
  ·rw [old b (h.glt hk hb)];exact h.cg k g hk b hb
  ·have:=gown b hb
   rw [recol_old (by omega),recol_old this.2,recol_new this.1]
 ·intro k r hk b hb
  show Go.Proofs.YtcedebpoihcbdaaGreatDoor.recol w2 (Go.Proofs.YtcedebpoihcbdaaGreatDoor.recol w1 (Go.Proofs.YtcedebpoihcbdaaGreatDoor.recol W l.col (2*l.gs.length+1)) (2*l.gs.length+2)) 0 b=2*k+2
  rcases get_snoc hk with ⟨_,hk⟩ | ⟨rfl,rfl⟩
  ·rw [old b (h.rlt hk hb)];exact h.cr k r hk b hb
  ·have:=rown b hb
   rw [recol_old this.2,recol_new this.1,hlen]
 ·intro r hr'
  rcases mem_snoc hr' with hr' | rfl
  ·exact h.bare r hr'
  ·exact ⟨fun _=>rfl,fun _=>rfl,fun _=>rfl⟩
 ·show l.n+l.ws.length≤2*(c+1)
  have:=h.few;omega
 ·show (l.gs++[Gx.first gb nb]).length≤c+1
  rw [List.length_append,List.length_singleton]
  have:=h.gfew;omega
 ·have k2:Below D w2 W5:=⟨y3.os.trans x3.os,y3.tape.trans x3.tape,y3.output.trans x3.output,by omega,fun b hb=>stay b (by omega) (by have:=h.h.hD;omega) (fun e=>by have:=(gl b e).1;omega) (fun e=>by have:=(rl b e).1;omega)⟩
  exact ((hb1.mono hD).trans (hb2.mono (by omega))).trans k2
theorem ptr_one (a:Option Addr):∀ u∈[Value.pointer a],u.oneCell'=true:=by
 intro u hu
 simp only [List.mem_cons,List.not_mem_nil,or_false] at hu
 subst hu;rfl
theorem newsL (h:LInv W D wb last c l) (hl:l.gs.length≤1000000000) :
  Calls Tryz.prog 26 #[.pointer (some ⟨wb,0,none⟩)] W fun e W'=>e=.returned (.bool true)∧∃ l',LInv W' D wb last (c+1) l'∧l'.gs.length=l.gs.length+1∧Below D W W':=by
 have HI:Hid (LInv W D wb last c l):=h
 have hwb:=lt_of_block h.h.w
 have hDb:=h.h.hD
 have hD:=h.lowD
 obtain ⟨j0,gi,gz0,gz1,gz2⟩:=info_parts Tryz.info27
 obtain ⟨j1,ri,rz0,rz1,rz2⟩:=info_parts Tryz.info109
 clear h
 go_enter Tryz.func26, Tryz.ntmps26
 go_wp2_with fail
 refine (newD W hD).mono ?_
 rintro e w1 ⟨gb,nb,rfl,hg,hb1,hgb,hnb⟩
 have HG:Hid _:=hg
 have HB1:Hid _:=hb1
 have hs1:=hb1.size
 clear hg hb1
 go_wp2_with fail
 refine (refNew w1).mono ?_
 rintro e w2 ⟨rb,rn,cap,rfl,hr,hb2,hrb,hrn⟩
 have HR:Hid _:=hr
 have HB2:Hid _:=hb2
 have hs2:=hb2.size
 have hw2:w2.heap[wb]?=some (.cells (lawCells l.gsv l.rsv l.n l.iv l.wv l.ev) 55 (0,0)):=(hb2.block wb (by omega)).trans ((HB1.out.block wb hwb).trans HI.out.h.w)
 have T1:Hid (w2.ownsRow D 27 1 l.gsv.1 l.gs.length (l.gs.map gptr)):=row_keep HI.out.gr (fun b hb=>(HB2.out.block b (by have:=(HI.out.gr.lt b hb).2;omega)).trans (HB1.out.block b (HI.out.gr.lt b hb).2))
 have E1:Hid (w2.ownsRow D 109 1 l.rsv l.gs.length (l.rs.map rptr)):=row_keep HI.out.rr (fun b hb=>(HB2.out.block b (by have:=(HI.out.rr.lt b hb).2;omega)).trans (HB1.out.block b (HI.out.rr.lt b hb).2))
 have c0:w2.cell? ⟨wb,0,none⟩=some l.gsv.1:=law_cell hw2 0
 have W1':Hid (w2.heap[wb]?=some (.cells (lawCells l.gsv l.rsv l.n l.iv l.wv l.ev) 55 (0,0))):=hw2
 have T1a:Hid _:=T1.out.alloc (.cells #[.pointer (some ⟨gb,0,none⟩)] 27)
 clear hr hb2 hw2
 go_wp2_with (at_builtin;refine wpList_append_lies _ rfl _ _ 47 rfl D 27 j0 (.pointer none) 1 8 Tryz.underlying47 gi gz0 gz1 gz2 rfl (by decide) _ _ _ rfl T1a.out ⟨w2.heap.size,0,none⟩ 1 1 [.pointer (some ⟨gb,0,none⟩)] rfl ?c0 ?c1 ?c2 ?cm ?c3 ?c4 ?c5 _ rfl ?_)
 case c0=>rfl
 case c1=>exact one_cell _ _ _
 case c2=>exact ptr_one _
 case cm=>omega
 case c3=>unfold maxLen;omega
 case c4=>omega
 case c5=>simp;omega
 intro ga cp w3 hown3 hgrow3 hat3 hlt3
 have R:=row_step (f:=0) W1'.out T1.out (by decide) ((Below.refl _ _).alloc (Nat.le_refl _) (.cells #[.pointer (some ⟨gb,0,none⟩)] 27)) hown3 hgrow3 (hat3.imp id (fun e=>by rw [World.size_alloc];exact e))
 have f33:∀ i,w3.frozen? ⟨wb,i,none⟩=false:=law_free R.2.2.2.2
 have c30:w3.cell? ⟨wb,0,none⟩=some l.gsv.1:=law_cell R.2.2.2.2 0
 have c31:w3.cell? ⟨wb,1,none⟩=some l.rsv:=law_cell R.2.2.2.2 1
 have W2':Hid ((w3.setCell ⟨wb,0,none⟩ (.slice (some ⟨ga,0,none⟩) (l.gs.length+1) cp)).heap[wb]?=some (.cells (lawCells (.slice (some ⟨ga,0,none⟩) (l.gs.length+1) cp,l.gsv.2) l.rsv l.n l.iv l.wv l.ev) 55 (0,0))):=R.1
 have T2:Hid ((w3.setCell ⟨wb,0,none⟩ (.slice (some ⟨ga,0,none⟩) (l.gs.length+1) cp)).ownsRow D 27 1 (.slice (some ⟨ga,0,none⟩) (l.gs.length+1) cp) (l.gs.length+1) (l.gs.map gptr++[.pointer (some ⟨gb,0,none⟩)])):=R.2.1
 have K2:Hid (Kept w2 (w3.setCell ⟨wb,0,none⟩ (.slice (some ⟨ga,0,none⟩) (l.gs.length+1) cp)) (fun b=>b≠wb∧l.gsv.1.ownBlock≠some b)):=R.2.2.1
 have A2:Hid (l.gsv.1.ownBlock=some ga∨w2.heap.size≤ga):=R.2.2.2.1
 have E2:Hid ((w3.setCell ⟨wb,0,none⟩ (.slice (some ⟨ga,0,none⟩) (l.gs.length+1) cp)).ownsRow D 109 1 l.rsv l.gs.length (l.rs.map rptr)):=row_keep E1.out (fun b hb=>K2.out.block b (E1.out.lt b hb).2 ⟨fun e=>row_ne E1.out W1'.out (by decide) (e ▸ hb),fun e=>rows_apart T1.out E1.out (by decide) e hb⟩)
 have hsz2:Hid ((w3.setCell ⟨wb,0,none⟩ (.slice (some ⟨ga,0,none⟩) (l.gs.length+1) cp)).heap.size=w3.heap.size):=by show (w3.setCell ⟨wb,0,none⟩ (.slice (some ⟨ga,0,none⟩) (l.gs.length+1) cp)).heap.size=_;simp [World.setCell]
 have hwb3:wb<w3.heap.size:=by have h1:=lt_of_block W2'.out;rw [hsz2.out] at h1;exact h1
 have E2a:Hid _:=E2.out.alloc (.cells #[.pointer (some ⟨rb,0,none⟩)] 109)
 have C6:Hid (∀ i u,[Value.pointer (some ⟨rb,0,none⟩)][i]?=some u→((w3.setCell ⟨wb,0,none⟩ (.slice (some ⟨ga,0,none⟩) (l.gs.length+1) cp)).alloc (.cells #[.pointer (some ⟨rb,0,none⟩)] 109)).cell? ((⟨w3.heap.size,0,none⟩:Addr).add i)=some u):=by
  have h:=one_cell (w3.setCell ⟨wb,0,none⟩ (.slice (some ⟨ga,0,none⟩) (l.gs.length+1) cp)) (.pointer (some ⟨rb,0,none⟩)) 109
  rw [hsz2.out] at h;exact h
 clear R hown3 hgrow3 hat3 hlt3 c0 T1a
 go_wp2_with (at_builtin;refine wpList_append_lies _ rfl _ _ 48 rfl D 109 j1 (.pointer none) 1 8 Tryz.underlying48 ri rz0 rz1 rz2 rfl (by decide) _ _ _ rfl E2a.out ⟨w3.heap.size,0,none⟩ 1 1 [.pointer (some ⟨rb,0,none⟩)] rfl ?d0 C6.out ?d2 ?dm ?d3 ?d4 ?d5 _ rfl ?_)
 case d0=>rfl
 case d2=>exact ptr_one _
 case dm=>omega
 case d3=>unfold maxLen;omega
 case d4=>omega
 case d5=>simp [World.setCell];omega
 intro ra cp6 w5 hown5 hgrow5 hat5 hlt5
 have R:=row_step (f:=1) W2'.out E2.out (by decide) ((Below.refl _ _).alloc (Nat.le_refl _) (.cells #[.pointer (some ⟨rb,0,none⟩)] 109)) hown5 hgrow5 (hat5.imp id (fun e=>by rw [World.size_alloc,hsz2.out];exact e))
 have f55:∀ i,w5.frozen? ⟨wb,i,none⟩=false:=law_free R.2.2.2.2
 have c51:w5.cell? ⟨wb,1,none⟩=some l.rsv:=law_cell R.2.2.2.2 1
 have END:Hid _:=HI.out.news HB1.out HG.out hgb hnb HB2.out HR.out hrb hrn T2.out K2.out A2.out rfl R.1 R.2.1 R.2.2.1 R.2.2.2.1 rfl
 clear R hown5 hgrow5 hat5 hlt5 E2a C6 W2' T2 K2 A2 E2 E1 T1 W1'
 go_wp2_with fail
 go_ret
 exact ⟨rfl,_,END.out.1,by show (l.gs++[_]).length=_;simp,END.out.2⟩
end
end Go.Proofs.YtcedebpoihcbdaaGreatDoor
