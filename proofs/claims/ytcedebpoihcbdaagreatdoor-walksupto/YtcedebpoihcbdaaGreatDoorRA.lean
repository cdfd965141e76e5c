/-
  The document's own answer: how its grove lies in memory; what its looks do.
  The document's own answer: all nodes within one, in the order of the tree.
  The document's own answer: single stores; what changes in its iterators ahead of a removal.
  The document's own answer: 'leaving': what changes in its iterators ahead of a node's being taken.
-/
import Derived.Test.YtcedebpoihcbdaaGreatDoorGA
import Derived.Test.YtcedebpoihcbdaaGreatDoorHA
import Derived.Deep.QuietTactic
import Derived.BigQuiet
set_option maxHeartbeats 1000000
set_option maxRecDepth 100000
namespace Go.Proofs.YtcedebpoihcbdaaGreatDoor
open Go.RowKit Gv
def refRow (kn:Nat→Nat) (tag:Nat→ByteArray) (av:Nat→Value) (par:Nat→Nat) (kv:Nat→Value) (i:Nat):List Value :=
 [.int .i64 (kn i),.string (tag i),av i,.int .i64 (par i),kv i]
def refCells (L:Nat) (kn:Nat→Nat) (tag:Nat→ByteArray) (av:Nat→Value) (par:Nat→Nat) (kv:Nat→Value):List Value:=(List.range L).flatMap (refRow kn tag av par kv)
section
variable {kn kn':Nat→Nat} {tag tag':Nat→ByteArray} {av av':Nat→Value} {par par':Nat→Nat} {kv kv':Nat→Value}
theorem refCells_succ (L:Nat):refCells (L+1) kn tag av par kv=refCells L kn tag av par kv++refRow kn tag av par kv L:=by simp [refCells,List.range_succ]
theorem refCells_length (L:Nat):(refCells L kn tag av par kv).length=L*5:=by
 induction L with
 | zero=>rfl
 | succ L ih=>rw [refCells_succ,List.length_append,ih];simp [refRow];omega
theorem refCells_at {L i j:Nat} (hi:i<L) (hj:j<5):(refCells L kn tag av par kv)[i*5+j]?=(refRow kn tag av par kv i)[j]?:=by
 induction L with
 | zero=>omega
 | succ L ih =>
  rw [refCells_succ]
  by_cases e:i=L
  ·subst e
   rw [List.getElem?_append_right (by rw [refCells_length];omega),refCells_length]
   congr 1
   omega
  ·rw [List.getElem?_append_left (by rw [refCells_length];omega)]
   exact ih (by omega)
theorem refCells_congr {L:Nat} (h:∀ i,i<L→refRow kn' tag' av' par' kv' i=refRow kn tag av par kv i):refCells L kn' tag' av' par' kv'=refCells L kn tag av par kv:=by
 induction L with
 | zero=>rfl
 | succ L ih=>rw [refCells_succ,refCells_succ,ih (fun i hi=>h i (by omega)),h L (by omega)]
theorem refCells_set {L i j:Nat} {v:Value} (hi:i<L) (hj:j<5) (ho:∀ x,x≠i→refRow kn' tag' av' par' kv' x=refRow kn tag av par kv x) (hs:refRow kn' tag' av' par' kv' i=(refRow kn tag av par kv i).set j v) :
  (refCells L kn tag av par kv).set (i*5+j) v=refCells L kn' tag' av' par' kv':=by
 induction L with
 | zero=>omega
 | succ L ih =>
  rw [refCells_succ,refCells_succ,List.set_append,refCells_length]
  by_cases e:i=L
  ·subst e
   rw [if_neg (by omega),hs,refCells_congr (kn:=kn) (tag:=tag) (av:=av) (par:=par) (kv:=kv) (kn':=kn') (tag':=tag') (av':=av') (par':=par') (kv':=kv') (fun x hx=>ho x (by omega))]
   congr 2
   omega
  ·rw [if_pos (by omega),ih (by omega),ho L (fun e'=>e e'.symm)]
end
abbrev Atr:=ByteArray × ByteArray
def arow (x:Atr):List Value:=[.string x.1,.string x.2]
abbrev Wat:=Nat × Nat × ByteArray
def wrow (x:Wat):List Value:=[.int .i64 x.1,.int .i64 x.2.1,.string x.2.2]
structure Rx where
 rb:Nat
 rn:Nat
 cap:Nat
 N:Nat
 kn:Nat→Nat
 tag:Nat→ByteArray
 av:Nat→Value
 par:Nat→Nat
 kv:Nat→Value
 K:Nat→List Nat
 ats:Nat→List Atr
 top:Nat
 wv:Value
 wl:List Wat
 iv:Value
 il:List It
 qv:Value
 ql:List Wk
def Rx.own (r:Rx) (b:Nat):Prop :=
 b=r.rb∨b=r.rn∨(∃ i,i≤r.N∧(r.kv i).ownBlock=some b)∨(∃ i,i≤r.N∧(r.av i).ownBlock=some b)∨r.wv.ownBlock=some b∨r.iv.ownBlock=some b∨r.qv.ownBlock=some b ∨
 (∃ x,x∈r.il∧x.rules.ownBlock=some b)∨(∃ x,x∈r.ql∧x.rules.ownBlock=some b)
structure RefOK (w:World) (r:Rx):Prop where
 g:w.heap[r.rb]?=some (.cells #[.slice (some ⟨r.rn,0,none⟩) (r.N+1) r.cap,r.wv,r.iv,r.qv] 117 (0,0))
 row:w.ownsRow 0 150 5 (.slice (some ⟨r.rn,0,none⟩) (r.N+1) r.cap) (r.N+1) (refCells (r.N+1) r.kn r.tag r.av r.par r.kv)
 hN:r.N≤300
 kids:∀ i,i≤r.N→w.ownsRow 0 3 1 (r.kv i) (r.K i).length (ints (r.K i))
 few:∀ i,i≤r.N→(r.K i).length≤300
 att:∀ i,i≤r.N→w.ownsRow 0 199 2 (r.av i) (r.ats i).length ((r.ats i).flatMap arow)
 afew:∀ i,i≤r.N→(r.ats i).length≤r.top
 hT:r.top≤4000000
 nd:∀ i j,i≤r.N→j≤r.N→i≠j→∀ b,(r.av i).ownBlock=some b→(r.av j).ownBlock≠some b
 wat:w.ownsRow 0 177 3 r.wv r.wl.length (r.wl.flatMap wrow)
 wfew:r.wl.length≤50
 its:w.ownsRow 0 206 5 r.iv r.il.length (r.il.flatMap It.row)
 ifew:r.il.length≤50
 irl:∀ x,x∈r.il→w.ownsRow 0 207 2 x.rules x.rl.length (x.rl.flatMap rrow)∧x.rl.length≤10
 wks:w.ownsRow 0 210 4 r.qv r.ql.length (r.ql.flatMap Wk.row)
 qfew:r.ql.length≤50
 qrl:∀ x,x∈r.ql→w.ownsRow 0 207 2 x.rules x.rl.length (x.rl.flatMap rrow)∧x.rl.length≤10
section
variable {w w' W:World} {r r':Rx}
theorem RefOK.rnblock (h:RefOK w r):∃ cs,w.heap[r.rn]?=some (.cells cs 150 (0,0)):=row_block h.row rfl
theorem RefOK.ne (h:RefOK w r):r.rb≠r.rn:=by
 obtain ⟨cs,hcs⟩:=h.rnblock
 intro e
 have:=h.g
 rw [e,hcs] at this
 simp at this
theorem RefOK.c0 (h:RefOK w r):w.cell? ⟨r.rb,0,none⟩=some (.slice (some ⟨r.rn,0,none⟩) (r.N+1) r.cap):=by simp [World.cell?,h.g]
theorem RefOK.c1 (h:RefOK w r):w.cell? ⟨r.rb,1,none⟩=some r.wv:=by simp [World.cell?,h.g]
theorem RefOK.c2 (h:RefOK w r):w.cell? ⟨r.rb,2,none⟩=some r.iv:=by simp [World.cell?,h.g]
theorem RefOK.c3 (h:RefOK w r):w.cell? ⟨r.rb,3,none⟩=some r.qv:=by simp [World.cell?,h.g]
theorem RefOK.free (h:RefOK w r) (j:Nat):w.frozen? ⟨r.rn,j,none⟩=false:=h.row.frozenAt j
theorem RefOK.gfree (h:RefOK w r) (j:Nat):w.frozen? ⟨r.rb,j,none⟩=false:=by simp [World.frozen?,h.g]
theorem RefOK.cellAt (h:RefOK w r) {i j:Nat} (hi:i≤r.N) (hj:j<5):w.cell? ⟨r.rn,i*5+j,none⟩=(refRow r.kn r.tag r.av r.par r.kv i)[j]?:=by
 rw [h.row.cellAt (i*5+j) (by omega),refCells_at (by omega) hj]
theorem RefOK.ckn (h:RefOK w r) {i:Nat} (hi:i≤r.N):w.cell? ⟨r.rn,i*5,none⟩=some (.int .i64 (r.kn i)):=h.cellAt (j:=0) hi (by omega)
theorem RefOK.ctag (h:RefOK w r) {i:Nat} (hi:i≤r.N):w.cell? ⟨r.rn,i*5+1,none⟩=some (.string (r.tag i)):=h.cellAt (j:=1) hi (by omega)
theorem RefOK.cav (h:RefOK w r) {i:Nat} (hi:i≤r.N):w.cell? ⟨r.rn,i*5+2,none⟩=some (r.av i):=h.cellAt (j:=2) hi (by omega)
theorem RefOK.cpar (h:RefOK w r) {i:Nat} (hi:i≤r.N):w.cell? ⟨r.rn,i*5+3,none⟩=some (.int .i64 (r.par i)):=h.cellAt (j:=3) hi (by omega)
theorem RefOK.ckv (h:RefOK w r) {i:Nat} (hi:i≤r.N):w.cell? ⟨r.rn,i*5+4,none⟩=some (r.kv i):=h.cellAt (j:=4) hi (by omega)
theorem RefOK.ltb (h:RefOK w r):r.rb<w.heap.size:=lt_of_block h.g
theorem RefOK.ltn (h:RefOK w r):r.rn<w.heap.size:=by obtain ⟨cs,hcs⟩:=h.rnblock;exact lt_of_block hcs
section
variable {b:Nat}
theorem Rx.own_b:r.own r.rb:=.inl rfl
theorem Rx.own_n:r.own r.rn:=.inr (.inl rfl)
theorem Rx.own_k {i:Nat} (hi:i≤r.N) (h:(r.kv i).ownBlock=some b):r.own b:=.inr (.inr (.inl ⟨i,hi,h⟩))
theorem Rx.own_a {i:Nat} (hi:i≤r.N) (h:(r.av i).ownBlock=some b):r.own b:=.inr (.inr (.inr (.inl ⟨i,hi,h⟩)))
theorem Rx.own_w (h:r.wv.ownBlock=some b):r.own b:=.inr (.inr (.inr (.inr (.inl h))))
theorem Rx.own_i (h:r.iv.ownBlock=some b):r.own b:=.inr (.inr (.inr (.inr (.inr (.inl h)))))
theorem Rx.own_q (h:r.qv.ownBlock=some b):r.own b:=.inr (.inr (.inr (.inr (.inr (.inr (.inl h))))))
theorem Rx.own_ir {x:It} (hx:x∈r.il) (h:x.rules.ownBlock=some b):r.own b:=.inr (.inr (.inr (.inr (.inr (.inr (.inr (.inl ⟨x,hx,h⟩)))))))
theorem Rx.own_qr {x:Wk} (hx:x∈r.ql) (h:x.rules.ownBlock=some b):r.own b:=.inr (.inr (.inr (.inr (.inr (.inr (.inr (.inr ⟨x,hx,h⟩)))))))
end
theorem RefOK.keep (h:RefOK w r) (hk:∀ b,r.own b→w'.heap[b]?=w.heap[b]?):RefOK w' r :=
 ⟨(hk _ Rx.own_b).trans h.g,row_keep h.row (fun b hb=>by simp only [Value.ownBlock,Option.some.injEq] at hb;subst hb;exact hk _ Rx.own_n),h.hN,fun i hi=>row_keep (h.kids i hi) (fun b hb=>hk b (Rx.own_k hi hb)),h.few,
  fun i hi=>row_keep (h.att i hi) (fun b hb=>hk b (Rx.own_a hi hb)),h.afew,h.hT,h.nd,row_keep h.wat (fun b hb=>hk b (Rx.own_w hb)),h.wfew,row_keep h.its (fun b hb=>hk b (Rx.own_i hb)),h.ifew,
  fun x hx=>⟨row_keep (h.irl x hx).1 (fun b hb=>hk b (Rx.own_ir hx hb)),(h.irl x hx).2⟩,row_keep h.wks (fun b hb=>hk b (Rx.own_q hb)),h.qfew,fun x hx=>⟨row_keep (h.qrl x hx).1 (fun b hb=>hk b (Rx.own_qr hx hb)),(h.qrl x hx).2⟩⟩
theorem RefOK.bounds (h:RefOK w r) {b:Nat} (hb:r.own b):b<w.heap.size:=by
 rcases hb with rfl | rfl | ⟨i,hi,hb⟩ | ⟨i,hi,hb⟩ | hb | hb | hb | ⟨x,hx,hb⟩ | ⟨x,hx,hb⟩
 ·exact h.ltb
 ·exact h.ltn
 ·exact ((h.kids i hi).lt b hb).2
 ·exact ((h.att i hi).lt b hb).2
 ·exact (h.wat.lt b hb).2
 ·exact (h.its.lt b hb).2
 ·exact (h.wks.lt b hb).2
 ·exact ((h.irl x hx).1.lt b hb).2
 ·exact ((h.qrl x hx).1.lt b hb).2
theorem RefOK.since (h:RefOK w r) (hb:Below w.heap.size w w'):RefOK w' r:=h.keep (fun b hbb=>hb.block b (h.bounds hbb))
theorem RefOK.frOther {S:Nat→Prop} (h:RefOK w r) (hf:Fr S w w') (hS:∀ i,r.own i→¬ S i):RefOK w' r:=h.keep (fun i hi=>hf.block i (h.bounds hi) (hS i hi))
structure RPost (w w':World) (r r':Rx):Prop where
 ok:RefOK w' r'
 fr:Fr r.own w w'
 own:∀ i,r'.own i→r.own i∨w.heap.size≤i
 at_:r'.rb=r.rb
theorem RPost.of_below (h:RefOK w r) (hb:Below w.heap.size w w'):RPost w w' r r:=⟨h.since hb,Fr.of_below hb,fun _ hi=>.inl hi,rfl⟩
theorem RPost.refl (h:RefOK w r):RPost w w r r:=RPost.of_below h (Below.refl _ _)
theorem RPost.trans {w2:World} {r2:Rx} (h:RPost w w' r r') (k:RPost w' w2 r' r2):RPost w w2 r r2:=by
 refine ⟨k.ok,⟨k.fr.os.trans h.fr.os,k.fr.tape.trans h.fr.tape,k.fr.output.trans h.fr.output,Nat.le_trans h.fr.size k.fr.size,fun i hi hn=>?_⟩,fun i hi=>?_,k.at_.trans h.at_⟩
 ·rw [k.fr.block i (Nat.lt_of_lt_of_le hi h.fr.size) (fun e=>?_),h.fr.block i hi hn]
  rcases h.own i e with e | e
  ·exact hn e
  ·omega
 ·rcases k.own i hi with e | e
  ·exact h.own i e
  ·exact .inr (Nat.le_trans h.fr.size e)
theorem RefOK.congr (h:RefOK w r) (kn':Nat→Nat) (tag':Nat→ByteArray) (par':Nat→Nat) (K':Nat→List Nat) (ats':Nat→List Atr)
  (e:∀ i,i≤r.N→kn' i=r.kn i∧tag' i=r.tag i∧par' i=r.par i∧K' i=r.K i∧ats' i=r.ats i):RefOK w { r with kn:=kn',tag:=tag',par:=par',K:=K',ats:=ats' }:=by
 refine ⟨h.g,?_,h.hN,fun i hi=>?_,fun i hi=>?_,fun i hi=>?_,fun i hi=>?_,h.hT,h.nd,h.wat,h.wfew,h.its,h.ifew,h.irl,h.wks,h.qfew,h.qrl⟩
 ·rw [refCells_congr (kn:=r.kn) (tag:=r.tag) (av:=r.av) (par:=r.par) (kv:=r.kv) (kn':=kn') (tag':=tag') (av':=r.av) (par':=par') (kv':=r.kv) (fun i hi=>by
   obtain ⟨e1,e2,e3,_⟩:=e i (Nat.le_of_lt_succ hi)
   simp only [refRow,e1,e2,e3])]
  exact h.row
 ·show w.ownsRow 0 3 1 (r.kv i) (K' i).length (ints (K' i))
  rw [(e i hi).2.2.2.1];exact h.kids i hi
 ·show (K' i).length≤300
  rw [(e i hi).2.2.2.1];exact h.few i hi
 ·show w.ownsRow 0 _ 2 (r.av i) (ats' i).length ((ats' i).flatMap arow)
  rw [(e i hi).2.2.2.2];exact h.att i hi
 ·show (ats' i).length≤r.top
  rw [(e i hi).2.2.2.2];exact h.afew i hi
theorem refIs (h:RefOK W r) (n:Int) :
  Calls Tryz.prog 142 #[.pointer (some ⟨r.rb,0,none⟩),.int .i64 n] W fun e w'=>e=.returned (.bool (hasB (r.N+1) n))∧w'=W:=by
 have hL:=h.hN
 have hg:=h.c0
 obtain ⟨L,hLe⟩:∃ L,L=r.N+1:=⟨_,rfl⟩
 rw [← hLe] at hg ⊢
 have hL3:L≤301:=by omega
 clear h hLe
 by_cases h1:1≤n
 ·by_cases h2:n<L
  ·have e1:hasB L n=true:=by simp [hasB,h1,h2]
   rw [e1];clear e1
   go_enter Tryz.func142, Tryz.ntmps142
   go_wp2
   go_ret
   exact ⟨rfl,rfl⟩
  ·have e1:hasB L n=false:=by simp [hasB,h2]
   rw [e1];clear e1
   have h3:(L:Int)≤n:=by omega
   go_enter Tryz.func142, Tryz.ntmps142
   go_wp2
   go_ret
   exact ⟨rfl,rfl⟩
 ·have e1:hasB L n=false:=by simp [hasB,h1]
  rw [e1];clear e1
  have h3:n<1:=by omega
  go_enter Tryz.func142, Tryz.ntmps142
  go_wp2
  go_ret
  exact ⟨rfl,rfl⟩
theorem refParent (h:RefOK W r) (n:Int) :
  Calls Tryz.prog 96 #[.pointer (some ⟨r.rb,0,none⟩),.int .i64 n] W fun e w'=>w'=W∧((hasB (r.N+1) n=true∧e=.returned (.tuple #[.int .i64 (r.par n.toNat),.int .i64 0]))∨(hasB (r.N+1) n=false∧e=.returned (.tuple #[.int .i64 0,.int .i64 5]))):=by
 have HH:Hid (RefOK W r):=h
 have hL:=h.hN
 have hg:=h.c0
 obtain ⟨L,hLe⟩:∃ L,L=r.N+1:=⟨_,rfl⟩
 rw [← hLe] at hg
 have hL3:L≤301:=by omega
 have HLe:Hid (L=r.N+1):=hLe
 clear hLe
 cases hb:hasB (r.N+1) n with
 | false =>
  have HB:Hid (hasB (r.N+1) n=false):=hb
  clear hb h
  go_enter Tryz.func96, Tryz.ntmps96
  go_wp2_with fail
  refine (refIs HH.out n).mono ?_
  rintro e W ⟨rfl,rfl⟩
  rw [HB.out]
  go_wp2_with fail
  go_ret2
  exact ⟨rfl,.inr ⟨trivial,rfl⟩⟩
 | true =>
  have HB:Hid (hasB (r.N+1) n=true):=hb
  have hn:1≤n∧n<r.N+1:=by simpa [hasB] using hb
  obtain ⟨m,rfl⟩:=Int.eq_ofNat_of_zero_le (show 0≤n by omega)
  have hm:m≤r.N:=by omega
  have hmL:(m:Int)<(L:Int):=by have:=HLe.out;omega
  have hc:=h.cpar hm
  clear hb h hn
  go_enter Tryz.func96, Tryz.ntmps96
  go_wp2_with fail
  refine (refIs HH.out m).mono ?_
  rintro e W ⟨rfl,rfl⟩
  rw [HB.out]
  go_wp2_with fail
  go_ret2
  exact ⟨rfl,.inl ⟨trivial,rfl⟩⟩
theorem refKids (h:RefOK W r) (n:Int) :
  Calls Tryz.prog 94 #[.pointer (some ⟨r.rb,0,none⟩),.int .i64 n] W fun e w'=>w'=W∧((hasB (r.N+1) n=true∧e=.returned (.tuple #[r.kv n.toNat,.int .i64 0]))∨(hasB (r.N+1) n=false∧e=.returned (.tuple #[.slice none 0 0,.int .i64 5]))):=by
 have HH:Hid (RefOK W r):=h
 have hL:=h.hN
 have hg:=h.c0
 obtain ⟨L,hLe⟩:∃ L,L=r.N+1:=⟨_,rfl⟩
 rw [← hLe] at hg
 have hL3:L≤301:=by omega
 have HLe:Hid (L=r.N+1):=hLe
 clear hLe
 cases hb:hasB (r.N+1) n with
 | false =>
  have HB:Hid (hasB (r.N+1) n=false):=hb
  clear hb h
  go_enter Tryz.func94, Tryz.ntmps94
  go_wp2_with fail
  refine (refIs HH.out n).mono ?_
  rintro e W ⟨rfl,rfl⟩
  rw [HB.out]
  go_wp2_with fail
  go_ret2
  exact ⟨rfl,.inr ⟨trivial,rfl⟩⟩
 | true =>
  have HB:Hid (hasB (r.N+1) n=true):=hb
  have hn:1≤n∧n<r.N+1:=by simpa [hasB] using hb
  obtain ⟨m,rfl⟩:=Int.eq_ofNat_of_zero_le (show 0≤n by omega)
  have hm:m≤r.N:=by omega
  have hmL:(m:Int)<(L:Int):=by have:=HLe.out;omega
  have hc:=h.ckv hm
  obtain ⟨kao,kcap,hkv,_⟩:=rowForm (h.kids m hm)
  have HKV:Hid (r.kv m=.slice kao (r.K m).length kcap):=hkv
  rw [hkv] at hc
  clear hb h hn hkv
  go_enter Tryz.func94, Tryz.ntmps94
  go_wp2_with fail
  refine (refIs HH.out m).mono ?_
  rintro e W ⟨rfl,rfl⟩
  rw [HB.out]
  go_wp2_with fail
  go_ret2
  exact ⟨rfl,.inl ⟨trivial,by rw [Int.toNat_natCast,HKV.out];rfl⟩⟩
theorem refIn {s:Fo} {K:Nat→List Nat} (h:RefOK W r) (hp:r.par=s.par) (hwf:WF r.N s K) (n t:Nat) (hn:n≤r.N) (ht:1≤t) :
  Calls Tryz.prog 143 #[.pointer (some ⟨r.rb,0,none⟩),.int .i64 n,.int .i64 t] W fun e w'=>∃ b:Bool,e=.returned (.bool b)∧(b=true↔Desc s.par n t)∧w'=W:=by
 have HH:Hid (RefOK W r):=h
 have HW:Hid (WF r.N s K):=hwf
 have hL:=h.hN
 have hg:=h.c0
 obtain ⟨L,hLe⟩:∃ L,L=r.N+1:=⟨_,rfl⟩
 rw [← hLe] at hg
 have HLe:Hid (L=r.N+1):=hLe
 have hL3:L≤301:=by omega
 clear hLe
 have HPE:Hid (r.par=s.par):=hp
 clear h hwf hp
 go_enter Tryz.func143, Tryz.ntmps143
 go_wp2_with fail
 go_loopg [1] r.N (fun m i wr=>∃ x:Nat,i=.int .i64 x∧x≤r.N∧wr=W∧anc s.par m x=0∧(Desc s.par n t↔Desc s.par x t))
 case atStart=>exact ⟨n,rfl,hn,rfl,HW.out.top n hn,Iff.rfl⟩
 case round =>
  obtain ⟨x,rfl,hx,rfl,ha,hd⟩:=hrel
  have HA:Hid (anc s.par gk x=0):=ha
  have HD:Hid (Desc s.par n t↔Desc s.par x t):=hd
  clear ha hd
  by_cases e0:x=0
  ·subst e0
   go_wp2_with fail
   go_ret
   exact ⟨_,rfl,by rw [HD.out];simp [desc_zero HW.out.z ht],rfl⟩
  ·have e0':((x:Int) != 0)=true:=by simp;omega
   by_cases et:x=t
   ·subst et
    go_wp2_with fail
    go_ret
    exact ⟨_,rfl,by rw [HD.out];simp [Desc.refl],rfl⟩
   ·have et':((x:Int) == (t:Int))=false:=by simp;omega
    have ET:Hid (x≠t):=et
    have E0:Hid (x≠0):=e0
    have hc:=HH.out.cpar (i:=x) hx
    rw [HPE.out] at hc
    have hxL:(x:Int)<(L:Int):=by have:=HLe.out;omega
    clear et e0
    go_wp2_with fail
    cases gk with
    | zero=>exact absurd HA.out E0.out
    | succ m =>
     go_roundg m
     case measure=>omega
     case rel=>exact ⟨s.par x,rfl,HW.out.parLe x hx,rfl,HA.out,HD.out.trans (desc_step ET.out)⟩
theorem refAt {D:Nat} (w:World) (v:Value) (l:List Nat) (x n:Nat) (hv:w.ownsRow D 3 1 v n (ints l)) (hnl:n=l.length) (hn:l.length≤1000) (hx:x∈l) :
  Calls Tryz.prog 144 #[v,.int .i64 x] w fun e w'=>w'=w∧∃ k,k<l.length∧l[k]?=some x∧e=.returned (.int .i64 (k:Nat)):=by
 subst hnl
 obtain ⟨ao,cap,rfl,hN⟩:=nums_form hv rfl
 have HN:Hid _:=hN
 have HX:Hid (x∈l):=hx
 clear hN hv hx
 go_enter Tryz.func144, Tryz.ntmps144
 go_wp2_with fail
 go_loop [5] (fun i=>∃ k:Nat,k≤l.length∧i=.int .i64 k∧x ∉ l.take k) (fun i=>l.length-(intOf i).toNat)
 case atStart=>exact ⟨0,Nat.zero_le _,rfl,by simp⟩
 case round =>
  obtain ⟨k,hk,rfl,hxk⟩:=hrel
  have HXK:Hid (x ∉ l.take k):=hxk
  clear hxk
  by_cases hlt:k<l.length
  ·rcases HN.out with h0 | ⟨g,hg,hgs,hcell⟩
   ·omega
   ·subst hg
    have hc:=hcell k hlt
    have hget:l[k]?=some (l.getD k 0):=by rw [List.getD_eq_getElem?_getD,List.getElem?_eq_getElem (by omega)];rfl
    have HG:Hid (l[k]?=some (l.getD k 0)):=hget
    have HT:Hid (l.take (k+1)=l.take k++[l.getD k 0]):=by
     show l.take (k+1)=_
     rw [List.take_add_one,hget];rfl
    clear hget hcell
    generalize l.getD k 0=y at *
    by_cases hy:y=x
    ·subst hy
     go_wp2_with fail
     go_ret
     exact ⟨rfl,k,hlt,HG.out,rfl⟩
    ·have hy':((y:Int) == (x:Int))=false:=by simp;omega
     have HY:Hid (y≠x):=hy
     clear hy
     go_wp2_with fail
     go_round
     case rel=>exact ⟨k+1,by omega,by go_num,by rw [HT.out];simp;exact ⟨HXK.out,fun e=>HY.out e.symm⟩⟩
     case measure=>simp [intOf];omega
  ·exfalso
   apply HXK.out
   rw [List.take_of_length_le (by omega)]
   exact HX.out
theorem nameB_no {l:List UInt8} (h:l.all okB=false):nameB l=false:=by unfold nameB;rw [h];simp
theorem refIsName (s:ByteArray) (w:World) (hs:s.size≤maxLen) :
  Calls Tryz.prog 141 #[.string s] w fun e w'=>e=.returned (.bool (nameB s.data.toList))∧w'=w:=by
 unfold maxLen at hs
 have hlen:s.data.toList.length=s.size:=by simp
 have HLen:Hid (s.data.toList.length=s.size):=hlen
 clear hlen
 go_enter Tryz.func141, Tryz.ntmps141
 go_wp2
 go_loop [3] (fun i=>∃ k:Nat,k≤s.size∧i=.int .i64 k∧(s.data.toList.take k).all okB=true) (fun i=>s.size-(intOf i).toNat)
 case atStart=>exact ⟨0,Nat.zero_le _,rfl,rfl⟩
 case round =>
  obtain ⟨k,hk,rfl,hall⟩:=hrel
  have HALL:Hid ((s.data.toList.take k).all okB=true):=hall
  clear hall
  by_cases hlt:k<s.size
  ·have HS:Hid ((s.data.toList.take (k+1)).all okB=okB s[k]):=by
    show (s.data.toList.take (k+1)).all okB=_
    rw [take_snoc s k hlt,all_snoc,HALL.out];rfl
   by_cases c1:(97:Int)≤(s[k].toNat:Int)
   ·by_cases c2:(s[k].toNat:Int)≤122
    ·go_wp2
     all_goals
      go_round
      case rel=>exact ⟨k+1,by omega,by go_num,by rw [HS.out];exact okB_yes c1 c2⟩
      case measure=>simp [intOf];omega
    ·have c2':(122:Int)<(s[k].toNat:Int):=by omega
     clear c2
     go_wp2
     go_ret
     exact ⟨ret_bool (by rw [nameB_no (all_take_false (k:=k+1) (by rw [HS.out];exact okB_no (.inr c2')))]),rfl⟩
   ·have c1':(s[k].toNat:Int)<97:=by omega
    clear c1
    go_wp2
    go_ret
    exact ⟨ret_bool (by rw [nameB_no (all_take_false (k:=k+1) (by rw [HS.out];exact okB_no (.inl c1')))]),rfl⟩
  ·have hkk:k=s.size:=by omega
   subst hkk
   have HF:Hid (s.data.toList.all okB=true):=by
    show s.data.toList.all okB=true
    rw [← HALL.out,List.take_of_length_le (by simp)]
   clear HALL
   by_cases h1:1≤s.size
   ·by_cases h8:s.size≤8
    ·have d1:decide (1≤(s.size:Int))=true:=by simp;omega
     have d2:decide ((s.size:Int)≤8)=true:=by simp;omega
     go_wp2
     go_ret
     exact ⟨ret_bool (by unfold nameB;rw [HF.out,HLen.out];simp [h1,h8]),rfl⟩
    ·have d1:decide (1≤(s.size:Int))=true:=by simp;omega
     have d2:decide ((s.size:Int)≤8)=false:=by simp;omega
     have H8:Hid (¬ s.size≤8):=h8
     clear h8
     go_wp2
     go_ret
     exact ⟨ret_bool (by unfold nameB;rw [HLen.out];simp [H8.out]),rfl⟩
   ·have d1:decide (1≤(s.size:Int))=false:=by simp;omega
    have H1:Hid (¬ 1≤s.size):=h1
    clear h1
    go_wp2
    go_ret
    exact ⟨ret_bool (by unfold nameB;rw [HLen.out];simp [H1.out]),rfl⟩
end
open Go.RowKit Gv
section
variable {N:Nat} {s:Fo} {K:Nat→List Nat} {r:Rx} {w:World}
def toKid (N:Nat) (K:Nat→List Nat) (x k:Nat):List Nat:=x :: ((K x).take k).flatMap (P N K)
theorem toKid_zero (N:Nat) (K:Nat→List Nat) (x:Nat):toKid N K x 0=[x]:=by simp [toKid]
theorem toKid_succ (N:Nat) (K:Nat→List Nat) (x k:Nat) (hk:k<(K x).length):toKid N K x (k+1)=toKid N K x k++P N K ((K x).getD k 0):=by
 unfold toKid
 have e:(K x).take (k+1)=(K x).take k++[(K x).getD k 0]:=by rw [List.take_add_one,List.getD_eq_getElem?_getD,List.getElem?_eq_getElem hk];rfl
 rw [e,List.flatMap_append]
 simp
theorem toKid_all (hwf:WF N s K) (hN:1≤N) {x:Nat} (hx:1≤x):toKid N K x (K x).length=P N K x:=by
 rw [P_eq hwf hx hN];simp [toKid]
theorem toKid_len (hwf:WF N s K) {x:Nat} (hx:1≤x) (hxN:x≤N) (k:Nat):(toKid N K x k).length≤N:=by
 have h1:(toKid N K x k).length≤(toKid N K x (K x).length).length:=by
  unfold toKid
  simp only [List.length_cons,List.length_flatMap,Nat.add_le_add_iff_right]
  rw [List.take_of_length_le (Nat.le_refl _)]
  have e:(K x)=(K x).take k++(K x).drop k:=(List.take_append_drop k (K x)).symm
  conv=>rhs;rw [e]
  rw [List.map_append,List.sum_append]
  omega
 have h2:=P_len hwf hx hxN
 rw [toKid_all hwf (by omega) hx] at h1
 omega
def RefWithin (r:Rx) (K:Nat→List Nat) (f:Nat):Prop :=
 ∀ (w:World) (x:Nat),RefOK w r→1≤x→x≤r.N→Deep K f x →
  Calls Tryz.prog 153 #[.pointer (some ⟨r.rb,0,none⟩),.int .i64 x] w fun e w'=>∃ v,e=.returned v∧w'.ownsRow w.heap.size 3 1 v (P r.N K x).length (ints (P r.N K x))∧Below w.heap.size w w'
theorem refWithinStep (hwf:WF r.N s K) (hK:r.K=K) (f:Nat) (ih:∀ f',f=f'+1→RefWithin r K f'):RefWithin r K f:=by
 intro w n h h1 hn hdeep
 have HW:Hid (WF r.N s K):=hwf
 have HI:Hid (∀ f',f=f'+1→RefWithin r K f'):=ih
 have HDp:Hid (Deep K f n):=hdeep
 have hfew:(K n).length≤r.N:=hwf.few n
 obtain ⟨i0,hi,hz0,hz1,hz2⟩:=info_parts Tryz.info3
 have HH:Hid (RefOK w r):=h
 have hL:=h.hN
 have HKE:Hid (r.K=K):=hK
 obtain ⟨L,hLe⟩:∃ L,L=r.N+1:=⟨_,rfl⟩
 have HLe:Hid (L=r.N+1):=hLe
 have hnL:(n:Int)<(L:Int):=by omega
 have hL3:L≤301:=by omega
 have hkrow:=h.kids n hn
 rw [hK] at hkrow
 obtain ⟨_,kao,kcap,hkv,hkc,hkn⟩:=nums_of hkrow
 have HKN:Hid (Nums w kao (K n).length (K n)):=hkn
 have HKV:Hid (r.kv n=.slice kao (K n).length kcap):=hkv
 clear hwf ih h hdeep hK hkv hkn hkrow hLe
 go_enter Tryz.func153, Tryz.ntmps153
 go_wp2_with fail
 have hl0:(w.alloc (.cells #[.int .i64 (n:Int)] 3)).ownsRow w.heap.size 3 1 (.slice (some ⟨w.heap.size,0,none⟩) 1 1) 1 (ints [n]):=World.ownsRow_lit (e:=3) (size:=1) (base:=w.heap.size) w #[.int .i64 (n:Int)] 1 (Nat.le_refl _) (by decide) rfl
 have HL0:Hid _:=hl0
 clear hl0
 go_loopw [5,6] (fun v i wr=>∃ (k g vc:Nat),k≤(K n).length∧i=.int .i64 k∧v=.slice (some ⟨g,0,none⟩) (toKid r.N K n k).length vc∧wr.ownsRow w.heap.size 3 1 v (toKid r.N K n k).length (ints (toKid r.N K n k))∧Below w.heap.size w wr) (fun _ i _=>(K n).length-(intOf i).toNat)
 case atStart=>exact ⟨0,w.heap.size,1,Nat.zero_le _,rfl,by rw [toKid_zero];rfl,by rw [toKid_zero];exact HL0.out,(Below.refl _ _).alloc (Nat.le_refl _) _⟩
 case round =>
  obtain ⟨k,g,vc,hk,rfl,rfl,hown,hbel⟩:=hrel
  clear HL0
  have hr:=HH.out.since hbel
  have c0:=hr.c0
  rw [← HLe.out] at c0
  have ck:=hr.ckv hn
  rw [HKV.out] at ck
  have HHr:Hid (RefOK wr r):=hr
  have hTl:=toKid_len HW.out h1 hn k
  have HT:Hid (k<(K n).length→toKid r.N K n (k+1)=toKid r.N K n k++P r.N K ((K n).getD k 0)):=toKid_succ r.N K n k
  have HT2l:=toKid_len HW.out h1 hn (k+1)
  have HTL:Hid ((toKid r.N K n (k+1)).length≤r.N):=HT2l
  have HA:Hid (k=(K n).length→toKid r.N K n k=P r.N K n):=by rintro rfl;exact toKid_all HW.out (by omega) h1
  have HB:Hid (Below w.heap.size w wr):=hbel
  have HO:Hid _:=hown
  clear hr hown hbel HT2l
  generalize toKid r.N K n k=T at *
  by_cases hkl:k<(K n).length
  ·rcases HKN.out with h0 | ⟨kg,rfl,hkgs,hkc'⟩
   ·omega
   have hcell:=(HB.out.cell (p:=⟨kg,k,none⟩) hkgs).trans (hkc' k hkl)
   have hmem:(K n).getD k 0∈K n:=by rw [List.getD_eq_getElem?_getD,List.getElem?_eq_getElem hkl];exact List.getElem_mem _
   have hyk:=HW.out.kid n _ hmem
   obtain ⟨f',hf'⟩:∃ f',f=f'+1:=by
    cases f with
    | zero=>have:=HDp.out;unfold Deep at this;rw [this] at hkl;simp at hkl
    | succ f=>exact ⟨f,rfl⟩
   have hdk:Deep K f' ((K n).getD k 0):=by have:=HDp.out;rw [hf'] at this;exact this _ hmem
   have HT':Hid _:=HT.out hkl
   clear hkc' hmem HT HA
   generalize (K n).getD k 0=y at *
   have HDk:Hid (Deep K f' y):=hdk
   have hyp:1≤y∧y≤r.N:=⟨hyk.2.2.1,hyk.2.2.2.1⟩
   have ib:(k:Int)<((K n).length:Int):=by omega
   clear hyk hdk
   go_wp2_with fail
   refine (HI.out f' hf' wr y HHr.out hyp.1 hyp.2 HDk.out).mono ?_
   rintro e w2 ⟨v2,rfl,hown2,hbel2⟩
   obtain ⟨_,ao2,cap2,hv2,_,hN2⟩:=nums_of hown2
   have hRl:1≤(P r.N K y).length:=by obtain ⟨t,ht⟩:=P_head r.N K y;rw [ht];simp
   have hRn:T.length+(P r.N K y).length≤r.N:=by have h2:=HTL.out;rw [HT'.out,List.length_append] at h2;exact h2
   generalize P r.N K y=R at *
   have hT2:w2.ownsRow w.heap.size 3 1 (.slice (some ⟨g,0,none⟩) T.length vc) T.length (ints T):=World.ownsRow.kept HO.out (below_grownBy hbel2 none) (by simp [Value.ownBlock])
   have hB2:Below w.heap.size w w2:=HB.out.trans (hbel2.mono HB.out.size)
   rcases hN2 with h0 | ⟨g2,hg2,hg2s,hc2⟩
   ·omega
   rw [hg2] at hv2
   rw [hv2]
   have HHC:Hid _:=ints_cells hc2 rfl
   have HHT:Hid (w2.ownsRow w.heap.size 3 1 (.slice (some ⟨g,0,none⟩) T.length vc) T.length (ints T)):=hT2
   have HHB:Hid (Below w.heap.size w w2):=hB2
   clear hT2 hB2 hc2 hown2 hbel2 hv2 hg2 HO HB HHr
   go_wp2_with (at_builtin;refine wpList_append_lies _ rfl _ _ 25 rfl w.heap.size 3 i0 (.int .i64 0) 1 8 Tryz.underlying25 hi hz0 hz1 hz2 rfl (by decide) _ _ _ rfl HHT.out ⟨g2,0,none⟩ R.length cap2 (ints R) rfl ?c0 ?c1 ?c2 ?cm ?c3 ?c4 ?c5 _ rfl ?_)
   case c0=>simp [ints]
   case c1=>exact HHC.out
   case c2=>exact ints_one R
   case cm=>omega
   case c3=>unfold maxLen;omega
   case c4=>omega
   case c5=>exact HHB.out.size
   intro g3 cap3 w3 hown3 hgrow3 hat3 hlt3
   have hB3:Below w.heap.size w w3:=HHB.out.grown hgrow3 HHB.out.size (fun q hq=>(World.ownsRow.lt HHT.out q hq).1)
   have hO3:w3.ownsRow w.heap.size 3 1 (.slice (some ⟨g3,0,none⟩) (T++R).length cap3) (T++R).length (ints (T++R)):=by
    rw [List.length_append]
    have e:ints (T++R)=ints T++ints R:=by simp [ints]
    rw [e];exact hown3
   have W3:Hid (Below w.heap.size w w3):=hB3
   have W4:Hid (w3.ownsRow w.heap.size 3 1 (.slice (some ⟨g3,0,none⟩) (T++R).length cap3) (T++R).length (ints (T++R))):=hO3
   clear hB3 hO3 hown3 hgrow3 hat3
   go_wp2_with fail
   go_roundw
   case rel=>exact ⟨k+1,g3,cap3,by omega,by go_num,by rw [HT'.out,List.length_append],by rw [HT'.out,← List.length_append];exact W4.out,W3.out⟩
   case measure=>simp [intOf];omega
  ·have e:=HA.out (by omega)
   have HE:Hid (T=P r.N K n):=e
   clear e HA HT
   go_wp2_with fail
   go_ret
   rw [← HE.out]
   exact ⟨_,rfl,HO.out,HB.out⟩
theorem refWithinF (hwf:WF r.N s K) (hK:r.K=K) (f:Nat):RefWithin r K f:=by
 induction f with
 | zero=>exact refWithinStep hwf hK 0 (fun f' h=>by omega)
 | succ f ih=>exact refWithinStep hwf hK (f+1) (fun f' h=>(show f=f' by omega) ▸ ih)
theorem refWithin (h:RefOK w r) (hwf:WF r.N s K) (hK:r.K=K) (n:Nat) (h1:1≤n) (hn:n≤r.N) :
  Calls Tryz.prog 153 #[.pointer (some ⟨r.rb,0,none⟩),.int .i64 n] w fun e w'=>∃ v,e=.returned v∧w'.ownsRow w.heap.size 3 1 v (P r.N K n).length (ints (P r.N K n))∧Below w.heap.size w w' :=
 refWithinF hwf hK r.N w n h h1 hn (hwf.deepN h1 (by omega))
end
open Go.RowKit Gv
section
variable {w w':World} {r:Rx} {s:Fo} {K:Nat→List Nat}
theorem RefOK.part (h:RefOK w r) {ok:TypeId→Prop} (hk:∀ (b:Nat) (cs:Array Value) (t:TypeId),w.heap[b]?=some (.cells cs t (0,0))→ok t→w'.heap[b]?=w.heap[b]?) :
  (ok 117→w'.heap[r.rb]?=some (.cells #[.slice (some ⟨r.rn,0,none⟩) (r.N+1) r.cap,r.wv,r.iv,r.qv] 117 (0,0))) ∧
  (ok 150→w'.ownsRow 0 150 5 (.slice (some ⟨r.rn,0,none⟩) (r.N+1) r.cap) (r.N+1) (refCells (r.N+1) r.kn r.tag r.av r.par r.kv)) ∧
  (ok 3→∀ i,i≤r.N→w'.ownsRow 0 3 1 (r.kv i) (r.K i).length (ints (r.K i))) ∧
  (ok 199→∀ i,i≤r.N→w'.ownsRow 0 199 2 (r.av i) (r.ats i).length ((r.ats i).flatMap arow)) ∧
  (ok 177→w'.ownsRow 0 177 3 r.wv r.wl.length (r.wl.flatMap wrow)) ∧
  (ok 206→w'.ownsRow 0 206 5 r.iv r.il.length (r.il.flatMap It.row)) ∧
  (ok 207→∀ x,x∈r.il→w'.ownsRow 0 207 2 x.rules x.rl.length (x.rl.flatMap rrow)∧x.rl.length≤10) ∧
  (ok 210→w'.ownsRow 0 210 4 r.qv r.ql.length (r.ql.flatMap Wk.row)) ∧
  (ok 207→∀ x,x∈r.ql→w'.ownsRow 0 207 2 x.rules x.rl.length (x.rl.flatMap rrow)∧x.rl.length≤10):=by
 have kr:∀ {t size n:Nat} {v:Value} {xs:List Value},w.ownsRow 0 t size v n xs→ok t→w'.ownsRow 0 t size v n xs:=fun hr ho=>row_keep hr (fun b hb=>by
  obtain ⟨cs,hcs⟩:=row_block hr hb
  exact hk b cs _ hcs ho)
 exact ⟨fun ho=>(hk _ _ _ h.g ho).trans h.g,fun ho=>kr h.row ho,fun ho i hi=>kr (h.kids i hi) ho,fun ho i hi=>kr (h.att i hi) ho,fun ho=>kr h.wat ho,fun ho=>kr h.its ho,fun ho x hx=>⟨kr (h.irl x hx).1 ho,(h.irl x hx).2⟩,fun ho=>kr h.wks ho,fun ho x hx=>⟨kr (h.qrl x hx).1 ho,(h.qrl x hx).2⟩⟩
theorem store_apart {p:Addr} {cs0:Array Value} {t0:TypeId} (hp:w.heap[p.block]?=some (.cells cs0 t0 (0,0))) (u:Value):∀ (b:Nat) (cs:Array Value) (t:TypeId),w.heap[b]?=some (.cells cs t (0,0))→t≠t0→(w.setCell p u).heap[b]?=w.heap[b]?:=by
 intro b cs t hb ht
 refine Below.heap_setCell _ _ _ _ (fun e=>?_)
 rw [← e,hb] at hp
 simp at hp
 exact ht hp.2
theorem RefOK.putPar (h:RefOK w r) {i:Nat} (v:Nat) (hi:i≤r.N):RefOK (w.setCell ⟨r.rn,i*5+3,none⟩ (.int .i64 v)) { r with par:=up r.par i v }:=by
 have hst:=h.row.stored (i*5+3) (.int .i64 v)
 have e:=refCells_set (L:=r.N+1) (kn:=r.kn) (tag:=r.tag) (av:=r.av) (par:=r.par) (kv:=r.kv) (kn':=r.kn) (tag':=r.tag) (av':=r.av) (par':=up r.par i v) (kv':=r.kv) (i:=i) (j:=3) (v:=.int .i64 v) (by omega) (by omega) (fun x hx=>by simp [refRow,up_other _ _ _ hx]) (by simp [refRow,up_same])
 rw [e] at hst
 obtain ⟨cs,hcs⟩:=h.rnblock
 obtain ⟨p1,_,p3,p4,p5,p6,p7,p8,p9⟩:=h.part (ok:=fun t=>t≠150) (w':=w.setCell ⟨r.rn,i*5+3,none⟩ (.int .i64 v)) (store_apart (p:=⟨r.rn,i*5+3,none⟩) hcs _)
 exact ⟨p1 (by decide),hst.1,h.hN,p3 (by decide),h.few,p4 (by decide),h.afew,h.hT,h.nd,p5 (by decide),h.wfew,p6 (by decide),h.ifew,p7 (by decide),p8 (by decide),h.qfew,p9 (by decide)⟩
theorem RefOK.putKids (h:RefOK w r) {i:Nat} {v:Value} {l:List Nat} (hi:i≤r.N) (hv:w.ownsRow 0 3 1 v l.length (ints l)) (hl:l.length≤300):RefOK (w.setCell ⟨r.rn,i*5+4,none⟩ v) { r with kv:=up r.kv i v,K:=up r.K i l }:=by
 have hst:=h.row.stored (i*5+4) v
 have e:=refCells_set (L:=r.N+1) (kn:=r.kn) (tag:=r.tag) (av:=r.av) (par:=r.par) (kv:=r.kv) (kn':=r.kn) (tag':=r.tag) (av':=r.av) (par':=r.par) (kv':=up r.kv i v) (i:=i) (j:=4) (v:=v) (by omega) (by omega) (fun x hx=>by simp [refRow,up_other _ _ _ hx]) (by simp [refRow,up_same])
 rw [e] at hst
 obtain ⟨cs,hcs⟩:=h.rnblock
 have hap:=store_apart (p:=⟨r.rn,i*5+4,none⟩) hcs v
 obtain ⟨p1,_,p3,p4,p5,p6,p7,p8,p9⟩:=h.part (ok:=fun t=>t≠150) (w':=w.setCell ⟨r.rn,i*5+4,none⟩ v) hap
 refine ⟨p1 (by decide),hst.1,h.hN,fun j hj=>?_,fun j hj=>?_,p4 (by decide),h.afew,h.hT,h.nd,p5 (by decide),h.wfew,p6 (by decide),h.ifew,p7 (by decide),p8 (by decide),h.qfew,p9 (by decide)⟩
 ·show (w.setCell ⟨r.rn,i*5+4,none⟩ v).ownsRow 0 3 1 (up r.kv i v j) (up r.K i l j).length (ints (up r.K i l j))
  by_cases ej:j=i
  ·subst ej;rw [up_same,up_same]
   refine row_keep hv (fun b hb=>?_)
   obtain ⟨cs',hcs'⟩:=row_block hv hb
   exact hap b cs' _ hcs' (by decide)
  ·rw [up_other _ _ _ ej,up_other _ _ _ ej];exact p3 (by decide) j hj
 ·show (up r.K i l j).length≤300
  by_cases ej:j=i
  ·subst ej;rw [up_same];exact hl
  ·rw [up_other _ _ _ ej];exact h.few j hj
theorem RefOK.itCell (h:RefOK w r) {ig n cap:Nat} (hv:r.iv=.slice (some ⟨ig,0,none⟩) n cap) {i j:Nat} {it:It} (hi:r.il[i]?=some it) (hj:j<5):w.cell? ⟨ig,i*5+j,none⟩=it.row[j]?:=by
 have hl:i<r.il.length:=(List.getElem?_eq_some_iff.1 hi).1
 have h':=h.its
 rw [hv] at h'
 obtain rfl:=row_n h'
 rw [h'.cellAt (i*5+j) (by omega),flat_at It.row_len hi hj]
theorem RefOK.putIt (h:RefOK w r) {ig n cap:Nat} (hv:r.iv=.slice (some ⟨ig,0,none⟩) n cap) {i j:Nat} {it it':It} {v:Value} (hi:r.il[i]?=some it) (hj:j<5) (hs:it'.row=it.row.set j v) (he:it'.rules=it.rules∧it'.rl=it.rl) :
  RefOK (w.setCell ⟨ig,i*5+j,none⟩ v) { r with il:=r.il.set i it' }:=by
 have h':=h.its
 rw [hv] at h'
 obtain rfl:=row_n h'
 obtain ⟨cs,hcs⟩:=row_block h' rfl
 have hst:=(h'.stored (i*5+j) v).1
 rw [flat_set It.row_len hi hj hs] at hst
 obtain ⟨p1,p2,p3,p4,p5,_,p7,p8,p9⟩:=h.part (ok:=fun t=>t≠206) (w':=w.setCell ⟨ig,i*5+j,none⟩ v) (store_apart (p:=⟨ig,i*5+j,none⟩) hcs v)
 refine ⟨p1 (by decide),p2 (by decide),h.hN,p3 (by decide),h.few,p4 (by decide),h.afew,h.hT,h.nd,p5 (by decide),h.wfew,?_,?_,fun x hx=>?_,p8 (by decide),h.qfew,p9 (by decide)⟩
 ·show (w.setCell ⟨ig,i*5+j,none⟩ v).ownsRow 0 _ 5 r.iv (r.il.set i it').length ((r.il.set i it').flatMap It.row)
  rw [hv,List.length_set];exact hst
 ·show (r.il.set i it').length≤50
  rw [List.length_set];exact h.ifew
 ·rcases List.mem_or_eq_of_mem_set hx with hx | rfl
  ·exact p7 (by decide) x hx
  ·rw [he.1,he.2];exact p7 (by decide) it (List.mem_of_getElem? hi)
theorem RefOK.drew (h:RefOK w r):RefOK w.drew r:=h.keep (fun _ _=>rfl)
theorem RefOK.ifree (h:RefOK w r) {ig n cap:Nat} (hv:r.iv=.slice (some ⟨ig,0,none⟩) n cap) (j:Nat):w.frozen? ⟨ig,j,none⟩=false:=by
 have h':=h.its
 rw [hv] at h'
 obtain rfl:=row_n h'
 exact h'.frozenAt j
theorem leave_stays {N:Nat} (hwf:WF N s K) {c:Nat} (hc1:1≤c) {it:It} (hit:it.Sound N s) (h:¬ (Desc s.par it.spot.place c∧¬ Desc s.par it.spot.root c)):it.leave N s c=it:=by
 obtain ⟨_,hrN,_,hpN,_⟩:=hit
 unfold It.leave
 rw [leave_stay (fun e=>h ⟨(Gv.within_iff hwf hpN hc1).1 e.1,fun d=>by have:=(Gv.within_iff hwf hrN hc1).2 d;rw [e.2] at this;cases this⟩)]
theorem leave_goes {N:Nat} (hwf:WF N s K) {c:Nat} (hc1:1≤c) (hcN:c≤N) {it:It} (hit:it.Sound N s) (hp:Desc s.par it.spot.place c) (hr:¬ Desc s.par it.spot.root c) :
  ∃ k,(P N K it.spot.root)[k]?=some c∧1≤k∧k+(P N K c).length≤(P N K it.spot.root).length ∧
   (it.spot.ahead=true→k+(P N K c).length<(P N K it.spot.root).length→it.leave N s c={ it with spot:={ it.spot with place:=(P N K it.spot.root).getD (k+(P N K c).length) 0 } }) ∧
   (¬ (it.spot.ahead=true∧k+(P N K c).length<(P N K it.spot.root).length)→it.leave N s c={ it with spot:={ it.spot with place:=(P N K it.spot.root).getD (k-1) 0,ahead:=false } }):=by
 obtain ⟨h1,hrN,hp1,hpN,hd⟩:=hit
 have w1:withF s N it.spot.place c=true:=(Gv.within_iff hwf hpN hc1).2 hp
 have w2:withF s N it.spot.root c=false:=by
  cases e:withF s N it.spot.root c with
  | false=>rfl
  | true=>exact absurd ((Gv.within_iff hwf hrN hc1).1 e) hr
 have hcr:Desc s.par c it.spot.root:=by
  rcases desc_line hp hd with h | h
  ·exact h
  ·exact absurd h hr
 have hne:c≠it.spot.root:=fun e=>hr (e ▸ Desc.refl _ _)
 obtain ⟨k,k1,k2,k3,k4,k5,k6⟩:=leave_by hwf (by omega) hc1 hcN h1 hrN hcr hne
 refine ⟨k,k1,k2,k3,fun ha hl=>?_,fun hn=>?_⟩
 ·unfold It.leave
  rw [leave_past w1 w2 ha (k6.2 hl),k5]
 ·unfold It.leave
  rw [leave_prev w1 w2 (fun e=>hn ⟨e.1,k6.1 e.2⟩),k4]
end
open Go.RowKit Gv
section
variable {w w':World} {r:Rx} {s:Fo} {K:Nat→List Nat}
def Rx.left (r:Rx) (s:Fo) (c k:Nat):Rx:={ r with il:=leftTo r.N s c r.il k }
theorem alloc5 (w:World) (a b c d e:Value) (t:TypeId) (j:Nat):(w.alloc (.cells #[a,b,c,d,e] t)).cell? ⟨w.heap.size,j,none⟩=#[a,b,c,d,e][j]?:=by simp
theorem Rx.left_set {r:Rx} {s:Fo} {c k:Nat} {l:List It} (h:l=(r.left s c (k+1)).il):{ r.left s c k with il:=l }=r.left s c (k+1):=by rw [h];rfl
theorem idx_same {l:List Nat} {x i j:Nat} (hn:l.Nodup) (hi:l[i]?=some x) (hj:l[j]?=some x):i=j:=by
 obtain ⟨h1,e1⟩:=List.getElem?_eq_some_iff.1 hi
 obtain ⟨h2,e2⟩:=List.getElem?_eq_some_iff.1 hj
 exact (List.getElem_inj hn).1 (e1.trans e2.symm)
theorem refLeaving (h:RefOK w r) (hp:r.par=s.par) (hK:r.K=K) (hwf:WF r.N s K) (hs:∀ x,x∈r.il→x.Sound r.N s) (c:Nat) (hc1:1≤c) (hcN:c≤r.N) :
  Calls Tryz.prog 145 #[.pointer (some ⟨r.rb,0,none⟩),.int .i64 c] w fun e w'=>e=.returned (.tuple #[])∧RefOK w' { r with il:=r.il.map (It.leave r.N s c) }∧Fr r.own w w':=by
 have HH:Hid (RefOK w r):=h
 have HP:Hid (r.par=s.par):=hp
 have HK:Hid (r.K=K):=hK
 have HW:Hid (WF r.N s K):=hwf
 have HS:Hid (∀ x,x∈r.il→x.Sound r.N s):=hs
 have hN:=h.hN
 have h50:=h.ifew
 obtain ⟨iao,icap,hiv,hic,hiF⟩:=rowForm h.its
 have HIV:Hid (r.iv=.slice iao r.il.length icap):=hiv
 have HIF:Hid (r.il.length=0∨∃ g,iao=some ⟨g,0,none⟩):=by
  rcases hiF with h0 | ⟨g,hg,_⟩
  ·exact .inl h0
  ·exact .inr ⟨g,hg⟩
 clear h hp hK hwf hs hiv hiF
 go_enter Tryz.func145, Tryz.ntmps145
 go_wp2_with fail
 go_loopw [4] (fun i wr=>∃ k:Nat,k≤r.il.length∧i=.int .i64 k∧RefOK wr (r.left s c k)∧Fr r.own w wr) (fun i _=>r.il.length-(intOf i).toNat)
 case atStart=>exact ⟨0,Nat.zero_le _,rfl,by unfold Rx.left;rw [leftTo_zero];exact HH.out,Fr.refl _ _⟩
 case round =>
  obtain ⟨k,hk,rfl,hR,hF⟩:=hrel
  obtain ⟨w1,rfl⟩:∃ w1:World,w1=wr:=⟨_,rfl⟩
  have c2:w1.cell? ⟨r.rb,2,none⟩=some (.slice iao r.il.length icap):=by rw [← HIV.out];exact hR.c2
  have HR:Hid (RefOK w1 (r.left s c k)):=hR
  have HF:Hid (Fr r.own w w1):=hF
  clear hR hF
  by_cases hkl:k<r.il.length
  ·obtain ⟨it,hit⟩:∃ it,r.il[k]?=some it:=⟨_,List.getElem?_eq_getElem hkl⟩
   have hat:=leftTo_at r.N s c hit
   have hset:=leftTo_set r.N s c hit
   have hso:=HS.out it (List.mem_of_getElem? hit)
   rcases HIF.out with h0 | ⟨ig,rfl⟩
   ·omega
   obtain ⟨rao,rcap,hrv,_,_⟩:=rowForm (HR.out.irl it (List.mem_of_getElem? hat)).1
   have k0:w1.cell? ⟨ig,k*5,none⟩=some (.int .i64 it.spot.root):=HR.out.itCell HIV.out hat (j:=0) (by omega)
   have k1:w1.cell? ⟨ig,k*5+1,none⟩=some (.int .i64 it.see):=HR.out.itCell HIV.out hat (j:=1) (by omega)
   have k2:w1.cell? ⟨ig,k*5+2,none⟩=some (.slice rao it.rl.length rcap):=by rw [← hrv];exact HR.out.itCell HIV.out hat (j:=2) (by omega)
   have k3:w1.cell? ⟨ig,k*5+3,none⟩=some (.int .i64 it.spot.place):=HR.out.itCell HIV.out hat (j:=3) (by omega)
   have k4:w1.cell? ⟨ig,k*5+4,none⟩=some (.bool it.spot.ahead):=HR.out.itCell HIV.out hat (j:=4) (by omega)
   have HAT:Hid ((r.left s c k).il[k]?=some it):=hat
   have HSET:Hid ((r.left s c k).il.set k (it.leave r.N s c)=(r.left s c (k+1)).il):=hset
   have HSO:Hid (it.Sound r.N s):=hso
   have ib:(k:Int)<(r.il.length:Int):=by omega
   have hpN:it.spot.place≤r.N:=hso.2.2.2.1
   have hrN:it.spot.root≤r.N:=hso.2.1
   have hr1:1≤it.spot.root:=hso.1
   clear hat hset hso hit hrv
   go_wp2_with fail
   have a0:(w1.alloc (.cells #[.int .i64 it.spot.root,.int .i64 it.see,.slice rao it.rl.length rcap,.int .i64 it.spot.place,.bool it.spot.ahead] 206)).cell? ⟨w1.heap.size,0,none⟩=some (.int .i64 it.spot.root):=alloc5 _ _ _ _ _ _ _ 0
   have a3:(w1.alloc (.cells #[.int .i64 it.spot.root,.int .i64 it.see,.slice rao it.rl.length rcap,.int .i64 it.spot.place,.bool it.spot.ahead] 206)).cell? ⟨w1.heap.size,3,none⟩=some (.int .i64 it.spot.place):=alloc5 _ _ _ _ _ _ _ 3
   have a4:(w1.alloc (.cells #[.int .i64 it.spot.root,.int .i64 it.see,.slice rao it.rl.length rcap,.int .i64 it.spot.place,.bool it.spot.ahead] 206)).cell? ⟨w1.heap.size,4,none⟩=some (.bool it.spot.ahead):=alloc5 _ _ _ _ _ _ _ 4
   have hbA:Below w1.heap.size w1 (w1.alloc (.cells #[.int .i64 it.spot.root,.int .i64 it.see,.slice rao it.rl.length rcap,.int .i64 it.spot.place,.bool it.spot.ahead] 206)):=(Below.refl _ _).alloc (Nat.le_refl _) _
   have hlA:w1.heap.size<(w1.alloc (.cells #[.int .i64 it.spot.root,.int .i64 it.see,.slice rao it.rl.length rcap,.int .i64 it.spot.place,.bool it.spot.ahead] 206)).heap.size:=by simp
   generalize w1.alloc (.cells #[.int .i64 it.spot.root,.int .i64 it.see,.slice rao it.rl.length rcap,.int .i64 it.spot.place,.bool it.spot.ahead] 206)=W1 at *
   have R1:Hid (RefOK W1 (r.left s c k)):=HR.out.since hbA
   have F1:Hid (Fr r.own w W1):=HF.out.trans (Fr.of_below hbA)
   have A0:Hid (W1.cell? ⟨w1.heap.size,0,none⟩=some (.int .i64 it.spot.root)):=a0
   have A4:Hid (W1.cell? ⟨w1.heap.size,4,none⟩=some (.bool it.spot.ahead)):=a4
   clear k0 k1 k2 k3 k4 c2 HR HF hbA
   generalize w1.heap.size=xb at *
   refine (refIn R1.out HP.out HW.out it.spot.place c hpN hc1).mono ?_
   rintro e W0 ⟨b1,rfl,hb1,hW2⟩
   subst hW2
   have HB1:Hid (b1=true↔Desc s.par it.spot.place c):=hb1
   clear hb1
   go_wp2_with fail
   refine (refIn R1.out HP.out HW.out it.spot.root c hrN hc1).mono ?_
   rintro e W1 ⟨b2,rfl,hb2,hW3⟩
   subst hW3
   have HB2:Hid (b2=true↔Desc s.par it.spot.root c):=hb2
   clear hb2
   cases b1 with
   | false =>
    have HE:Hid (it.leave r.N s c=it):=leave_stays HW.out hc1 HSO.out (fun e=>by have:=HB1.out.2 e.1;cases this)
    go_wp2_with fail
    go_roundw
    case rel=>exact ⟨k+1,hkl,by go_num,by
     have e1:r.left s c (k+1)=r.left s c k:=by
      have:=HSET.out
      rw [HE.out,set_self HAT.out] at this
      unfold Rx.left at this ⊢
      rw [show leftTo r.N s c r.il (k+1)=leftTo r.N s c r.il k from this.symm]
     rw [e1];exact R1.out,F1.out⟩
    case measure=>simp [intOf];omega
   | true =>
    cases b2 with
    | true =>
     have HE:Hid (it.leave r.N s c=it):=leave_stays HW.out hc1 HSO.out (fun e=>e.2 (HB2.out.1 rfl))
     go_wp2_with fail
     go_roundw
     case rel=>exact ⟨k+1,hkl,by go_num,by
      have e1:r.left s c (k+1)=r.left s c k:=by
       have:=HSET.out
       rw [HE.out,set_self HAT.out] at this
       unfold Rx.left at this ⊢
       rw [show leftTo r.N s c r.il (k+1)=leftTo r.N s c r.il k from this.symm]
      rw [e1];exact R1.out,F1.out⟩
     case measure=>simp [intOf];omega
    | false =>
     obtain ⟨q,q1,q2,q3,q4,q5⟩:=leave_goes HW.out hc1 hcN HSO.out (HB1.out.1 rfl) (fun e=>by have:=HB2.out.2 e;cases this)
     have Q1:Hid _:=q1
     have Q4:Hid _:=q4
     have Q5:Hid _:=q5
     have hPl:=P_len HW.out hr1 hrN
     clear q1 q4 q5 HB1 HB2
     go_wp2_with fail
     have CW:Hid (Calls Tryz.prog 153 #[.pointer (some ⟨r.rb,0,none⟩),.int .i64 it.spot.root] W1 fun e w'=>∃ v,e=.returned v∧w'.ownsRow W1.heap.size 3 1 v (P r.N K it.spot.root).length (ints (P r.N K it.spot.root))∧Below W1.heap.size W1 w'):=refWithin R1.out HW.out HK.out it.spot.root hr1 hrN
     refine Calls.mono CW.out ?_
     rintro e W2 ⟨lv,rfl,hlv,hb2⟩
     have R2:Hid (RefOK W2 (r.left s c k)):=R1.out.since hb2
     have F2:Hid (Fr r.own w W2):=F1.out.trans (Fr.of_below hb2)
     have a0:W2.cell? ⟨xb,0,none⟩=some (.int .i64 it.spot.root):=(hb2.cell (p:=⟨xb,0,none⟩) hlA).trans A0.out
     have a4:W2.cell? ⟨xb,4,none⟩=some (.bool it.spot.ahead):=(hb2.cell (p:=⟨xb,4,none⟩) hlA).trans A4.out
     have A4':Hid (W2.cell? ⟨xb,4,none⟩=some (.bool it.spot.ahead)):=a4
     have hl2:xb<W2.heap.size:=Nat.lt_of_lt_of_le hlA hb2.size
     obtain ⟨lao,lcap,hlf,_,hlc⟩:=rowForm hlv
     rw [hlf] at hlv ⊢
     have HLV:Hid (W2.ownsRow W1.heap.size 3 1 (.slice lao (P r.N K it.spot.root).length lcap) (P r.N K it.spot.root).length (ints (P r.N K it.spot.root))):=hlv
     have hmem:c∈P r.N K it.spot.root:=List.mem_of_getElem? Q1.out
     have HM:Hid (c∈P r.N K it.spot.root):=hmem
     clear hb2 R1 F1 A0 A4 hlv hmem hlf hlc
     go_wp2_with fail
     refine (refAt W2 _ (P r.N K it.spot.root) c _ HLV.out rfl (by omega) HM.out).mono ?_
     rintro e W4 ⟨hW3,q',_,hq',rfl⟩
     subst hW3
     obtain rfl:q'=q:=idx_same (P_nodup HW.out hr1 hrN) hq' Q1.out
     clear hq'
     go_wp2_with fail
     have CW2:Hid (Calls Tryz.prog 153 #[.pointer (some ⟨r.rb,0,none⟩),.int .i64 c] W4 fun e w'=>∃ v,e=.returned v∧w'.ownsRow W4.heap.size 3 1 v (P r.N K c).length (ints (P r.N K c))∧Below W4.heap.size W4 w'):=refWithin R2.out HW.out HK.out c hc1 hcN
     refine Calls.mono CW2.out ?_
     rintro e W3 ⟨cv,rfl,hcv,hb3⟩
     obtain ⟨cao,ccap,hcf,_,_⟩:=rowForm hcv
     rw [hcf]
     have R3:Hid (RefOK W3 (r.left s c k)):=R2.out.since hb3
     have F3:Hid (Fr r.own w W3):=F2.out.trans (Fr.of_below hb3)
     have a4:W3.cell? ⟨xb,4,none⟩=some (.bool it.spot.ahead):=(hb3.cell (p:=⟨xb,4,none⟩) hl2).trans A4'.out
     have L3:Hid (W3.ownsRow W1.heap.size 3 1 (.slice lao (P r.N K it.spot.root).length lcap) (P r.N K it.spot.root).length (ints (P r.N K it.spot.root))):=row_keep HLV.out (fun b hb=>hb3.block b (HLV.out.lt b hb).2)
     have c2:W3.cell? ⟨r.rb,2,none⟩=some (.slice (some ⟨ig,0,none⟩) r.il.length icap):=by rw [← HIV.out];exact R3.out.c2
     have k3:W3.cell? ⟨ig,k*5+3,none⟩=some (.int .i64 it.spot.place):=R3.out.itCell HIV.out HAT.out (j:=3) (by omega)
     have k4:W3.cell? ⟨ig,k*5+4,none⟩=some (.bool it.spot.ahead):=R3.out.itCell HIV.out HAT.out (j:=4) (by omega)
     have f3:∀ j,W3.frozen? ⟨ig,j,none⟩=false:=R3.out.ifree HIV.out
     obtain ⟨_,lao',lcap',hlf,_,hlN⟩:=nums_of L3.out
     simp only [Value.slice.injEq,true_and] at hlf
     obtain ⟨rfl,rfl⟩:=hlf
     rcases hlN with h0 | ⟨lg,rfl,hlgs,hlc⟩
     ·omega
     have HLC:Hid (∀ j,j<(P r.N K it.spot.root).length→W3.cell? ⟨lg,j,none⟩=some (.int .i64 ((P r.N K it.spot.root).getD j 0:Nat))):=hlc
     clear hb3 hcv hcf R2 F2 A4' HLV HM hlc CW CW2
     generalize (P r.N K it.spot.root).length=pl at *
     generalize (P r.N K c).length=pc at *
     have hq:(((q':Int)-1)).toNat=q'-1:=by omega
     by_cases ha:it.spot.ahead=true
     ·by_cases hlt:q'+pc<pl
      ·have HE:=Q4.out ha hlt
       have HEE:Hid (it.leave r.N s c={ it with spot:={ it.spot with place:=(P r.N K it.spot.root).getD (q'+pc) 0 } }):=HE
       have cl:=HLC.out (q'+pc) hlt
       generalize (P r.N K it.spot.root).getD (q'+pc) 0=y at *
       have R4:Hid (RefOK (W3.setCell ⟨ig,k*5+3,none⟩ (.int .i64 y)) { r.left s c k with il:=(r.left s c k).il.set k { it with spot:={ it.spot with place:=y } } }):=R3.out.putIt HIV.out HAT.out (j:=3) (by omega) rfl ⟨rfl,rfl⟩
       have F4:Hid (Fr r.own w (W3.setCell ⟨ig,k*5+3,none⟩ (.int .i64 y))):=F3.out.setCell (p:=⟨ig,k*5+3,none⟩) (Rx.own_i (by rw [HIV.out];rfl)) _
       rw [ha] at a4 k4
       have i1:((q':Int)+(pc:Int))<(pl:Int):=by omega
       clear HE Q4 Q5 HLC L3 R3 F3 ha
       go_wp2_with fail
       go_region
       go_wp2_with fail
       go_roundw
       case rel=>exact ⟨k+1,hkl,by go_num,by
        have hs:=HSET.out
        rw [HEE.out] at hs
        rw [← Rx.left_set hs]
        exact R4.out.drew,F4.out.drew⟩
       case measure=>simp [intOf];omega
      ·have HEE:Hid (it.leave r.N s c={ it with spot:={ it.spot with place:=(P r.N K it.spot.root).getD (q'-1) 0,ahead:=false } }):=Q5.out (fun e=>hlt e.2)
       have cl:=HLC.out (q'-1) (by omega)
       generalize (P r.N K it.spot.root).getD (q'-1) 0=y at *
       have R4:Hid (RefOK (W3.setCell ⟨ig,k*5+4,none⟩ (.bool false)) { r.left s c k with il:=(r.left s c k).il.set k { it with spot:={ it.spot with ahead:=false } } }):=R3.out.putIt HIV.out HAT.out (j:=4) (by omega) rfl ⟨rfl,rfl⟩
       have F4:Hid (Fr r.own w (W3.setCell ⟨ig,k*5+4,none⟩ (.bool false))):=F3.out.setCell (p:=⟨ig,k*5+4,none⟩) (Rx.own_i (by rw [HIV.out];rfl)) _
       have hat2:((r.left s c k).il.set k { it with spot:={ it.spot with ahead:=false } })[k]?=some { it with spot:={ it.spot with ahead:=false } }:=by
        rw [List.getElem?_set,if_pos rfl,if_pos (List.getElem?_eq_some_iff.1 HAT.out).1]
       have R5:=R4.out.putIt HIV.out hat2 (j:=3) (it':={ it with spot:={ it.spot with place:=y,ahead:=false } }) (v:=.int .i64 y) (by omega) rfl ⟨rfl,rfl⟩
       rw [List.set_set] at R5
       have R6:Hid (RefOK ((W3.setCell ⟨ig,k*5+4,none⟩ (.bool false)).setCell ⟨ig,k*5+3,none⟩ (.int .i64 y)) { r.left s c k with il:=(r.left s c k).il.set k { it with spot:={ it.spot with place:=y,ahead:=false } } }):=R5
       have F6:Hid (Fr r.own w ((W3.setCell ⟨ig,k*5+4,none⟩ (.bool false)).setCell ⟨ig,k*5+3,none⟩ (.int .i64 y))):=F4.out.setCell (p:=⟨ig,k*5+3,none⟩) (Rx.own_i (by rw [HIV.out];rfl)) _
       have c2':(W3.setCell ⟨ig,k*5+4,none⟩ (.bool false)).cell? ⟨r.rb,2,none⟩=some (.slice (some ⟨ig,0,none⟩) r.il.length icap):=by rw [← HIV.out];exact R4.out.c2
       have k3':(W3.setCell ⟨ig,k*5+4,none⟩ (.bool false)).cell? ⟨ig,k*5+3,none⟩=some (.int .i64 it.spot.place):=R4.out.itCell (it:={ it with spot:={ it.spot with ahead:=false } }) HIV.out hat2 (j:=3) (by omega)
       have f3':∀ j,(W3.setCell ⟨ig,k*5+4,none⟩ (.bool false)).frozen? ⟨ig,j,none⟩=false:=R4.out.ifree HIV.out
       have hlg:lg≠ig:=by
        intro e
        obtain ⟨cs1,h1⟩:=row_block L3.out rfl
        have h2:=R3.out.its
        rw [show (r.left s c k).iv=r.iv from rfl,HIV.out] at h2
        exact row_ne h2 h1 (by decide) (by rw [e];rfl)
       have cl':(W3.setCell ⟨ig,k*5+4,none⟩ (.bool false)).cell? ⟨lg,q'-1,none⟩=some (.int .i64 (y:Nat)):=(World.cell?_of_block (w:=W3) (Below.heap_setCell _ _ _ _ hlg)).trans cl
       rw [ha] at a4 k4
       have i1:((q':Int)-1)<(pl:Int):=by omega
       have i2:0≤((q':Int)-1):=by omega
       have hlt':decide ((q':Int)+(pc:Int)<(pl:Int))=false:=by simp;omega
       clear hlt
       clear Q4 Q5 HLC L3 R3 F3 R4 F4 R5 hat2 cl
       go_wp2_with fail
       clear a4 k3 k4 c2 f3
       generalize W3.setCell ⟨ig,k*5+4,none⟩ (.bool false)=W6 at *
       go_region
       go_wp2_with fail
       go_roundw
       case rel=>exact ⟨k+1,hkl,by go_num,by
        have hs:=HSET.out
        rw [HEE.out] at hs
        rw [← Rx.left_set hs]
        exact R6.out.drew,F6.out.drew⟩
       case measure=>simp [intOf];omega
     ·have ha':it.spot.ahead=false:=by simpa using ha
      have HEE:Hid (it.leave r.N s c={ it with spot:={ it.spot with place:=(P r.N K it.spot.root).getD (q'-1) 0,ahead:=false } }):=Q5.out (fun e=>ha e.1)
      have cl:=HLC.out (q'-1) (by omega)
      generalize (P r.N K it.spot.root).getD (q'-1) 0=y at *
      have R4:Hid (RefOK (W3.setCell ⟨ig,k*5+4,none⟩ (.bool false)) { r.left s c k with il:=(r.left s c k).il.set k { it with spot:={ it.spot with ahead:=false } } }):=R3.out.putIt HIV.out HAT.out (j:=4) (by omega) rfl ⟨rfl,rfl⟩
      have F4:Hid (Fr r.own w (W3.setCell ⟨ig,k*5+4,none⟩ (.bool false))):=F3.out.setCell (p:=⟨ig,k*5+4,none⟩) (Rx.own_i (by rw [HIV.out];rfl)) _
      have hat2:((r.left s c k).il.set k { it with spot:={ it.spot with ahead:=false } })[k]?=some { it with spot:={ it.spot with ahead:=false } }:=by
       rw [List.getElem?_set,if_pos rfl,if_pos (List.getElem?_eq_some_iff.1 HAT.out).1]
      have R5:=R4.out.putIt HIV.out hat2 (j:=3) (it':={ it with spot:={ it.spot with place:=y,ahead:=false } }) (v:=.int .i64 y) (by omega) rfl ⟨rfl,rfl⟩
      rw [List.set_set] at R5
      have R6:Hid (RefOK ((W3.setCell ⟨ig,k*5+4,none⟩ (.bool false)).setCell ⟨ig,k*5+3,none⟩ (.int .i64 y)) { r.left s c k with il:=(r.left s c k).il.set k { it with spot:={ it.spot with place:=y,ahead:=false } } }):=R5
      have F6:Hid (Fr r.own w ((W3.setCell ⟨ig,k*5+4,none⟩ (.bool false)).setCell ⟨ig,k*5+3,none⟩ (.int .i64 y))):=F4.out.setCell (p:=⟨ig,k*5+3,none⟩) (Rx.own_i (by rw [HIV.out];rfl)) _
      have c2':(W3.setCell ⟨ig,k*5+4,none⟩ (.bool false)).cell? ⟨r.rb,2,none⟩=some (.slice (some ⟨ig,0,none⟩) r.il.length icap):=by rw [← HIV.out];exact R4.out.c2
      have k3':(W3.setCell ⟨ig,k*5+4,none⟩ (.bool false)).cell? ⟨ig,k*5+3,none⟩=some (.int .i64 it.spot.place):=R4.out.itCell (it:={ it with spot:={ it.spot with ahead:=false } }) HIV.out hat2 (j:=3) (by omega)
      have f3':∀ j,(W3.setCell ⟨ig,k*5+4,none⟩ (.bool false)).frozen? ⟨ig,j,none⟩=false:=R4.out.ifree HIV.out
      have hlg:lg≠ig:=by
       intro e
       obtain ⟨cs1,h1⟩:=row_block L3.out rfl
       have h2:=R3.out.its
       rw [show (r.left s c k).iv=r.iv from rfl,HIV.out] at h2
       exact row_ne h2 h1 (by decide) (by rw [e];rfl)
      have cl':(W3.setCell ⟨ig,k*5+4,none⟩ (.bool false)).cell? ⟨lg,q'-1,none⟩=some (.int .i64 (y:Nat)):=(World.cell?_of_block (w:=W3) (Below.heap_setCell _ _ _ _ hlg)).trans cl
      rw [ha'] at a4 k4
      have i1:((q':Int)-1)<(pl:Int):=by omega
      have i2:0≤((q':Int)-1):=by omega
      clear ha
      clear Q4 Q5 HLC L3 R3 F3 R4 F4 R5 hat2 cl
      go_wp2_with fail
      clear a4 k3 k4 c2 f3
      generalize W3.setCell ⟨ig,k*5+4,none⟩ (.bool false)=W6 at *
      go_region
      go_wp2_with fail
      go_roundw
      case rel=>exact ⟨k+1,hkl,by go_num,by
       have hs:=HSET.out
       rw [HEE.out] at hs
       rw [← Rx.left_set hs]
       exact R6.out.drew,F6.out.drew⟩
      case measure=>simp [intOf];omega
  ·have e1:r.il.length=k:=by omega
   subst e1
   have E1:Hid (r.left s c r.il.length={ r with il:=r.il.map (It.leave r.N s c) }):=by show r.left s c r.il.length=_;unfold Rx.left;rw [leftTo_all]
   go_wp2_with fail
   go_end0
   exact ⟨rfl,by rw [← E1.out];exact HR.out,HF.out⟩
end
end Go.Proofs.YtcedebpoihcbdaaGreatDoor
