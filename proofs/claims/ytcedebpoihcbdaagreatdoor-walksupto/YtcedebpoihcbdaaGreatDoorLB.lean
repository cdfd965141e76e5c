/-
  The library's functions that the element's classes are told by: laid at this dump.
  An element's attributes as a map in memory: what it holds, looked up, set, and taken away.
  strings.Split at a blank, and the element's classes.
  A live list in memory, and what its wants tells of a node.
-/
import Derived.Ground.NamesProg
import Derived.Shelf.Strings.SplitCore
import Derived.Shelf.Strings.Search3
import Derived.Shelf.Strings.Count
import Derived.Shelf.Slices.Turned
import Derived.Lib.SplitLaws
import Derived.MapKept
import Derived.Test.YtcedebpoihcbdaaGreatDoorYA
set_option maxHeartbeats 1000000
set_option maxRecDepth 100000
namespace Go.Proofs
open Go.Shelf
def Tryz.lays221_ren:Go.Shelf.Ren:=⟨fun | 221=>198 | 268=>199 | 138=>200 | 143=>123 | 195=>201 | 197=>202 | 218=>203 | 219=>166 | 260=>204 | 217=>182 | 225=>183 | 224=>184 | 267=>185 | 266=>193 | 314=>194 | n=>n,fun | 9=>9 | 3=>3 | 31=>127 | 4=>4 | 0=>0 | 105=>235 | 21=>21 | 5=>5 | 46=>223 | 119=>237 | 139=>240 | 138=>239 | 146=>228 | 51=>227 | n=>n,fun | 1=>0 | 3=>1 | 4=>2 | n=>n⟩
theorem Tryz.lays221:Go.Proofs.Lays.n221 Tryz.prog Tryz.lays221_ren:={
 mixed:=by kernel_rfl
 f138:=Tryz.func200.trans (congrArg some (by kernel_rfl))
 f143:=Tryz.func123.trans (congrArg some (by kernel_rfl))
 f195:=Tryz.func201.trans (congrArg some (by kernel_rfl))
 f197:=Tryz.func202.trans (congrArg some (by kernel_rfl))
 f217:=Tryz.func182.trans (congrArg some (by kernel_rfl))
 f218:=Tryz.func203.trans (congrArg some (by kernel_rfl))
 f219:=Tryz.func166.trans (congrArg some (by kernel_rfl))
 f221:=Tryz.func198.trans (congrArg some (by kernel_rfl))
 f224:=Tryz.func184.trans (congrArg some (by kernel_rfl))
 f225:=Tryz.func183.trans (congrArg some (by kernel_rfl))
 f260:=Tryz.func204.trans (congrArg some (by kernel_rfl))
 f266:=Tryz.func193.trans (congrArg some (by kernel_rfl))
 f267:=Tryz.func185.trans (congrArg some (by kernel_rfl))
 f268:=Tryz.func199.trans (congrArg some (by kernel_rfl))
 f314:=Tryz.func194.trans (congrArg some (by kernel_rfl))
 t0:=Tryz.underlying0
 a0:=Tryz.isAgg0
 z0:=Tryz.sizeOf0
 v0:=Tryz.zeroValue0
 t3:=Tryz.underlying3
 a3:=Tryz.isAgg3
 z3:=Tryz.sizeOf3
 v3:=Tryz.zeroValue3
 t4:=Tryz.underlying4
 a4:=Tryz.isAgg4
 z4:=Tryz.sizeOf4
 v4:=Tryz.zeroValue4
 t5:=Tryz.underlying5
 a5:=Tryz.isAgg5
 z5:=Tryz.sizeOf5
 v5:=Tryz.zeroValue5
 t9:=Tryz.underlying9
 a9:=Tryz.isAgg9
 z9:=Tryz.sizeOf9
 v9:=Tryz.zeroValue9
 t21:=Tryz.underlying21
 a21:=Tryz.isAgg21
 z21:=Tryz.sizeOf21
 v21:=Tryz.zeroValue21
 t31:=Tryz.underlying127
 a31:=Tryz.isAgg127
 z31:=Tryz.sizeOf127
 v31:=Tryz.zeroValue127
 t46:=Tryz.underlying223
 a46:=Tryz.isAgg223
 z46:=Tryz.sizeOf223
 v46:=Tryz.zeroValue223
 t51:=Tryz.underlying227
 a51:=Tryz.isAgg227
 z51:=Tryz.sizeOf227
 v51:=Tryz.zeroValue227
 t105:=Tryz.underlying235
 a105:=Tryz.isAgg235
 z105:=Tryz.sizeOf235
 v105:=Tryz.zeroValue235
 t119:=Tryz.underlying237
 a119:=Tryz.isAgg237
 z119:=Tryz.sizeOf237
 t138:=Tryz.underlying239
 a138:=Tryz.isAgg239
 z138:=Tryz.sizeOf239
 v138:=Tryz.zeroValue239
 t139:=Tryz.underlying240
 a139:=Tryz.isAgg240
 z139:=Tryz.sizeOf240
 v139:=Tryz.zeroValue240
 t146:=Tryz.underlying228
 a146:=Tryz.isAgg228
 z146:=Tryz.sizeOf228
 v146:=Tryz.zeroValue228
 g1:=by kernel_rfl
 g3:=by kernel_rfl
 g4:=by kernel_rfl }
def Tryz.lays146_ren:Go.Shelf.Ren:=⟨fun | 146=>196 | 221=>198 | 268=>199 | 138=>200 | 143=>123 | 195=>201 | 197=>202 | 218=>203 | 219=>166 | 260=>204 | 217=>182 | 225=>183 | 224=>184 | 267=>185 | 266=>193 | 314=>194 | n=>n,fun | 9=>9 | 31=>127 | 3=>3 | 4=>4 | 0=>0 | 105=>235 | 21=>21 | 5=>5 | 46=>223 | 119=>237 | 139=>240 | 138=>239 | 146=>228 | 51=>227 | n=>n,fun | 1=>0 | 3=>1 | 4=>2 | n=>n⟩
theorem Tryz.lays146:Go.Proofs.Lays.n146 Tryz.prog Tryz.lays146_ren:={
 mixed:=by kernel_rfl
 f138:=Tryz.func200.trans (congrArg some (by kernel_rfl))
 f143:=Tryz.func123.trans (congrArg some (by kernel_rfl))
 f146:=Tryz.func196.trans (congrArg some (by kernel_rfl))
 f195:=Tryz.func201.trans (congrArg some (by kernel_rfl))
 f197:=Tryz.func202.trans (congrArg some (by kernel_rfl))
 f217:=Tryz.func182.trans (congrArg some (by kernel_rfl))
 f218:=Tryz.func203.trans (congrArg some (by kernel_rfl))
 f219:=Tryz.func166.trans (congrArg some (by kernel_rfl))
 f221:=Tryz.func198.trans (congrArg some (by kernel_rfl))
 f224:=Tryz.func184.trans (congrArg some (by kernel_rfl))
 f225:=Tryz.func183.trans (congrArg some (by kernel_rfl))
 f260:=Tryz.func204.trans (congrArg some (by kernel_rfl))
 f266:=Tryz.func193.trans (congrArg some (by kernel_rfl))
 f267:=Tryz.func185.trans (congrArg some (by kernel_rfl))
 f268:=Tryz.func199.trans (congrArg some (by kernel_rfl))
 f314:=Tryz.func194.trans (congrArg some (by kernel_rfl))
 t0:=Tryz.underlying0
 a0:=Tryz.isAgg0
 z0:=Tryz.sizeOf0
 v0:=Tryz.zeroValue0
 t3:=Tryz.underlying3
 a3:=Tryz.isAgg3
 z3:=Tryz.sizeOf3
 v3:=Tryz.zeroValue3
 t4:=Tryz.underlying4
 a4:=Tryz.isAgg4
 z4:=Tryz.sizeOf4
 v4:=Tryz.zeroValue4
 t5:=Tryz.underlying5
 a5:=Tryz.isAgg5
 z5:=Tryz.sizeOf5
 v5:=Tryz.zeroValue5
 t9:=Tryz.underlying9
 a9:=Tryz.isAgg9
 z9:=Tryz.sizeOf9
 v9:=Tryz.zeroValue9
 t21:=Tryz.underlying21
 a21:=Tryz.isAgg21
 z21:=Tryz.sizeOf21
 v21:=Tryz.zeroValue21
 t31:=Tryz.underlying127
 a31:=Tryz.isAgg127
 z31:=Tryz.sizeOf127
 v31:=Tryz.zeroValue127
 t46:=Tryz.underlying223
 a46:=Tryz.isAgg223
 z46:=Tryz.sizeOf223
 v46:=Tryz.zeroValue223
 t51:=Tryz.underlying227
 a51:=Tryz.isAgg227
 z51:=Tryz.sizeOf227
 v51:=Tryz.zeroValue227
 t105:=Tryz.underlying235
 a105:=Tryz.isAgg235
 z105:=Tryz.sizeOf235
 v105:=Tryz.zeroValue235
 t119:=Tryz.underlying237
 a119:=Tryz.isAgg237
 z119:=Tryz.sizeOf237
 t138:=Tryz.underlying239
 a138:=Tryz.isAgg239
 z138:=Tryz.sizeOf239
 v138:=Tryz.zeroValue239
 t139:=Tryz.underlying240
 a139:=Tryz.isAgg240
 z139:=Tryz.sizeOf240
 v139:=Tryz.zeroValue240
 t146:=Tryz.underlying228
 a146:=Tryz.isAgg228
 z146:=Tryz.sizeOf228
 v146:=Tryz.zeroValue228
 g1:=by kernel_rfl
 g3:=by kernel_rfl
 g4:=by kernel_rfl }
def Tryz.lays110_ren:Go.Shelf.Ren:=⟨fun | 110=>195 | 109=>197 | n=>n,fun | 31=>127 | 9=>9 | 4=>4 | 3=>3 | 0=>0 | n=>n,fun | n=>n⟩
theorem Tryz.lays110:Go.Proofs.Lays.n110 Tryz.prog Tryz.lays110_ren:={
 mixed:=by kernel_rfl
 f109:=Tryz.func197.trans (congrArg some (by kernel_rfl))
 f110:=Tryz.func195.trans (congrArg some (by kernel_rfl))
 t0:=Tryz.underlying0
 a0:=Tryz.isAgg0
 z0:=Tryz.sizeOf0
 v0:=Tryz.zeroValue0
 t3:=Tryz.underlying3
 a3:=Tryz.isAgg3
 z3:=Tryz.sizeOf3
 v3:=Tryz.zeroValue3
 t4:=Tryz.underlying4
 a4:=Tryz.isAgg4
 z4:=Tryz.sizeOf4
 v4:=Tryz.zeroValue4
 t9:=Tryz.underlying9
 a9:=Tryz.isAgg9
 z9:=Tryz.sizeOf9
 v9:=Tryz.zeroValue9
 t31:=Tryz.underlying127
 a31:=Tryz.isAgg127
 z31:=Tryz.sizeOf127
 v31:=Tryz.zeroValue127 }
def Tryz.lays144_ren:Go.Shelf.Ren:=⟨fun | 144=>80 | 143=>123 | 219=>166 | 217=>182 | 225=>183 | 224=>184 | 267=>185 | 266=>193 | 314=>194 | n=>n,fun | 9=>9 | 4=>4 | 3=>3 | 5=>5 | 46=>223 | 146=>228 | 51=>227 | n=>n,fun | 1=>0 | n=>n⟩
theorem Tryz.lays144:Go.Proofs.Lays.n144 Tryz.prog Tryz.lays144_ren:={
 mixed:=by kernel_rfl
 f143:=Tryz.func123.trans (congrArg some (by kernel_rfl))
 f144:=Tryz.func80.trans (congrArg some (by kernel_rfl))
 f217:=Tryz.func182.trans (congrArg some (by kernel_rfl))
 f219:=Tryz.func166.trans (congrArg some (by kernel_rfl))
 f224:=Tryz.func184.trans (congrArg some (by kernel_rfl))
 f225:=Tryz.func183.trans (congrArg some (by kernel_rfl))
 f266:=Tryz.func193.trans (congrArg some (by kernel_rfl))
 f267:=Tryz.func185.trans (congrArg some (by kernel_rfl))
 f314:=Tryz.func194.trans (congrArg some (by kernel_rfl))
 t3:=Tryz.underlying3
 a3:=Tryz.isAgg3
 z3:=Tryz.sizeOf3
 v3:=Tryz.zeroValue3
 t4:=Tryz.underlying4
 a4:=Tryz.isAgg4
 z4:=Tryz.sizeOf4
 v4:=Tryz.zeroValue4
 t5:=Tryz.underlying5
 a5:=Tryz.isAgg5
 z5:=Tryz.sizeOf5
 v5:=Tryz.zeroValue5
 t9:=Tryz.underlying9
 a9:=Tryz.isAgg9
 z9:=Tryz.sizeOf9
 v9:=Tryz.zeroValue9
 t46:=Tryz.underlying223
 a46:=Tryz.isAgg223
 z46:=Tryz.sizeOf223
 v46:=Tryz.zeroValue223
 t51:=Tryz.underlying227
 a51:=Tryz.isAgg227
 z51:=Tryz.sizeOf227
 v51:=Tryz.zeroValue227
 t146:=Tryz.underlying228
 a146:=Tryz.isAgg228
 z146:=Tryz.sizeOf228
 v146:=Tryz.zeroValue228
 g1:=by kernel_rfl }
theorem Tryz.hi221:(Tryz.prog.info? (Tryz.lays221_ren.t 9)).map (fun i=>(i.zero,i.size,i.bytes))=some (some (.string ByteArray.empty),1,16):=by kernel_rfl
end Go.Proofs
namespace Go.Proofs.YtcedebpoihcbdaaGreatDoor
open Go.RowKit Go.MapKept Gv
def Att (w:World) (mb:Nat) (A:ByteArray→Option ByteArray):Prop :=
 ∃ es clock,w.heap[mb]?=some (.map es clock)∧(es.toList.map (·.key)).Nodup∧(∀ x,x∈es.toList→∃ k v,x.key=.string k∧x.val=.agg #[.string v]∧A k=some v)∧∀ k v,A k=some v→∃ x,x∈es.toList∧x.key=.string k∧x.val=.agg #[.string v]
def noAtt:ByteArray→Option ByteArray:=fun _=>none
def setAtt (A:ByteArray→Option ByteArray) (k v:ByteArray):ByteArray→Option ByteArray:=fun x=>if x=k then some v else A x
def unsetAtt (A:ByteArray→Option ByteArray) (k:ByteArray):ByteArray→Option ByteArray:=fun x=>if x=k then none else A x
theorem Att.lt {w:World} {mb:Nat} {A:ByteArray→Option ByteArray} (h:Att w mb A):mb<w.heap.size:=by
 obtain ⟨es,c,h1,_⟩:=h;exact lt_of_block h1
theorem Att.same {w w':World} {mb:Nat} {A:ByteArray→Option ByteArray} (h:Att w mb A) (hb:w'.heap[mb]?=w.heap[mb]?):Att w' mb A:=by
 obtain ⟨es,c,h1,h2⟩:=h;exact ⟨es,c,hb.trans h1,h2⟩
theorem Att.since {w w':World} {mb:Nat} {A:ByteArray→Option ByteArray} (h:Att w mb A) (hb:Below w.heap.size w w'):Att w' mb A:=h.same (hb.block _ h.lt)
theorem Att.fr {S:Nat→Prop} {w w':World} {mb:Nat} {A:ByteArray→Option ByteArray} (h:Att w mb A) (hf:Fr S w w') (hS:∀ i es c,S i→w.heap[i]?≠some (.map es c)):Att w' mb A:=by
 obtain ⟨es,c,h1,h2⟩:=h
 exact ⟨es,c,(hf.block _ (lt_of_block h1) (fun hs=>hS _ _ _ hs h1)).trans h1,h2⟩
theorem att_new {w:World} {mb:Nat} (h:w.heap[mb]?=some (.map #[] 0)):Att w mb noAtt:=⟨#[],0,h,by simp,by simp,by intro k v hk;cases hk⟩
theorem key_str {k k':ByteArray} (h:Value.string k=.string k'):k=k':=by injection h
section
variable {P:Program} {w:World} {mb:Nat} {A:ByteArray→Option ByteArray} {mty kt et:TypeId}
theorem Att.find (h:Att w mb A) (k:ByteArray):∃ es clock,w.heap[mb]?=some (.map es clock) ∧
  ((A k=none∧Instr.findNow .string (.string k) es.toList 0=some none∧∀ x,x∈es.toList→x.key≠.string k)∨∃ v j e,A k=some v∧Instr.findNow .string (.string k) es.toList 0=some (some (j,.agg #[.string v]))∧es[j]?=some e∧e.key=.string k):=by
 obtain ⟨es,c,h1,h2,h3,h4⟩:=h
 refine ⟨es,c,h1,?_⟩
 have hks:∀ x,x∈es.toList→IsKey .string x.key:=fun x hx=>by obtain ⟨k,v,e,_⟩:=h3 x hx;rw [e];trivial
 rcases findNow_spec (d:=.string) (k:=.string k) trivial es.toList 0 hks with ⟨f1,f2⟩ | ⟨j,e,f1,f2,f3⟩
 ·refine .inl ⟨?_,f1,f2⟩
  cases hA:A k with
  | none=>rfl
  | some v =>
   obtain ⟨x,hx,hk,_⟩:=h4 k v hA
   exact absurd hk (f2 x hx)
 ·obtain ⟨k',v,e1,e2,e3⟩:=h3 e (List.mem_of_getElem? f2)
  obtain rfl:k'=k:=key_str (e1.symm.trans f3)
  refine .inr ⟨v,j,e,e3,?_,by simpa using f2,f3⟩
  rw [f1,e2,Nat.zero_add]
theorem Att.lookup (h:Att w mb A) (hm:P.underlying mty=some (.map kt et)) (hk:P.underlying kt=some .string) {z:ByteArray} (hz:∀ w,(zeroValue et).run P w=.ok (.agg #[.string z]) w) (k:ByteArray) :
  (Instr.lookup mty (.map (some mb)) (.string k) false).run P w=.ok (.agg #[.string ((A k).getD z)]) w ∧
  (Instr.lookup mty (.map (some mb)) (.string k) true).run P w=.ok (.tuple #[.agg #[.string ((A k).getD z)],.bool (A k).isSome]) w:=by
 obtain ⟨es,c,hb,hf⟩:=h.find k
 have hc:∀ e,(Instr.checkKey e 10000 kt (.string k)).run P w=.ok () w:=fun e=>run_checkKey (d:=.string) (k:=.string k) hk trivial e 9999
 rcases hf with ⟨hA,hf,-⟩ | ⟨v,j,e,hA,hf,-,-⟩
 ·simp [Instr.lookup,run_underlying hm,MapKept.run_getObj_map hb,hc,run_findKey hk hf,hz,hA,Result.andThen]
 ·simp [Instr.lookup,run_underlying hm,MapKept.run_getObj_map hb,hc,run_findKey hk hf,hA,Result.andThen]
theorem fr_put {w:World} {mb:Nat} (o:Obj):Fr (fun i=>i=mb) w { w with heap:=w.heap.setIfInBounds mb o } :=
 ⟨rfl,rfl,rfl,by simp,fun i _ hi=>by simp [Ne.symm hi]⟩
theorem nodup_at {l:List MapEntry} (h:(l.map (·.key)).Nodup) {i j:Nat} {x y:MapEntry} (hx:l[i]?=some x) (hy:l[j]?=some y) (e:x.key=y.key):i=j:=by
 have h1:=List.pairwise_iff_getElem.1 h
 obtain ⟨hi,ei⟩:=List.getElem?_eq_some_iff.1 hx
 obtain ⟨hj,ej⟩:=List.getElem?_eq_some_iff.1 hy
 rcases Nat.lt_trichotomy i j with hlt | rfl | hlt
 ·have h2:=h1 i j (by simpa using hi) (by simpa using hj) hlt
  simp [ei,ej,e] at h2
 ·rfl
 ·have h2:=h1 j i (by simpa using hj) (by simpa using hi) hlt
  simp [ei,ej,e] at h2
theorem Att.update (h:Att w mb A) (hm:P.underlying mty=some (.map kt et)) (hk:P.underlying kt=some .string) (k v:ByteArray) :
  ∃ w',(Instr.mapUpdate mty (.map (some mb)) (.string k) (.agg #[.string v])).run P w=.ok () w'∧Att w' mb (setAtt A k v)∧Fr (fun i=>i=mb) w w':=by
 obtain ⟨es,c,hb,hn,h3,h4⟩:=h
 have hks:∀ x,x∈es.toList→IsKey .string x.key:=fun x hx=>by obtain ⟨k,v,e,_⟩:=h3 x hx;rw [e];trivial
 have hc:∀ e,(Instr.checkKey e 10000 kt (.string k)).run P w=.ok () w:=fun e=>run_checkKey (d:=.string) (k:=.string k) hk trivial e 9999
 rcases findNow_spec (d:=.string) (k:=.string k) trivial es.toList 0 hks with ⟨f1,f2⟩ | ⟨j,e,f1,f2,f3⟩
 ·refine ⟨_,by simp [Instr.mapUpdate,run_underlying hm,MapKept.run_getObj_map hb,hc,run_findKey hk f1,MapKept.run_setObj_map _ hb,Result.andThen];rfl,⟨_,_,(heap_set hb).1,?_,?_,?_⟩,fr_put _⟩
  ·simp only [Array.toList_push,List.map_append,List.map_cons,List.map_nil]
   refine List.nodup_append.2 ⟨hn,by simp,?_⟩
   intro a ha b hb'
   simp only [List.mem_singleton] at hb'
   subst hb'
   obtain ⟨x,hx,rfl⟩:=List.mem_map.1 ha
   exact f2 x hx
  ·intro x hx
   simp only [Array.toList_push,List.mem_append,List.mem_singleton] at hx
   rcases hx with hx | rfl
   ·obtain ⟨k',v',e1,e2,e3⟩:=h3 x hx
    refine ⟨k',v',e1,e2,?_⟩
    have:k'≠k:=fun e=>f2 x hx (by rw [e1,e])
    simp [setAtt,this,e3]
   ·exact ⟨k,v,rfl,rfl,by simp [setAtt]⟩
  ·intro k' v' hA
   by_cases e:k'=k
   ·subst e
    simp only [setAtt,if_true] at hA
    cases hA
    exact ⟨⟨.string k',.agg #[.string v],c⟩,by simp,rfl,rfl⟩
   ·simp only [setAtt,if_neg e] at hA
    obtain ⟨x,hx,e1,e2⟩:=h4 k' v' hA
    exact ⟨x,by simp [hx],e1,e2⟩
 ·have hj:es[j]?=some e:=by simpa using f2
  refine ⟨_,by simp [Instr.mapUpdate,run_underlying hm,MapKept.run_getObj_map hb,hc,run_findKey hk f1,hj,f3,run_keyThatStays (d:=.string) (k:=.string k) trivial,MapKept.run_setObj_map _ hb,Result.andThen];rfl,⟨_,_,(heap_set hb).1,?_,?_,?_⟩,fr_put _⟩
  ·rw [modify_keys j _ (fun e' he'=>by rw [hj] at he';cases he';exact f3.symm)]
   exact hn
  ·intro x hx
   obtain ⟨i,hi⟩:=List.getElem?_of_mem hx
   rw [Array.getElem?_toList,Array.getElem?_modify] at hi
   by_cases e':j=i
   ·subst e'
    simp only [if_true,hj,Option.map_some,Option.some.injEq] at hi
    subst hi
    exact ⟨k,v,rfl,rfl,by simp [setAtt]⟩
   ·simp only [if_neg e'] at hi
    have hi':es.toList[i]?=some x:=by simpa using hi
    obtain ⟨k',v',e1,e2,e3⟩:=h3 x (List.mem_of_getElem? hi')
    refine ⟨k',v',e1,e2,?_⟩
    have:k'≠k:=fun e0=>e' (nodup_at hn f2 hi' (by rw [f3,e1,e0]))
    simp [setAtt,this,e3]
  ·intro k' v' hA
   by_cases e0:k'=k
   ·subst e0
    simp only [setAtt,if_true] at hA
    cases hA
    refine ⟨{ e with key:=.string k',val:=.agg #[.string v] },?_,rfl,rfl⟩
    refine List.mem_of_getElem? (i:=j) ?_
    rw [Array.getElem?_toList,Array.getElem?_modify,if_pos rfl,hj];rfl
   ·simp only [setAtt,if_neg e0] at hA
    obtain ⟨x,hx,e1,e2⟩:=h4 k' v' hA
    obtain ⟨i,hi⟩:=List.getElem?_of_mem hx
    refine ⟨x,List.mem_of_getElem? (i:=i) ?_,e1,e2⟩
    have hne:j≠i:=fun e'=>by subst e';rw [f2] at hi;cases hi;exact e0 (key_str (e1.symm.trans f3))
    rw [Array.getElem?_toList,Array.getElem?_modify,if_neg hne];simpa using hi
theorem erase_other {l:List MapEntry} {j i:Nat} {x:MapEntry} (hi:l[i]?=some x) (hne:i≠j):x∈l.eraseIdx j:=by
 rw [List.mem_eraseIdx_iff_getElem?]
 exact ⟨i,hne,hi⟩
theorem Att.delete (h:Att w mb A) (hm:P.underlying mty=some (.map kt et)) (hk:P.underlying kt=some .string) (k:ByteArray) (ty kt':TypeId) :
  ∃ w',(Builtin.delete_ #[mty,kt'] ty #[.map (some mb),.string k]).run P w=.ok (.tuple #[]) w'∧Att w' mb (unsetAtt A k)∧Fr (fun i=>i=mb) w w':=by
 obtain ⟨es,c,hb,hn,h3,h4⟩:=h
 have hks:∀ x,x∈es.toList→IsKey .string x.key:=fun x hx=>by obtain ⟨k,v,e,_⟩:=h3 x hx;rw [e];trivial
 have hc:∀ e,(Instr.checkKey e 10000 kt (.string k)).run P w=.ok () w:=fun e=>run_checkKey (d:=.string) (k:=.string k) hk trivial e 9999
 rcases findNow_spec (d:=.string) (k:=.string k) trivial es.toList 0 hks with ⟨f1,f2⟩ | ⟨j,e,f1,f2,f3⟩
 ·refine ⟨_,by simp [Builtin.delete_,run_underlying hm,MapKept.run_getObj_map hb,hc,run_findKey hk f1,MapKept.run_setObj_map _ hb,Result.andThen];rfl,⟨_,_,(heap_set hb).1,hn,?_,?_⟩,fr_put _⟩
  ·intro x hx
   obtain ⟨k',v',e1,e2,e3⟩:=h3 x hx
   refine ⟨k',v',e1,e2,?_⟩
   have:k'≠k:=fun e=>f2 x hx (by rw [e1,e])
   simp [unsetAtt,this,e3]
  ·intro k' v' hA
   by_cases e:k'=k
   ·simp [unsetAtt,e] at hA
   ·simp only [unsetAtt,if_neg e] at hA
    exact h4 k' v' hA
 ·have hjl:j<es.size:=by have:=(List.getElem?_eq_some_iff.1 f2).1;simpa using this
  have hl:(es.eraseIdxIfInBounds j).toList=es.toList.eraseIdx j:=by
   unfold Array.eraseIdxIfInBounds
   rw [dif_pos hjl];simp
  refine ⟨_,by simp [Builtin.delete_,run_underlying hm,MapKept.run_getObj_map hb,hc,run_findKey hk f1,MapKept.run_setObj_map _ hb,Result.andThen];rfl,⟨_,_,(heap_set hb).1,?_,?_,?_⟩,fr_put _⟩
  ·rw [hl]
   exact ((List.eraseIdx_sublist _ _).map _).nodup hn
  ·rw [hl]
   intro x hx
   obtain ⟨i,hne,hi⟩:=List.mem_eraseIdx_iff_getElem?.1 hx
   obtain ⟨k',v',e1,e2,e3⟩:=h3 x (List.mem_of_getElem? hi)
   refine ⟨k',v',e1,e2,?_⟩
   have:k'≠k:=fun e0=>hne (nodup_at hn hi f2 (by rw [f3,e1,e0]))
   simp [unsetAtt,this,e3]
  ·intro k' v' hA
   by_cases e0:k'=k
   ·simp [unsetAtt,e0] at hA
   ·simp only [unsetAtt,if_neg e0] at hA
    obtain ⟨x,hx,e1,e2⟩:=h4 k' v' hA
    obtain ⟨i,hi⟩:=List.getElem?_of_mem hx
    rw [hl]
    refine ⟨x,erase_other hi (fun e'=>?_),e1,e2⟩
    subst e'
    rw [f2] at hi;cases hi
    exact e0 (key_str (e1.symm.trans f3))
end
open Go.RowKit Go.Shelf Gv
def blank:ByteArray:=⟨#[32]⟩
def cut (s:ByteArray):List ByteArray:=Lib.splitB blank 0 (Lib.countB s blank) s
theorem cut_len (s:ByteArray):(cut s).length=Lib.countB s blank+1:=Lib.splitB_all blank (by decide) 0 _ s rfl
theorem splitG (s:ByteArray) (w:World) (hs:s.size<4294967281) :
  Calls Tryz.prog 198 #[.string s,.string ⟨#[32]⟩,.int .i64 0,.int .i64 (-1)] w fun e w'=>e=.returned (.slice (some ⟨w.heap.size,0,none⟩) (Lib.countB s blank+1) (Lib.countB s blank+1))∧w'=w.alloc (.cells ((cut s).map Value.string).toArray 9):=by
 have hle:Lib.countB s blank≤s.size:=Lib.countB_le blank (by decide) s.size s (Nat.le_refl _)
 have hC:Calls Tryz.prog (Tryz.lays221_ren.f 138) #[.string s,.string blank] w fun e w'=>e=.returned (.int .i64 (Lib.countB s blank))∧w'=w:=by
  refine (Any.strings_Count_one { Tryz.lays221 with } s 32 w).mono fun e w' ⟨he,hw⟩=>⟨?_,hw⟩
  rw [he]
  show _=Ending.returned (Value.int .i64 ((Lib.count s.data.toList [32]:Nat):Int))
  rw [Lib.count_one]
  rfl
 have hI:∀ (x:ByteArray) (c:Array Value),x.size≤s.size→Calls Tryz.prog (Tryz.lays221_ren.f 143) #[.string x,.string blank] (w.alloc (.cells c (Tryz.lays221_ren.t 9))) fun e w'=>e=.returned (.int .i64 (Lib.indexB x blank))∧w'=w.alloc (.cells c (Tryz.lays221_ren.t 9)):=by
  intro x c _
  refine (Any.strings_Index_one { Tryz.lays221 with } x 32 _).mono fun e w' ⟨he,hw⟩=>⟨?_,hw⟩
  rw [he]
  show _=Ending.returned (Value.int .i64 (Lib.index x.data.toList [32]))
  rw [Lib.index_one]
 have c:=Any.strings_genSplit_core Tryz.lays221 Tryz.hi221 s blank 0 (-1) (Lib.countB s blank+1) w hs (by decide) (Nat.zero_le _) hI hC (by decide) (by decide) (by rw [if_pos (by decide)];omega)
 have hlen:=cut_len s
 have e1:Lib.splitB blank 0 (Lib.countB s blank+1-1) s=cut s:=rfl
 rw [e1,hlen] at c
 have e2:Lib.cellsOf (cut s) (Lib.countB s blank+1)=((cut s).map Value.string).toArray:=by rw [← hlen];exact Lib.cellsOf_full _
 rw [e2] at c
 exact c
theorem splitC (s:ByteArray) (w:World) (hs:s.size<4294967281) :
  Calls Tryz.prog 196 #[.string s,.string ⟨#[32]⟩] w fun e w'=>e=.returned (.slice (some ⟨w.heap.size,0,none⟩) (Lib.countB s blank+1) (Lib.countB s blank+1))∧w'=w.alloc (.cells ((cut s).map Value.string).toArray 9):=by
 have HS:Hid _:=splitG s w hs
 go_enter Tryz.func196, Tryz.ntmps196
 go_wp2_with fail
 refine Calls.mono HS.out ?_
 rintro e w' ⟨rfl,rfl⟩
 clear HS
 go_wp2_with fail
 go_ret
 exact ⟨rfl,rfl⟩
def inCut (s c:ByteArray):Bool:=Lib.containsS (cut s) c
theorem containsC (s c:ByteArray) (w:World) (hs:s.size<4294967281) :
  Calls Tryz.prog 195 #[.slice (some ⟨w.heap.size,0,none⟩) (Lib.countB s blank+1) (Lib.countB s blank+1),.string c] (w.alloc (.cells ((cut s).map Value.string).toArray 9)) fun e w'=>e=.returned (.bool (inCut s c))∧w'=w.alloc (.cells ((cut s).map Value.string).toArray 9):=by
 have hlen:=cut_len s
 have hle:Lib.countB s blank≤s.size:=Lib.countB_le blank (by decide) s.size s (Nat.le_refl _)
 have h:=Any.slices_Contains_string Tryz.lays110 w.heap.size 0 (Lib.countB s blank+1) (Lib.countB s blank+1) (cut s) c (w.alloc (.cells ((cut s).map Value.string).toArray 9)) (by omega) (by omega) (fun j hj=>by
  rw [World.cell?_alloc_at _ _ _ _ (by simp)]
  simp [List.getD_eq_getElem?_getD,hj])
 rw [List.take_of_length_le (by omega)] at h
 exact h
def strClass:ByteArray:=⟨#[99,108,97,115,115]⟩
def hasCls (A:ByteArray→Option ByteArray) (c:ByteArray):Bool:=if c.toList.isEmpty=true then false else inCut ((A strClass).getD ByteArray.empty) c
theorem fieldAtt (v:ByteArray) (w:World):(Instr.field 193 (.agg #[.string v]) 0).run Tryz.prog w=.ok (.string v) w:=by kernel_rfl
theorem hasClass (eb mb:Nat) (t:ByteArray) (A:ByteArray→Option ByteArray) (c:ByteArray) (w:World) (he:w.heap[eb]?=some (.cells #[.string t,.map (some mb)] 189 (0,0))) (hA:Att w mb A) (hs:((A strClass).getD ByteArray.empty).size<4294967281) :
  Calls Tryz.prog 192 #[.pointer (some ⟨eb,0,none⟩),.string c] w fun e w'=>e=.returned (.bool (hasCls A c))∧Below w.heap.size w w':=by
 have hcell:w.cell? ⟨eb,1,none⟩=some (.map (some mb)):=cells_of he 1
 have hlk:=(hA.lookup (P:=Tryz.prog) (mty:=187) Tryz.underlying187 Tryz.underlying9 Tryz.zeroValue193 strClass).1
 have hlk':(Instr.lookup 187 (.map (some mb)) (.string ⟨#[99,108,97,115,115]⟩) false).run Tryz.prog w=.ok (.agg #[.string ((A strClass).getD ByteArray.empty)]) w:=hlk
 have HC:Hid (hasCls A c=if c.toList.isEmpty=true then false else inCut ((A strClass).getD ByteArray.empty) c):=rfl
 clear hlk hA he
 generalize (A strClass).getD ByteArray.empty=v at *
 have HS:Hid _:=splitC v w hs
 have HN:Hid _:=containsC v c w hs
 have hfd:=fieldAtt v
 by_cases hse:c.toList.isEmpty=true
 ·have HE:Hid (hasCls A c=false):=by show hasCls A c=false;rw [HC.out,if_pos hse]
  clear HC HS HN
  go_enter Tryz.func192, Tryz.ntmps192
  go_wp2_with fail
  go_ret
  exact ⟨by rw [HE.out];rfl,Below.refl _ _⟩
 ·have HE:Hid (hasCls A c=inCut v c):=by show hasCls A c=inCut v c;rw [HC.out,if_neg hse]
  have hse':c.toList.isEmpty=false:=by simpa using hse
  clear HC hse
  go_enter Tryz.func192, Tryz.ntmps192
  go_wp2_with fail
  refine Calls.mono HS.out ?_
  rintro e w1 ⟨rfl,rfl⟩
  clear HS
  go_wp2_with fail
  refine Calls.mono HN.out ?_
  rintro e w1 ⟨rfl,rfl⟩
  clear HN
  go_wp2_with fail
  go_ret
  exact ⟨by rw [HE.out];rfl,(Below.refl _ _).alloc (Nat.le_refl _) _⟩
open Go.RowKit Gv
structure Ats (w:World) (B N:Nat) (kk:Nat→Nat) (mp:Nat→Nat) (A:Nat→ByteArray→Option ByteArray):Prop where
 at_:∀ i,1≤i→i≤N→kk i=2→Att w (mp i) (A i)
 short:∀ i k v,A i k=some v→v.size≤40
 low:∀ i,1≤i→i≤N→kk i=2→B≤mp i
 inj:∀ i j,1≤i→i≤N→1≤j→j≤N→kk i=2→kk j=2→mp i=mp j→i=j
def wantsF (kk:Nat→Nat) (tg:Nat→ByteArray) (A:Nat→ByteArray→Option ByteArray) (how:Nat) (what:ByteArray) (n:Nat):Bool :=
 if how=1 then decide (kk n=2) && ((what.toList == [42]) || (what.toList == (tg n).toList))
 else if how=2 then decide (kk n=2) && hasCls (A n) what
 else if how=3 then decide (kk n=2)
 else true
section
variable {B:Nat} {w w':World} {gb nb cap N:Nat} {kk:Nat→Nat} {tg:Nat→ByteArray} {kd:Nat→Value} {mp:Nat→Nat} {σ:St} {r:Re} {A:Nat→ByteArray→Option ByteArray}
theorem Ats.since (h:Ats w B N kk mp A) (hb:Below w.heap.size w w'):Ats w' B N kk mp A:=⟨fun i h1 h2 h3=>(h.at_ i h1 h2 h3).since hb,h.short,h.low,h.inj⟩
theorem Ats.fr {S:Nat→Prop} (h:Ats w B N kk mp A) (hf:Fr S w w') (hS:∀ i es c,S i→w.heap[i]?≠some (.map es c)):Ats w' B N kk mp A:=⟨fun i h1 h2 h3=>(h.at_ i h1 h2 h3).fr hf hS,h.short,h.low,h.inj⟩
theorem Ats.cls (h:Ats w B N kk mp A) (n:Nat):((A n strClass).getD ByteArray.empty).size<4294967281:=by
 cases e:A n strClass with
 | none=>simp
 | some v=>have:=h.short n _ _ e;simp;omega
theorem wants1 (h:Gro B w gb nb cap N kk tg kd mp σ r) {lb o:Nat} (what:ByteArray) (hh:w.cell? ⟨lb,o+1,none⟩=some (.int .i64 1)) (hw:w.cell? ⟨lb,o+2,none⟩=some (.string what)) (n:Nat) (h1:1≤n) (hn:n≤N) :
  Calls Tryz.prog 177 #[.pointer (some ⟨lb,o,none⟩),.pointer (some ⟨gb,0,none⟩),.int .i64 n] w fun e w'=>e=.returned (.bool (wantsF kk tg A 1 what n))∧Below w.heap.size w w':=by
 have HE:Hid _:=elementF h.held n hn (h.kinds n h1 hn)
 have HEl:Hid (kk n=2→El w B (kd n) (tg n) (mp n)):=h.els n h1 hn
 have HF:Hid (wantsF kk tg A 1 what n=(decide (kk n=2) && ((what.toList == [42]) || (what.toList == (tg n).toList)))):=rfl
 clear h
 go_enter Tryz.func177, Tryz.ntmps177
 go_wp2_with fail
 refine Calls.mono HE.out ?_
 rintro e w1 ⟨rfl,⟨hk,eb,hkd,rfl⟩ | ⟨hk,rfl⟩⟩
 ·have htag:w1.cell? ⟨eb,0,none⟩=some (.string (tg n)):=by
   obtain ⟨eb',e1,e2,-⟩:=HEl.out hk
   rw [hkd] at e1
   simp only [Value.iface.injEq,Value.pointer.injEq,Option.some.injEq,Addr.mk.injEq,and_true,true_and] at e1
   rw [e1]
   exact cells_of e2 0
  have HF2:Hid (wantsF kk tg A 1 what n=((what.toList == [42]) || (what.toList == (tg n).toList))):=by show wantsF kk tg A 1 what n=_;rw [HF.out];simp [hk]
  clear HE HEl HF hk hkd
  by_cases hs:(what.toList == [42])=true
  ·have HF3:Hid (wantsF kk tg A 1 what n=true):=by show wantsF kk tg A 1 what n=true;rw [HF2.out,hs];rfl
   clear HF2
   go_wp2_with fail
   go_region
   go_wp2_with fail
   go_ret
   exact ⟨by rw [HF3.out];rfl,(Below.refl _ _).drew⟩
  ·have hs':(what.toList == [42])=false:=by simpa using hs
   have HF3:Hid (wantsF kk tg A 1 what n=(what.toList == (tg n).toList)):=by show wantsF kk tg A 1 what n=_;rw [HF2.out,hs'];rfl
   clear HF2 hs
   go_wp2_with fail
   go_region
   go_wp2_with fail
   go_ret
   exact ⟨by rw [HF3.out];rfl,(Below.refl _ _).drew⟩
 ·have HF2:Hid (wantsF kk tg A 1 what n=false):=by show wantsF kk tg A 1 what n=_;rw [HF.out];simp [hk]
  clear HE HEl HF hk
  go_wp2_with fail
  go_region
  go_wp2_with fail
  go_ret
  exact ⟨by rw [HF2.out];rfl,(Below.refl _ _).drew⟩
theorem wants2 (h:Gro B w gb nb cap N kk tg kd mp σ r) (hA:Ats w B N kk mp A) {lb o:Nat} (what:ByteArray) (hh:w.cell? ⟨lb,o+1,none⟩=some (.int .i64 2)) (hw:w.cell? ⟨lb,o+2,none⟩=some (.string what)) (n:Nat) (h1:1≤n) (hn:n≤N) :
  Calls Tryz.prog 177 #[.pointer (some ⟨lb,o,none⟩),.pointer (some ⟨gb,0,none⟩),.int .i64 n] w fun e w'=>e=.returned (.bool (wantsF kk tg A 2 what n))∧Below w.heap.size w w':=by
 have HE:Hid _:=elementF h.held n hn (h.kinds n h1 hn)
 have HEl:Hid (kk n=2→El w B (kd n) (tg n) (mp n)):=h.els n h1 hn
 have HF:Hid (wantsF kk tg A 2 what n=(decide (kk n=2) && hasCls (A n) what)):=rfl
 have HA:Hid _:=hA
 clear h hA
 go_enter Tryz.func177, Tryz.ntmps177
 go_wp2_with fail
 refine Calls.mono HE.out ?_
 rintro e w1 ⟨rfl,⟨hk,eb,hkd,rfl⟩ | ⟨hk,rfl⟩⟩
 ·have hel:w1.heap[eb]?=some (.cells #[.string (tg n),.map (some (mp n))] 189 (0,0)):=by
   obtain ⟨eb',e1,e2,-⟩:=HEl.out hk
   rw [hkd] at e1
   simp only [Value.iface.injEq,Value.pointer.injEq,Option.some.injEq,Addr.mk.injEq,and_true,true_and] at e1
   rw [e1]
   exact e2
  have HC:Hid _:=hasClass eb (mp n) (tg n) (A n) what w1 hel (HA.out.at_ n h1 hn hk) (HA.out.cls n)
  have HF2:Hid (wantsF kk tg A 2 what n=hasCls (A n) what):=by show wantsF kk tg A 2 what n=_;rw [HF.out];simp [hk]
  clear HE HEl HF hk hkd hel HA
  go_wp2_with fail
  refine Calls.mono HC.out ?_
  rintro e w2 ⟨rfl,hB⟩
  have HB:Hid _:=hB
  clear HC hB
  go_wp2_with fail
  go_ret
  exact ⟨by rw [HF2.out];rfl,HB.out⟩
 ·have HF2:Hid (wantsF kk tg A 2 what n=false):=by show wantsF kk tg A 2 what n=_;rw [HF.out];simp [hk]
  clear HE HEl HF hk HA
  go_wp2_with fail
  go_ret
  exact ⟨by rw [HF2.out];rfl,Below.refl _ _⟩
theorem wants3 (h:Gro B w gb nb cap N kk tg kd mp σ r) {lb o:Nat} (what:ByteArray) (hh:w.cell? ⟨lb,o+1,none⟩=some (.int .i64 3)) (n:Nat) (h1:1≤n) (hn:n≤N) :
  Calls Tryz.prog 177 #[.pointer (some ⟨lb,o,none⟩),.pointer (some ⟨gb,0,none⟩),.int .i64 n] w fun e w'=>e=.returned (.bool (wantsF kk tg A 3 what n))∧Below w.heap.size w w':=by
 have HE:Hid _:=elementF h.held n hn (h.kinds n h1 hn)
 have HF:Hid (wantsF kk tg A 3 what n=decide (kk n=2)):=rfl
 clear h
 go_enter Tryz.func177, Tryz.ntmps177
 go_wp2_with fail
 refine Calls.mono HE.out ?_
 rintro e w1 ⟨rfl,⟨hk,eb,hkd,rfl⟩ | ⟨hk,rfl⟩⟩
 ·have HF2:Hid (wantsF kk tg A 3 what n=true):=by show wantsF kk tg A 3 what n=_;rw [HF.out];simp [hk]
  clear HE HF hk hkd
  go_wp2_with fail
  go_ret
  exact ⟨by rw [HF2.out];rfl,Below.refl _ _⟩
 ·have HF2:Hid (wantsF kk tg A 3 what n=false):=by show wantsF kk tg A 3 what n=_;rw [HF.out];simp [hk]
  clear HE HF hk
  go_wp2_with fail
  go_ret
  exact ⟨by rw [HF2.out];rfl,Below.refl _ _⟩
theorem wants4 (h:Gro B w gb nb cap N kk tg kd mp σ r) {lb o:Nat} (what:ByteArray) (hh:w.cell? ⟨lb,o+1,none⟩=some (.int .i64 4)) (n:Nat) (h1:1≤n) (hn:n≤N) :
  Calls Tryz.prog 177 #[.pointer (some ⟨lb,o,none⟩),.pointer (some ⟨gb,0,none⟩),.int .i64 n] w fun e w'=>e=.returned (.bool (wantsF kk tg A 4 what n))∧Below w.heap.size w w':=by
 have HE:Hid _:=elementF h.held n hn (h.kinds n h1 hn)
 have HF:Hid (wantsF kk tg A 4 what n=true):=rfl
 clear h
 go_enter Tryz.func177, Tryz.ntmps177
 go_wp2_with fail
 refine Calls.mono HE.out ?_
 rintro e w1 ⟨rfl,⟨hk,eb,hkd,rfl⟩ | ⟨hk,rfl⟩⟩
 all_goals
  clear HE
  go_wp2_with fail
  go_ret
  exact ⟨by rw [HF.out];rfl,Below.refl _ _⟩
theorem wantsC (h:Gro B w gb nb cap N kk tg kd mp σ r) (hA:Ats w B N kk mp A) {lb o:Nat} (how:Nat) (hw4:1≤how∧how≤4) (what:ByteArray) (hh:w.cell? ⟨lb,o+1,none⟩=some (.int .i64 how)) (hw:w.cell? ⟨lb,o+2,none⟩=some (.string what)) (n:Nat) (h1:1≤n) (hn:n≤N) :
  Calls Tryz.prog 177 #[.pointer (some ⟨lb,o,none⟩),.pointer (some ⟨gb,0,none⟩),.int .i64 n] w fun e w'=>e=.returned (.bool (wantsF kk tg A how what n))∧Below w.heap.size w w':=by
 obtain rfl | rfl | rfl | rfl:how=1∨how=2∨how=3∨how=4:=by omega
 ·exact wants1 h what hh hw n h1 hn
 ·exact wants2 h hA what hh hw n h1 hn
 ·exact wants3 h what hh n h1 hn
 ·exact wants4 h what hh n h1 hn
theorem lookFn (h:Gro B w gb nb cap N kk tg kd mp σ r) (hA:Ats w B N kk mp A) {lb o b1 b2:Nat} (how:Nat) (hw4:1≤how∧how≤4) (what:ByteArray) (hh:w.cell? ⟨lb,o+1,none⟩=some (.int .i64 how)) (hw:w.cell? ⟨lb,o+2,none⟩=some (.string what)) (n:Nat) (h1:1≤n) (hn:n≤N)
  (hb1:w.cell? ⟨b1,0,none⟩=some (.pointer (some ⟨lb,o,none⟩))) (hb2:w.cell? ⟨b2,0,none⟩=some (.pointer (some ⟨gb,0,none⟩))) :
  Calls Tryz.prog 176 #[.int .i64 n,.pointer (some ⟨b1,0,none⟩),.pointer (some ⟨b2,0,none⟩)] w fun e w'=>e=.returned (.bool (!wantsF kk tg A how what n))∧Below w.heap.size w w':=by
 have HW:Hid _:=wantsC h hA how hw4 what hh hw n h1 hn
 clear h hA hh hw
 generalize wantsF kk tg A how what n=q at HW ⊢
 go_enter Tryz.func176, Tryz.ntmps176
 go_wp2_with fail
 refine Calls.mono HW.out ?_
 rintro e w2 ⟨rfl,hB⟩
 have HB:Hid _:=hB
 clear HW hB
 go_wp2_with fail
 go_ret
 exact ⟨rfl,HB.out⟩
end
end Go.Proofs.YtcedebpoihcbdaaGreatDoor
