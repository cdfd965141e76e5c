/-
  What makes a list: NewList, and Watch.
  Watch: one list more.
-/
import Derived.Test.YtcedebpoihcbdaaGreatDoorLD
import Derived.Deep.AppendLies
set_option maxHeartbeats 2000000
set_option maxRecDepth 100000
namespace Go.Proofs.YtcedebpoihcbdaaGreatDoor
open Go.RowKit Go.Shelf Gv
def mayAsk (how:Nat) (what:ByteArray):Prop :=
 what.size≤40∧((how=1∧((what.toList == [42])=true∨((what.toList == [42])=false∧nameB what.data.toList=true)))∨(how=2∧what.toList.isEmpty=false∧decide (0≤Lib.indexByte what.data.toList 32)=false)∨how=3∨how=4)
theorem hasBlank (what:ByteArray) (w:World):Calls Tryz.prog 80 #[.string what,.string ⟨#[32]⟩] w fun e w'=>e=.returned (.bool (decide (0≤Lib.indexByte what.data.toList 32)))∧w'=w:=Any.strings_Contains_one Tryz.lays144 what 32 w
theorem newListC (root how:Nat) (what:ByteArray) (w:World) (hm:mayAsk how what) :
  Calls Tryz.prog 41 #[.int .i64 root,.int .i64 how,.string what] w fun e w'=>e=.returned (.tuple #[.agg #[.int .i64 root,.int .i64 how,.string what,.slice none 0 0,.int .i64 0,.int .i64 0],.int .i64 0])∧Below w.heap.size w w':=by
 obtain ⟨hs,⟨rfl,hn | ⟨hs1,hn⟩⟩ | ⟨rfl,he,hb⟩ | rfl | rfl⟩:=hm
 ·go_enter Tryz.func41, Tryz.ntmps41
  go_wp2_with fail
  exact bodyPost_ret (v:=.tuple #[.agg #[.int .i64 root,.int .i64 1,.string what,.slice none 0 0,.int .i64 0,.int .i64 0],.int .i64 0]) (by simp [results,Tryz.results41,go_sem]) rfl ⟨rfl,(Below.refl _ w).alloc (Nat.le_refl _) _⟩
 ·have HB:Hid (nameB what.data.toList=true):=hn
  clear hn
  go_enter Tryz.func41, Tryz.ntmps41
  go_wp2_with fail
  refine (isName what _ (by unfold maxLen;omega)).mono ?_
  rintro e w1 ⟨rfl,rfl⟩
  rw [HB.out]
  go_wp2_with fail
  exact bodyPost_ret (v:=.tuple #[.agg #[.int .i64 root,.int .i64 1,.string what,.slice none 0 0,.int .i64 0,.int .i64 0],.int .i64 0]) (by simp [results,Tryz.results41,go_sem]) rfl ⟨rfl,(Below.refl _ w).alloc (Nat.le_refl _) _⟩
 ·have HB:Hid (decide (0≤Lib.indexByte what.data.toList 32)=false):=hb
  clear hb
  go_enter Tryz.func41, Tryz.ntmps41
  go_wp2_with fail
  refine (hasBlank what _).mono ?_
  rintro e w1 ⟨rfl,rfl⟩
  rw [HB.out]
  go_wp2_with fail
  exact bodyPost_ret (v:=.tuple #[.agg #[.int .i64 root,.int .i64 2,.string what,.slice none 0 0,.int .i64 0,.int .i64 0],.int .i64 0]) (by simp [results,Tryz.results41,go_sem]) rfl ⟨rfl,(Below.refl _ w).alloc (Nat.le_refl _) _⟩
 ·go_enter Tryz.func41, Tryz.ntmps41
  go_wp2_with fail
  exact bodyPost_ret (v:=.tuple #[.agg #[.int .i64 root,.int .i64 3,.string what,.slice none 0 0,.int .i64 0,.int .i64 0],.int .i64 0]) (by simp [results,Tryz.results41,go_sem]) rfl ⟨rfl,(Below.refl _ w).alloc (Nat.le_refl _) _⟩
 ·go_enter Tryz.func41, Tryz.ntmps41
  go_wp2_with fail
  exact bodyPost_ret (v:=.tuple #[.agg #[.int .i64 root,.int .i64 4,.string what,.slice none 0 0,.int .i64 0,.int .i64 0],.int .i64 0]) (by simp [results,Tryz.results41,go_sem]) rfl ⟨rfl,(Below.refl _ w).alloc (Nat.le_refl _) _⟩
theorem Tryz.info77:(Tryz.prog.info? 77).map (fun i=>(i.zero,i.size,i.bytes))=some (some (.agg #[.int .i64 0,.int .i64 0,.string ByteArray.empty,.slice none 0 0,.int .i64 0,.int .i64 0]),6,72):=by kernel_rfl
def Ls.new (root how:Nat) (what:ByteArray):Ls:={ root:=root,how:=how,what:=what,fv:=.slice none 0 0,fd:=[],pl:=0,cl:=0 }
def Re.setLv (r:Re) (v:Value):Re:={ r with lv:=v }
theorem watch_end {w w1 w2:World} {B gb nb cap L g ic:Nat} {s:Fo} {kd:Nat→Value} {r:Re} {ls:List Ls} {x:Ls}
  (h:Held w B gb nb cap L s kd r) (hI:Lss w B r.lv ls) (h50:ls.length<50) (hw1:Fr (fun _=>False) w w1) (hx:x.fv=.slice none 0 0∧x.fd=[])
  (hown:w2.ownsRow B 77 6 (.slice (some ⟨g,0,none⟩) (ls.length+1) ic) (ls.length+1) (ls.flatMap Ls.row++x.row))
  (hgrow:w1.grownBy w2 r.lv.ownBlock) (hat:r.lv.ownBlock=some g∨g=w1.heap.size) :
  Held (w2.setCell ⟨gb,3,none⟩ (.slice (some ⟨g,0,none⟩) (ls.length+1) ic)) B gb nb cap L s kd (r.setLv (.slice (some ⟨g,0,none⟩) (ls.length+1) ic)) ∧
  Lss (w2.setCell ⟨gb,3,none⟩ (.slice (some ⟨g,0,none⟩) (ls.length+1) ic)) B (.slice (some ⟨g,0,none⟩) (ls.length+1) ic) (ls++[x]) ∧
  Fr (fun i=>i=gb∨r.lv.ownBlock=some i) w (w2.setCell ⟨gb,3,none⟩ (.slice (some ⟨g,0,none⟩) (ls.length+1) ic)):=by
 have f2:Fr (fun i=>r.lv.ownBlock=some i) w w2:=(hw1.mono (fun _ h=>h.elim)).trans (Fr.of_grown hgrow (fun k hk=>hk))
 obtain ⟨cur,hn,_⟩:=h.block
 have n1:r.lv.ownBlock≠some gb:=row_apart hI.row h.g (by decide)
 have n2:r.lv.ownBlock≠some nb:=row_apart hI.row hn (by decide)
 have h2:=h.fr f2 n1 n2
 have hne:g≠gb:=by
  rintro rfl
  rcases hat with e | e
  ·exact n1 e
  ·have:=h.ltg;have:=hw1.size;omega
 have f3:Fr (fun i=>i=gb∨r.lv.ownBlock=some i) w (w2.setCell ⟨gb,3,none⟩ (.slice (some ⟨g,0,none⟩) (ls.length+1) ic)):=(f2.mono (fun i hi=>.inr hi)).setCell (.inl rfl) _
 refine ⟨⟨cells_setCell h2.g,?_,h.hB,h.hL⟩,⟨?_,by simp;omega,fun y hy=>?_⟩,f3⟩
 ·exact ownsRow_setCell_other h2.row (by simp [Value.ownBlock];exact fun e=>h.ne e.symm) _
 ·have:=ownsRow_setCell_other hown (a:=⟨gb,3,none⟩) (by simp [Value.ownBlock];exact hne) (.slice (some ⟨g,0,none⟩) (ls.length+1) ic)
  simpa using this
 ·rcases List.mem_append.1 hy with hy | hy
  ·refine ownsRow_fr (hI.found y hy) f3 ?_
   rintro k hk (e | e)
   ·exact row_apart (hI.found y hy) h.g (by decide) (e ▸ hk)
   ·rcases row_form (hI.found y hy) with ⟨e',_⟩ | ⟨g',c',e',_,_,⟨cur',hc⟩,_⟩
    ·rw [e'] at hk;simp [Value.ownBlock] at hk
    ·rw [e'] at hk
     simp only [Value.ownBlock,Option.some.injEq] at hk
     subst hk
     exact row_apart hI.row hc (by decide) e
  ·simp only [List.mem_singleton] at hy
   subst hy
   rw [hx.1,hx.2]
   exact World.ownsRow_nil _ _ _ _
theorem step_watch_append {ops:Array Oper} {o:Oper} {a:Act} {w:World} {K:Act→World→Prop} {Q:Exit→Act→World→Prop} {E:Prop} {B n icap:Nat} {iao:Option Addr} {ls:List Ls} {i:Ls}
  (hgd:o.guard=none) (s x:Operand) (ho:o.op=.call { callee:=.builtin .append,args:=#[s,x],argTypes:=#[68,68] })
  (hs:a.eval s=.slice iao n icap) (hx:a.eval x=.slice (some ⟨w.heap.size,0,none⟩) 1 1) (hrv:i.fv.oneCell'=true)
  (hown:w.ownsRow B 77 6 (.slice iao n icap) n (ls.flatMap Ls.row)) (h50:n<50) (hB:B≤w.heap.size)
  (hK:∀ g cap w',w'.ownsRow B 77 6 (.slice (some ⟨g,0,none⟩) (n+1) cap) (n+1) (ls.flatMap Ls.row++i.row) →
    World.grownBy (w.alloc (.cells i.row.toArray 77)).drew w' (Value.slice iao n icap).ownBlock→((Value.slice iao n icap).ownBlock=some g∨g=w.heap.size+1)→g<w'.heap.size→K (a.put o.dst (.slice (some ⟨g,0,none⟩) (n+1) cap)) w') :
  if Region.wanted o (yielded ops a.tmps)=true then Oper.wp Tryz.prog o a (w.alloc (.cells i.row.toArray 77)).drew K Q else E:=by
 obtain ⟨i0,hi,hz0,hz1,hz2⟩:=info_parts Tryz.info77
 have hal:Below w.heap.size w (w.alloc (.cells i.row.toArray 77)).drew:=((Below.refl _ w).alloc (Nat.le_refl _) _).drew
 refine step_append_lies _ hgd s x 68 ho B 77 i0 _ 6 72 Tryz.underlying68 hi hz0 hz1 hz2 rfl (by decide) (.slice iao n icap) n (ls.flatMap Ls.row) hs (ownsRow_since hown hal) ⟨w.heap.size,0,none⟩ 1 1 i.row hx rfl ?_ ?_ (by omega) (by unfold maxLen;omega) (by omega) (by simp;omega) (w.heap.size+1) (by simp) hK
 ·intro j u hj
  have e:(⟨w.heap.size,0,none⟩:Addr).add j=⟨w.heap.size,j,none⟩:=by unfold Addr.add;split <;> simp_all
  rw [e]
  have hb:(w.alloc (.cells i.row.toArray 77)).drew.heap[w.heap.size]?=some (.cells i.row.toArray 77 (0,0)):=heap_alloc_new w (.cells i.row.toArray 77)
  rw [cells_of hb j]
  simpa using hj
 ·intro u hu
  simp only [Ls.row,List.mem_cons,List.not_mem_nil,or_false] at hu
  rcases hu with rfl | rfl | rfl | rfl | rfl | rfl
  ·rfl
  ·rfl
  ·rfl
  ·exact hrv
  ·rfl
  ·rfl
open Go.RowKit Go.Shelf Gv
section
variable {B:Nat} {w w':World} {gb nb cap N:Nat} {kk:Nat→Nat} {tg:Nat→ByteArray} {kd:Nat→Value} {mp:Nat→Nat} {σ:St} {r:Re} {A:Nat→ByteArray→Option ByteArray} {ls:List Ls}
theorem Grl.since (h:Grl B w gb nb cap N kk tg kd mp σ r A ls) (hb:Below w.heap.size w w'):Grl B w' gb nb cap N kk tg kd mp σ r A ls :=
 ⟨h.gro.since hb,h.ats.since hb,h.lss.since hb,h.ok⟩
theorem cell_same' {w w':World} {g:Nat} (h:w'.heap[g]?=w.heap[g]?) (j:Nat):w'.cell? ⟨g,j,none⟩=w.cell? ⟨g,j,none⟩:=by simp [World.cell?,h]
theorem frozen_same' {w w':World} {g:Nat} (h:w'.heap[g]?=w.heap[g]?) (j:Nat):w'.frozen? ⟨g,j,none⟩=w.frozen? ⟨g,j,none⟩:=by simp [World.frozen?,h]
theorem Grl.watched {w2 w3:World} {v:Value} {x:Ls} (h:Grl B w2 gb nb cap N kk tg kd mp σ r A ls) (h1:Held w3 B gb nb cap (N+1) σ.s kd (r.setLv v)) (h2:Lss w3 B v (ls++[x])) (hF:Fr (fun i=>i=gb∨r.lv.ownBlock=some i) w2 w3) (hx:x.OK N kk tg A σ.K r) :
  Grl B w3 gb nb cap N kk tg kd mp σ (r.setLv v) A (ls++[x]):=by
 have hcells:∀ i cs t fr,(i=gb∨r.lv.ownBlock=some i)→w2.heap[i]?=some (.cells cs t fr)→t=72∨t=77:=by
  rintro i cs t fr (rfl | hi) e
  ·rw [h.gro.held.g] at e
   simp only [Option.some.injEq,Obj.cells.injEq] at e
   exact .inl e.2.1.symm
  ·by_cases ht:t=77
   ·exact .inr ht
   ·exact absurd hi (row_apart h.lss.row e (fun e'=>ht e'.symm))
 have hmaps:∀ i es c,(i=gb∨r.lv.ownBlock=some i)→w2.heap[i]?≠some (.map es c):=by
  rintro i es c (rfl | hi) e
  ·rw [h.gro.held.g] at e;cases e
  ·rcases row_form h.lss.row with ⟨e',_⟩ | ⟨g',c',e',_,_,⟨cur,hc⟩,_⟩
   ·rw [e'] at hi;simp [Value.ownBlock] at hi
   ·rw [e'] at hi
    simp only [Value.ownBlock,Option.some.injEq] at hi
    subst hi
    rw [hc] at e;cases e
 refine ⟨⟨h1,h.gro.wf,h.gro.kinds,h.gro.its.fr hF (fun g hg e=>?_),h.gro.sound,fun k k1 k2 k3=>(h.gro.els k k1 k2 k3).fr hF (fun i cs fr hi e=>?_)⟩,h.ats.fr hF hmaps,h2,fun y hy=>?_⟩
 ·rcases row_form h.gro.its.row with ⟨e',_⟩ | ⟨g',c',e',_,_,⟨cur,hc⟩,_⟩
  ·rw [e'] at hg;simp [Value.ownBlock] at hg
  ·rw [e'] at hg
   simp only [Value.ownBlock,Option.some.injEq] at hg
   subst hg
   rcases hcells _ _ _ _ e hc with h' | h' <;> exact absurd h' (by decide)
 ·rcases hcells _ _ _ _ hi e with h' | h' <;> exact absurd h' (by decide)
 ·rcases List.mem_append.1 hy with hy | hy
  ·obtain ⟨a1,a2,a3,a4,a5⟩:=h.ok y hy
   exact ⟨a1,a2,a3,a4,a5⟩
  ·simp only [List.mem_singleton] at hy
   subst hy
   obtain ⟨a1,a2,a3,a4,a5⟩:=hx
   exact ⟨a1,a2,a3,a4,a5⟩
theorem new_ok {root how:Nat} {what:ByteArray} (hm:mayAsk how what) (h1:1≤root) (hN:root≤N) (hp:1≤r.pl) (hc:0≤r.cl):(Ls.new root how what).OK N kk tg A σ.K r:=by
 have h4:1≤how∧how≤4:=by obtain ⟨_,⟨rfl,_⟩ | ⟨rfl,_⟩ | rfl | rfl⟩:=hm <;> omega
 refine ⟨⟨h1,hN⟩,h4,?_,fun _=>hc,fun e=>?_⟩
 ·show (0:Int)≤r.pl;omega
 ·have e':(0:Int)=r.pl:=e
  omega
theorem watchS2 (h:Grl B w gb nb cap N kk tg kd mp σ r A ls) (h50:ls.length<50) (root how:Nat) (what:ByteArray) (hm:mayAsk how what) (h1:1≤root) (hN:root≤N) (hok:(Ls.new root how what).OK N kk tg A σ.K r) :
  Calls Tryz.prog 12 #[.pointer (some ⟨gb,0,none⟩),.int .i64 root,.int .i64 how,.string what] w fun e w'=>e=.returned (.tuple #[.int .i64 (ls.length+1:Nat),.int .i64 0])∧∃ v,Grl B w' gb nb cap N kk tg kd mp σ (r.setLv v) A (ls++[Ls.new root how what])∧Fr (fun i=>i=gb∨r.lv.ownBlock=some i) w w'∧NewOr w r.lv v:=by
 have HOK:Hid ((Ls.new root how what).OK N kk tg A σ.K r):=hok
 clear hok
 have HG:Hid _:=h
 have HM:Hid (mayAsk how what):=hm
 have hBs:B≤w.heap.size:=by have:=h.gro.held.hB;have:=h.gro.held.ltg;omega
 have glv:=h.gro.held.glv
 have hltg:=h.gro.held.ltg
 have hhas:hasB (N+1) (root:Int)=true:=hasB_nat h1 hN
 obtain ⟨iao,icap,hwv⟩:∃ iao icap,r.lv=.slice iao ls.length icap:=by
  rcases row_form h.lss.row with ⟨hv,hn⟩ | ⟨g,c,hv,_⟩
  ·exact ⟨none,0,by rw [hv,hn]⟩
  ·exact ⟨_,_,hv⟩
 have HV:Hid (r.lv=.slice iao ls.length icap):=hwv
 rw [hwv] at glv
 clear h hwv hm
 go_enter Tryz.func12, Tryz.ntmps12
 go_wp2_with fail
 refine (hasF HG.out.gro.held root).mono ?_
 rintro e w ⟨rfl,rfl⟩
 rw [hhas]
 go_wp2_with fail
 refine (newListC root how what w HM.out).mono ?_
 rintro e w1 ⟨rfl,hb1⟩
 have G1:Hid (Grl B w1 gb nb cap N kk tg kd mp σ r A ls):=HG.out.since hb1
 have B1:Hid (Below w.heap.size w w1):=hb1
 have s1:=hb1.size
 have glv1:w1.cell? ⟨gb,3,none⟩=some (.slice iao ls.length icap):=(hb1.cell (p:=⟨gb,3,none⟩) hltg).trans glv
 clear hb1 glv
 have hb2:Below w1.heap.size w1 (w1.alloc (.cells #[.int .i64 root,.int .i64 how,.string what,.slice none 0 0,.int .i64 0,.int .i64 0] 77)):=(Below.refl _ _).alloc (Nat.le_refl _) _
 have G2:Hid (Grl B (w1.alloc (.cells #[.int .i64 root,.int .i64 how,.string what,.slice none 0 0,.int .i64 0,.int .i64 0] 77)) gb nb cap N kk tg kd mp σ r A ls):=G1.out.since hb2
 have B2:Hid (Below w.heap.size w (w1.alloc (.cells #[.int .i64 root,.int .i64 how,.string what,.slice none 0 0,.int .i64 0,.int .i64 0] 77))):=B1.out.trans (hb2.mono s1)
 have glv2:(w1.alloc (.cells #[.int .i64 root,.int .i64 how,.string what,.slice none 0 0,.int .i64 0,.int .i64 0] 77)).cell? ⟨gb,3,none⟩=some (.slice iao ls.length icap):=(hb2.cell (p:=⟨gb,3,none⟩) (by show gb<_;omega)).trans glv1
 go_wp2_with fail
 have f0:(w1.alloc (.cells #[.int .i64 root,.int .i64 how,.string what,.slice none 0 0,.int .i64 0,.int .i64 0] 77)).cell? ⟨w1.heap.size,0,none⟩=some (.int .i64 root):=by simp [World.cell?_alloc_at]
 have f1:(w1.alloc (.cells #[.int .i64 root,.int .i64 how,.string what,.slice none 0 0,.int .i64 0,.int .i64 0] 77)).cell? ⟨w1.heap.size,1,none⟩=some (.int .i64 how):=by simp [World.cell?_alloc_at]
 have f2:(w1.alloc (.cells #[.int .i64 root,.int .i64 how,.string what,.slice none 0 0,.int .i64 0,.int .i64 0] 77)).cell? ⟨w1.heap.size,2,none⟩=some (.string what):=by simp [World.cell?_alloc_at]
 have f3:(w1.alloc (.cells #[.int .i64 root,.int .i64 how,.string what,.slice none 0 0,.int .i64 0,.int .i64 0] 77)).cell? ⟨w1.heap.size,3,none⟩=some (.slice none 0 0):=by simp [World.cell?_alloc_at]
 have f4:(w1.alloc (.cells #[.int .i64 root,.int .i64 how,.string what,.slice none 0 0,.int .i64 0,.int .i64 0] 77)).cell? ⟨w1.heap.size,4,none⟩=some (.int .i64 0):=by simp [World.cell?_alloc_at]
 have f5:(w1.alloc (.cells #[.int .i64 root,.int .i64 how,.string what,.slice none 0 0,.int .i64 0,.int .i64 0] 77)).cell? ⟨w1.heap.size,5,none⟩=some (.int .i64 0):=by simp [World.cell?_alloc_at]
 have lt2:w1.heap.size<(w1.alloc (.cells #[.int .i64 root,.int .i64 how,.string what,.slice none 0 0,.int .i64 0,.int .i64 0] 77)).heap.size:=by simp
 clear glv1 G1 B1 hb2
 generalize w1.alloc (.cells #[.int .i64 root,.int .i64 how,.string what,.slice none 0 0,.int .i64 0,.int .i64 0] 77)=w2 at *
 have hz:=G2.out.lss.row
 rw [HV.out] at hz
 have HZ:Hid (w2.ownsRow B 77 6 (.slice iao ls.length icap) ls.length (ls.flatMap Ls.row)):=hz
 have ltg2:gb<w2.heap.size:=G2.out.gro.held.ltg
 clear hz
 have ltg3:gb<w2.heap.size+1:=by omega
 have gne:gb≠w2.heap.size:=by omega
 have hfr2:∀ j,w2.frozen? ⟨gb,j,none⟩=false:=fun j=>G2.out.gro.held.gfree j
 go_region_law (first
  | (refine step_watch_append (w:=w2) (B:=B) (n:=ls.length) (icap:=icap) (iao:=iao) (ls:=ls) (i:=Ls.new root how what) rfl (.tmp 38) (.tmp 40) rfl (by simp [Act.eval]) (by simp [Act.eval]) rfl HZ.out h50 (by omega) ?_
     intro g ic w3 hown3 hgrow3 hat3 hlt3
     have hal:Below w2.heap.size w2 (w2.alloc (.cells (Ls.new root how what).row.toArray 77)).drew:=((Below.refl _ w2).alloc (Nat.le_refl _) _).drew
     have RR:=watch_end G2.out.gro.held G2.out.lss h50 (Fr.of_below hal) ⟨rfl,rfl⟩ (by exact hown3) (by rw [HV.out];exact hgrow3) (by rw [HV.out];exact hat3.imp id (fun e=>by simpa using e))
     have q0:w3.heap[gb]?=w2.heap[gb]?:=(hgrow3.block gb (by simp;omega) (by intro e;exact row_apart G2.out.lss.row G2.out.gro.held.g (by decide) (by rw [HV.out];exact e.symm))).trans (hal.block gb ltg2)
     have q1:w3.cell? ⟨gb,3,none⟩=some (.slice iao ls.length icap):=(cell_same' q0 3).trans glv2
     have q2:w3.frozen? ⟨gb,3,none⟩=false:=(frozen_same' q0 3).trans (hfr2 3)
     have R3:Hid _:=RR
     have AT:Hid (r.lv.ownBlock=some g∨w.heap.size≤g):=by
      rw [HV.out]
      rcases hat3 with e | e
      ·exact .inl e
      ·exact .inr (by have:=B2.out.size;omega)
     clear RR q0 hown3 hgrow3 hat3 hlt3 hal))
 all_goals
  go_wp2_with fail
  go_ret2
  exact ⟨rfl,.slice (some ⟨g,0,none⟩) (ls.length+1) ic,G2.out.watched R3.out.1 R3.out.2.1 R3.out.2.2 HOK.out,(Fr.of_below B2.out).trans R3.out.2.2,fun g' hg'=>by simp only [Value.ownBlock,Option.some.injEq] at hg';subst hg';exact AT.out⟩
end
end Go.Proofs.YtcedebpoihcbdaaGreatDoor
