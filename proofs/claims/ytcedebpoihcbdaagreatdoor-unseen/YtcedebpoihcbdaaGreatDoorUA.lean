/-
  Two groves to which the same is done: what holds of them; what each call of the law 'Unseen' does to both.
  Two groves, side by side: how the law 'Unseen' begins.
-/
import Derived.Test.YtcedebpoihcbdaaGreatDoorGC
set_option linter.unusedVariables false
namespace Go.Proofs.YtcedebpoihcbdaaGreatDoor
open Go.RowKit Go.Shelf Gv
def st0:St:={ s:=zeroF,K:=fun _=>[],its:=[] }
def noAtts:Nat→ByteArray→Option ByteArray:=fun _=>noAtt
theorem Made.gro {B:Nat} {w:World} {gb nb c N:Nat} {kk:Nat→Nat} {tg:Nat→ByteArray} {kd:Nat→Value} {mp:Nat→Nat} (h:Made B w gb nb c N kk tg kd mp):Gro B w gb nb c N kk tg kd mp st0 re0 :=
 ⟨h.held,loose_wf N,h.kinds,its_none w B,fun it hit=>by simp [st0] at hit,fun i h1 hN h2=>(h.els i h1 hN h2).1⟩
theorem Made.grl {B:Nat} {w:World} {gb nb c N:Nat} {kk:Nat→Nat} {tg:Nat→ByteArray} {kd:Nat→Value} {mp:Nat→Nat} (h:Made B w gb nb c N kk tg kd mp):Grl B w gb nb c N kk tg kd mp st0 re0 noAtts [] :=
 ⟨h.gro,⟨fun i h1 h2 h3=>att_new (h.els i h1 h2 h3).2.2,fun i k v e=>by simp [noAtts,noAtt] at e,fun i h1 h2 h3=>(h.els i h1 h2 h3).2.1,h.inj⟩,⟨World.ownsRow_nil _ _ _ _,by simp,fun x hx=>by simp at hx⟩,fun x hx=>by simp at hx⟩
def madeX (gb nb c N:Nat) (kk:Nat→Nat) (tg:Nat→ByteArray) (kd:Nat→Value) (mp:Nat→Nat):Gx:={ gb:=gb,nb:=nb,cap:=c,N:=N,kk:=kk,tg:=tg,kd:=kd,mp:=mp,σ:=st0,r:=re0,A:=noAtts,ls:=[],ws:=[] }
theorem Made.ok {B:Nat} {w:World} {gb nb c N:Nat} {kk:Nat→Nat} {tg:Nat→ByteArray} {kd:Nat→Value} {mp:Nat→Nat} (h:Made B w gb nb c N kk tg kd mp):GOK B w (madeX gb nb c N kk tg kd mp) :=
 ⟨h.grl,⟨World.ownsRow_nil _ _ _ _,by simp [madeX]⟩,fun k _ _ _=>⟨rfl,rfl⟩,fun x hx=>by simp [madeX,st0] at hx,fun x hx=>by simp [madeX] at hx,fun x hx=>by simp [madeX] at hx,Int.le_refl _,Int.le_refl _,fun _ _=>rfl⟩
section
variable {B B':Nat} {w w':World} {g g' o:Gx}
theorem Post.other2 (h:Post B w w' g g') (ho:GOK B' w o) (hd:∀ i,g.own i→¬ o.own i):GOK B' w' o∧∀ i,g'.own i→¬ o.own i:=by
 refine ⟨ho.frOther h.fr (fun i hi e=>hd i e hi),fun i hi e=>?_⟩
 rcases h.own i hi with e' | e'
 ·exact hd i e' e
 ·have:=(ho.bounds e).2;omega
end
structure Sn where
 s:Fo
 K:Nat→List Nat
 spot:Spot
 isee:Int
 irl:List Rule
 wroot:Nat
 wsee:Int
 wrl:List Rule
 here:Nat
structure Sn.of (S:Sn) (N:Nat) (kk:Nat→Nat) (tg:Nat→ByteArray) (g:Gx):Prop where
 N:g.N=N
 kk:g.kk=kk
 tg:g.tg=tg
 s:g.σ.s=S.s
 K:g.σ.K=S.K
 it:∃ a,g.σ.its=[a]∧a.spot=S.spot∧a.see=S.isee∧a.rl=S.irl
 wk:∃ x,g.ws=[x]∧x.root=S.wroot∧x.see=S.wsee∧x.rl=S.wrl∧x.here=S.here
structure Pair (w0 w:World) (gb hb N:Nat) (kk:Nat→Nat) (tg:Nat→ByteArray) (S:Sn) (p:Nat):Prop where
 ex:∃ B1 B2 g h,GOK B1 w g∧GOK B2 w h∧w0.heap.size≤B1∧w0.heap.size≤B2∧(∀ i,g.own i→¬ h.own i)∧g.gb=gb∧h.gb=hb∧S.of N kk tg g∧S.of N kk tg h∧g.r.pl≤p∧h.r.pl≤p
 bel:Below w0.heap.size w0 w
theorem Pair.up {w0 w:World} {gb hb N:Nat} {kk:Nat→Nat} {tg:Nat→ByteArray} {S:Sn} {p q:Nat} (h:Pair w0 w gb hb N kk tg S p) (hq:p≤q):Pair w0 w gb hb N kk tg S q:=by
 obtain ⟨⟨B1,B2,g,h,a1,a2,a3,a4,a5,a6,a7,a8,a9,b1,b2⟩,hb⟩:=h
 exact ⟨⟨B1,B2,g,h,a1,a2,a3,a4,a5,a6,a7,a8,a9,by omega,by omega⟩,hb⟩
section
variable {w0 w w':World} {gb hb N:Nat} {kk:Nat→Nat} {tg:Nat→ByteArray} {S:Sn} {p:Nat}
theorem Pair.since (h:Pair w0 w gb hb N kk tg S p) (hw:Below w.heap.size w w'):Pair w0 w' gb hb N kk tg S p:=by
 obtain ⟨⟨B1,B2,g,h,a1,a2,a3⟩,hb⟩:=h
 exact ⟨⟨B1,B2,g,h,a1.since hw,a2.since hw,a3⟩,hb.trans (hw.mono hb.size)⟩
theorem Pair.symm (h:Pair w0 w gb hb N kk tg S p):Pair w0 w hb gb N kk tg S p:=by
 obtain ⟨⟨B1,B2,g,h,a1,a2,a3,a4,a5,a6,a7,a8,a9,b1,b2⟩,hb⟩:=h
 exact ⟨⟨B2,B1,h,g,a2,a1,a4,a3,fun i hi e=>a5 i e hi,a7,a6,a9,a8,b2,b1⟩,hb⟩
theorem Pair.looked {B1 B2:Nat} {g g' h:Gx} (a1:GOK B1 w g) (a2:GOK B2 w h) (a3:w0.heap.size≤B1) (a4:w0.heap.size≤B2) (a5:∀ i,g.own i→¬ h.own i) (a6:g.gb=gb) (a7:h.gb=hb) (a8:S.of N kk tg g) (a9:S.of N kk tg h) (b1:g.r.pl≤p) (b2:h.r.pl≤p) (hbel:Below w0.heap.size w0 w)
  (hP:Post B1 w w' g g') (hS:S.of N kk tg g') (hp:g'.r.pl≤p):Pair w0 w' gb hb N kk tg S p:=by
 have ho:=hP.other2 a2 a5
 exact ⟨⟨B1,B2,g',h,hP.ok,ho.1,a3,a4,ho.2,hP.at_.trans a6,a7,hS,a9,hp,b2⟩,hbel.trans (hP.below a1 a3 hbel.size)⟩
theorem lenU (h:Pair w0 w gb hb N kk tg S p) (n:Int) :
  Calls Tryz.prog 18 #[.pointer (some ⟨gb,0,none⟩),.int .i64 n] w fun e w'=>(∃ q1 q2:Int,e=.returned (.tuple #[.int .i64 q1,.int .i64 q2]))∧Pair w0 w' gb hb N kk tg S p:=by
 have h0:=h
 obtain ⟨⟨B1,B2,g,o,a1,a2,a3,a4,a5,a6,a7,a8,a9,b1,b2⟩,hbel⟩:=h
 rw [← a6]
 refine (lenX a1 n).mono ?_
 rintro e w' (⟨_,rfl,rfl⟩ | ⟨i,x,v,_,_,rfl,hP⟩)
 ·exact ⟨⟨_,_,rfl⟩,by rw [a6];exact h0⟩
 ·exact ⟨⟨_,_,rfl⟩,Pair.looked a1 a2 a3 a4 a5 rfl a7 a8 a9 b1 b2 hbel hP ⟨a8.N,a8.kk,a8.tg,a8.s,a8.K,a8.it,a8.wk⟩ b1⟩
theorem itemU (h:Pair w0 w gb hb N kk tg S p) (n j:Int) :
  Calls Tryz.prog 19 #[.pointer (some ⟨gb,0,none⟩),.int .i64 n,.int .i64 j] w fun e w'=>(∃ q1 q2:Int,e=.returned (.tuple #[.int .i64 q1,.int .i64 q2]))∧Pair w0 w' gb hb N kk tg S p:=by
 have h0:=h
 obtain ⟨⟨B1,B2,g,o,a1,a2,a3,a4,a5,a6,a7,a8,a9,b1,b2⟩,hbel⟩:=h
 rw [← a6]
 refine (itemX a1 n j).mono ?_
 rintro e w' (⟨_,rfl,rfl⟩ | ⟨i,x,v,_,_,rfl,hP⟩)
 ·exact ⟨⟨_,_,rfl⟩,by rw [a6];exact h0⟩
 ·exact ⟨⟨_,_,rfl⟩,Pair.looked a1 a2 a3 a4 a5 rfl a7 a8 a9 b1 b2 hbel hP ⟨a8.N,a8.kk,a8.tg,a8.s,a8.K,a8.it,a8.wk⟩ b1⟩
theorem namedU (h:Pair w0 w gb hb N kk tg S p) (n:Int) (name:ByteArray) :
  Calls Tryz.prog 20 #[.pointer (some ⟨gb,0,none⟩),.int .i64 n,.string name] w fun e w'=>(∃ q1 q2:Int,e=.returned (.tuple #[.int .i64 q1,.int .i64 q2]))∧Pair w0 w' gb hb N kk tg S p:=by
 have h0:=h
 obtain ⟨⟨B1,B2,g,o,a1,a2,a3,a4,a5,a6,a7,a8,a9,b1,b2⟩,hbel⟩:=h
 rw [← a6]
 refine (namedX a1 n name).mono ?_
 rintro e w' (⟨_,rfl,rfl⟩ | ⟨i,x,_,_,rfl,hP | ⟨v,hP⟩⟩)
 ·exact ⟨⟨_,_,rfl⟩,by rw [a6];exact h0⟩
 ·exact ⟨⟨_,_,rfl⟩,Pair.looked a1 a2 a3 a4 a5 rfl a7 a8 a9 b1 b2 hbel hP a8 b1⟩
 ·exact ⟨⟨_,_,rfl⟩,Pair.looked a1 a2 a3 a4 a5 rfl a7 a8 a9 b1 b2 hbel hP ⟨a8.N,a8.kk,a8.tg,a8.s,a8.K,a8.it,a8.wk⟩ b1⟩
theorem byIdU (h:Pair w0 w gb hb N kk tg S p) (n:Int) (id:ByteArray) :
  Calls Tryz.prog 21 #[.pointer (some ⟨gb,0,none⟩),.int .i64 n,.string id] w fun e w'=>(∃ q1 q2:Int,e=.returned (.tuple #[.int .i64 q1,.int .i64 q2]))∧Pair w0 w' gb hb N kk tg S p:=by
 have h0:=h
 obtain ⟨⟨B1,B2,g,o,a1,a2,a3,a4,a5,a6,a7,a8,a9,b1,b2⟩,hbel⟩:=h
 rw [← a6]
 refine (byIdX a1 n id).mono ?_
 rintro e w' ⟨hb1,⟨_,rfl⟩ | ⟨m,_,_,_,rfl⟩⟩
 ·exact ⟨⟨_,_,rfl⟩,by rw [a6];exact h0.since hb1⟩
 ·exact ⟨⟨_,_,rfl⟩,by rw [a6];exact h0.since hb1⟩
theorem atU (h:Pair w0 w gb hb N kk tg S p) :
  Calls Tryz.prog 22 #[.pointer (some ⟨gb,0,none⟩),.int .i64 1] w fun e w'=>e=.returned (.tuple #[.int .i64 S.spot.place,.bool S.spot.ahead,.int .i64 0])∧Pair w0 w' gb hb N kk tg S p:=by
 have h0:=h
 obtain ⟨⟨B1,B2,g,o,a1,a2,a3,a4,a5,a6,a7,a8,a9,b1,b2⟩,hbel⟩:=h
 rw [← a6]
 obtain ⟨a,hi,e1,e2,e3⟩:=a8.it
 refine (atX a1 1).mono ?_
 rintro e w' ⟨hb1,⟨hn,_⟩ | ⟨i,it,hn,hit,rfl⟩⟩
 ·rw [hi] at hn;simp at hn
 ·obtain rfl:i=0:=by omega
  rw [hi] at hit
  simp only [List.getElem?_cons_zero,Option.some.injEq] at hit
  subst hit
  exact ⟨by rw [e1],by rw [a6];exact h0.since hb1⟩
theorem hereU (h:Pair w0 w gb hb N kk tg S p) :
  Calls Tryz.prog 23 #[.pointer (some ⟨gb,0,none⟩),.int .i64 1] w fun e w'=>e=.returned (.tuple #[.int .i64 S.here,.int .i64 0])∧w'=w:=by
 obtain ⟨⟨B1,B2,g,o,a1,a2,a3,a4,a5,a6,a7,a8,a9,b1,b2⟩,hbel⟩:=h
 rw [← a6]
 obtain ⟨a,hi,e1,e2,e3,e4⟩:=a8.wk
 refine (hereX a1 1).mono ?_
 rintro e w' ⟨rfl,⟨hn,_⟩ | ⟨i,it,hn,hit,rfl⟩⟩
 ·rw [hi] at hn;simp at hn
 ·obtain rfl:i=0:=by omega
  rw [hi] at hit
  simp only [List.getElem?_cons_zero,Option.some.injEq] at hit
  subst hit
  exact ⟨by rw [e4],rfl⟩
theorem withinU (h:Pair w0 w gb hb N kk tg S p) (n:Nat) (h1:1≤n) (hn:n≤N) :
  Calls Tryz.prog 24 #[.pointer (some ⟨gb,0,none⟩),.int .i64 n,.int .i64 N] w fun e w'=>∃ v,e=.returned v∧w'.ownsRow w.heap.size 3 1 v (P N S.K n).length (ints (P N S.K n))∧Below w.heap.size w w'∧Pair w0 w' gb hb N kk tg S p∧(P N S.K n).length≤N:=by
 have h0:=h
 obtain ⟨⟨B1,B2,g,o,a1,a2,a3,a4,a5,a6,a7,a8,a9,b1,b2⟩,hbel⟩:=h
 have hw:=a1.wf
 rw [a8.N,a8.K] at hw
 rw [← a6]
 have:=withinX a1 n h1 (by rw [a8.N];exact hn)
 rw [a8.N,a8.K] at this
 refine this.mono ?_
 rintro e w' ⟨v,rfl,ho,hb1⟩
 exact ⟨v,rfl,ho,hb1,by rw [a6];exact h0.since hb1,P_len hw h1 hn⟩
theorem parentU (h:Pair w0 w gb hb N kk tg S p) (n:Nat) (h1:1≤n) (hn:n≤N) :
  Calls Tryz.prog 25 #[.pointer (some ⟨gb,0,none⟩),.int .i64 n] w fun e w'=>e=.returned (.tuple #[.int .i64 (S.s.par n),.int .i64 0])∧w'=w:=by
 obtain ⟨⟨B1,B2,g,o,a1,a2,a3,a4,a5,a6,a7,a8,a9,b1,b2⟩,hbel⟩:=h
 rw [← a6,← a8.s]
 exact parentG a1.held n h1 (by rw [a8.N];exact hn)
def Then (w0:World) (f:Nat) (args:Array Value) (ans:Value) (w':World) (gb hb N:Nat) (kk:Nat→Nat) (tg:Nat→ByteArray) (p:Nat):Prop :=
 ∀ w2,Below w'.heap.size w' w2→Calls Tryz.prog f args w2 fun e w3=>e=.returned ans∧∃ S',Pair w0 w3 gb hb N kk tg S' p
def Sn.stepped (S:Sn) (N:Nat) (kk:Nat→Nat) (tg:Nat→ByteArray) (back:Bool):Sn:={ S with spot:=S.spot.stepped N S.K (accB kk tg S.isee S.irl) back }
theorem Sn.of.step {g:Gx} (h:S.of N kk tg g) {a:It} (ha:g.σ.its[0]?=some a) (back:Bool):(S.stepped N kk tg back).of N kk tg (g.stepped 0 a back)∧stepTo g.N g.σ.K (accB g.kk g.tg a.see a.rl) a.spot back=stepTo N S.K (accB kk tg S.isee S.irl) S.spot back:=by
 obtain ⟨b,hi,e1,e2,e3⟩:=h.it
 rw [hi] at ha
 simp only [List.getElem?_cons_zero,Option.some.injEq] at ha
 subst ha
 refine ⟨⟨h.N,h.kk,h.tg,h.s,h.K,⟨{ b with spot:=b.spot.stepped g.N g.σ.K (accB g.kk g.tg b.see b.rl) back },by show g.σ.its.set 0 _=_;rw [hi];rfl,?_,e2,e3⟩,h.wk⟩,?_⟩
 ·show b.spot.stepped g.N g.σ.K (accB g.kk g.tg b.see b.rl) back=S.spot.stepped N S.K (accB kk tg S.isee S.irl) back
  rw [e1,e2,e3,h.N,h.K,h.kk,h.tg]
 ·rw [e1,e2,e3,h.N,h.K,h.kk,h.tg]
theorem step1 {B1:Nat} {g:Gx} (a1:GOK B1 w g) (a8:S.of N kk tg g) (back:Bool) :
  Calls Tryz.prog 15 #[.pointer (some ⟨g.gb,0,none⟩),.int .i64 1,.bool back] w fun e w'=>e=.returned (.tuple #[.int .i64 (stepTo N S.K (accB kk tg S.isee S.irl) S.spot back:Nat),.int .i64 0])∧∃ g',Post B1 w w' g g'∧(S.stepped N kk tg back).of N kk tg g'∧g'.r.pl=g.r.pl:=by
 obtain ⟨a,hi,e1,e2,e3⟩:=a8.it
 refine (stepX a1 1 back).mono ?_
 rintro e w' (⟨hn,_⟩ | ⟨i,it,hn,hit,rfl,hP⟩)
 ·rw [hi] at hn;simp at hn
 ·obtain rfl:i=0:=by omega
  have hs:=a8.step hit back
  exact ⟨by rw [hs.2],_,hP,hs.1,rfl⟩
theorem stepU (h:Pair w0 w gb hb N kk tg S p) (back:Bool) :
  Calls Tryz.prog 15 #[.pointer (some ⟨gb,0,none⟩),.int .i64 1,.bool back] w fun e w'=>∃ a:Nat,e=.returned (.tuple #[.int .i64 a,.int .i64 0])∧Then w0 15 #[.pointer (some ⟨hb,0,none⟩),.int .i64 1,.bool back] (.tuple #[.int .i64 a,.int .i64 0]) w' gb hb N kk tg (p+2)∧Below w0.heap.size w0 w':=by
 obtain ⟨⟨B1,B2,g,o,a1,a2,a3,a4,a5,a6,a7,a8,a9,b1,b2⟩,hbel⟩:=h
 rw [← a6,← a7]
 refine (step1 a1 a8 back).mono ?_
 rintro e w' ⟨rfl,g',hP,hS,hp⟩
 have ho:=hP.other2 a2 a5
 have hbel':=hbel.trans (hP.below a1 a3 hbel.size)
 refine ⟨_,rfl,fun w2 hw2=>?_,hbel'⟩
 have hO:=ho.1.since hw2
 have hG:=hP.ok.since hw2
 refine (step1 hO a9 back).mono ?_
 rintro e w3 ⟨rfl,o',hP3,hS3,hp3⟩
 have ho3:=hP3.other2 hG (fun i hi e=>ho.2 i e hi)
 have hbel2:=hbel'.trans (hw2.mono hbel'.size)
 exact ⟨rfl,_,⟨⟨B1,B2,g',o',ho3.1,hP3.ok,a3,a4,fun i hi e=>ho3.2 i e hi,hP.at_,hP3.at_,hS,hS3,by omega,by omega⟩,hbel2.trans (hP3.below hO a4 hbel2.size)⟩⟩
def Sn.went (S:Sn) (a:Nat):Sn:=if a=0 then S else { S with here:=a }
theorem move1 {B1:Nat} {g:Gx} (a1:GOK B1 w g) (a8:S.of N kk tg g) (how:Nat) (h1:1≤how) (h7:how≤7) :
  Calls Tryz.prog 16 #[.pointer (some ⟨g.gb,0,none⟩),.int .i64 1,.int .i64 how] w fun e w'=>∃ a:Nat,e=.returned (.tuple #[.int .i64 a,.int .i64 0])∧MoveTo N S.s (verd kk tg S.wsee S.wrl) S.wroot S.here how a∧∃ g',Post B1 w w' g g'∧(S.went a).of N kk tg g'∧g'.r.pl=g.r.pl:=by
 obtain ⟨x,hi,e1,e2,e3,e4⟩:=a8.wk
 refine (moveX a1 1 how).mono ?_
 rintro e w' (⟨hn,_⟩ | ⟨_,hh,_⟩ | ⟨i,k,a,y,hn,hk,_,_,hy,rfl,_,hm,hP⟩)
 ·rw [hi] at hn;simp at hn
 ·omega
 ·obtain rfl:i=0:=by omega
  obtain rfl:how=k:=by omega
  have hy0:=hy
  rw [hi] at hy
  simp only [List.getElem?_cons_zero,Option.some.injEq] at hy
  subst hy
  refine ⟨a,rfl,?_,_,hP,?_,?_⟩
  ·have:g.says x=verd kk tg S.wsee S.wrl:=by unfold Gx.says;rw [a8.kk,a8.tg,e2,e3]
   rw [this,a8.N,a8.s,e1,e4] at hm
   exact hm
  ·unfold Gx.moved Sn.went
   split
   ·exact a8
   ·exact ⟨a8.N,a8.kk,a8.tg,a8.s,a8.K,a8.it,⟨{ x with here:=a },by show g.ws.set 0 _=_;rw [hi];rfl,e1,e2,e3,rfl⟩⟩
  ·unfold Gx.moved;split <;> rfl
theorem moveU (h:Pair w0 w gb hb N kk tg S p) (how:Nat) (h1:1≤how) (h7:how≤7) :
  Calls Tryz.prog 16 #[.pointer (some ⟨gb,0,none⟩),.int .i64 1,.int .i64 how] w fun e w'=>∃ a:Nat,e=.returned (.tuple #[.int .i64 a,.int .i64 0])∧Then w0 16 #[.pointer (some ⟨hb,0,none⟩),.int .i64 1,.int .i64 how] (.tuple #[.int .i64 a,.int .i64 0]) w' gb hb N kk tg (p+2)∧Below w0.heap.size w0 w':=by
 obtain ⟨⟨B1,B2,g,o,a1,a2,a3,a4,a5,a6,a7,a8,a9,b1,b2⟩,hbel⟩:=h
 rw [← a6,← a7]
 refine (move1 a1 a8 how h1 h7).mono ?_
 rintro e w' ⟨a,rfl,hm,g',hP,hS,hp⟩
 have ho:=hP.other2 a2 a5
 have hbel':=hbel.trans (hP.below a1 a3 hbel.size)
 refine ⟨a,rfl,fun w2 hw2=>?_,hbel'⟩
 have hO:=ho.1.since hw2
 have hG:=hP.ok.since hw2
 refine (move1 hO a9 how h1 h7).mono ?_
 rintro e w3 ⟨b,rfl,hm3,o',hP3,hS3,hp3⟩
 obtain rfl:=hm.det hm3
 have ho3:=hP3.other2 hG (fun i hi e=>ho.2 i e hi)
 have hbel2:=hbel'.trans (hw2.mono hbel'.size)
 exact ⟨rfl,_,⟨⟨B1,B2,g',o',ho3.1,hP3.ok,a3,a4,fun i hi e=>ho3.2 i e hi,hP.at_,hP3.at_,hS,hS3,by omega,by omega⟩,hbel2.trans (hP3.below hO a4 hbel2.size)⟩⟩
theorem change_alike {g:Gx} (h:S.of N kk tg g) (a b c:Int):∃ S':Sn,∀ (o:Gx) (r':Re),S.of N kk tg o→S'.of N kk tg { o with σ:=o.σ.change o.N o.kk a b c,r:=r' }:=by
 let T:St:={ s:=S.s,K:=S.K,its:=[{ spot:=S.spot,see:=S.isee,rules:=.slice none 0 0,rl:=S.irl }] }
 have key:∀ o:Gx,S.of N kk tg o→(o.σ.change o.N o.kk a b c).s=(T.change N kk a b c).s∧(o.σ.change o.N o.kk a b c).K=(T.change N kk a b c).K∧∃ x y,(o.σ.change o.N o.kk a b c).its=[x]∧(T.change N kk a b c).its=[y]∧x.spot=y.spot∧x.see=S.isee∧x.rl=S.irl:=by
  intro o ho
  obtain ⟨x,hi,e1,e2,e3⟩:=ho.it
  have hl:∀ (n:Nat),(It.leave N S.s n x).spot=(It.leave N S.s n { spot:=S.spot,see:=S.isee,rules:=.slice none 0 0,rl:=S.irl }).spot:=fun n=>by show x.spot.leave N S.s n=S.spot.leave N S.s n;rw [e1]
  rw [ho.N,ho.kk]
  unfold St.change
  show (if pickF c 4=0 then _ else _:St).s=_∧_
  have hK:befF o.σ.K (1+pickF b N) c=befF T.K (1+pickF b N) c:=by show befF o.σ.K _ _=befF S.K _ _;rw [ho.K]
  rw [hK]
  generalize befF T.K (1+pickF b N) c=bf
  split
  ·unfold St.take
   have hs:o.σ.s=T.s:=ho.s
   rw [hs]
   split
   ·exact ⟨hs,ho.K,x,_,hi,rfl,e1,e2,e3⟩
   ·exact ⟨rfl,by show dropK o.σ.K _=dropK S.K _;rw [ho.K],_,_,by show o.σ.its.map _=_;rw [hi];rfl,rfl,hl _,e2,e3⟩
  ·unfold St.put
   have hs:o.σ.s=T.s:=ho.s
   rw [hs]
   split
   ·refine ⟨rfl,by show chK o.σ.K _ _ _=chK S.K _ _ _;rw [ho.K],?_⟩
    show ∃ x y,itsOut N T.s _ o.σ.its=[x]∧itsOut N T.s _ T.its=[y]∧_
    rw [hi]
    unfold itsOut
    split
    ·exact ⟨x,_,rfl,rfl,e1,e2,e3⟩
    ·exact ⟨_,_,rfl,rfl,hl _,e2,e3⟩
   ·exact ⟨hs,ho.K,x,_,hi,rfl,e1,e2,e3⟩
 obtain ⟨_,_,x0,y0,_,hy0,_⟩:=key g h
 refine ⟨{ S with s:=(T.change N kk a b c).s,K:=(T.change N kk a b c).K,spot:=y0.spot },fun o r' ho=>?_⟩
 obtain ⟨k1,k2,x,y,hx,hy,e1,e2,e3⟩:=key o ho
 rw [hy0] at hy
 simp only [List.cons.injEq,and_true] at hy
 subst hy
 exact ⟨ho.N,ho.kk,ho.tg,k1,k2,⟨x,hx,e1,e2,e3⟩,ho.wk⟩
theorem changeU (h:Pair w0 w gb hb N kk tg S p) (hno:∀ i,kk i≠1) (hp:p≤1000) (hN:1≤N) (a b c:Int) (ha:-9223372036854775808≤a∧a≤9223372036854775807) (hbb:-9223372036854775808≤b∧b≤9223372036854775807) (hc:-9223372036854775808≤c∧c≤9223372036854775807) :
  Calls Tryz.prog 17 #[.pointer (some ⟨gb,0,none⟩),.int .i64 N,.int .i64 a,.int .i64 b,.int .i64 c] w fun e w'=>e=.returned (.tuple #[])∧Then w0 17 #[.pointer (some ⟨hb,0,none⟩),.int .i64 N,.int .i64 a,.int .i64 b,.int .i64 c] (.tuple #[]) w' gb hb N kk tg (p+2)∧Below w0.heap.size w0 w':=by
 obtain ⟨⟨B1,B2,g,o,a1,a2,a3,a4,a5,a6,a7,a8,a9,b1,b2⟩,hbel⟩:=h
 rw [← a6,← a7]
 obtain ⟨S',hS'⟩:=change_alike a8 a b c
 have c1:=changeX a1 (by rw [a8.kk];exact hno) (by omega) (by rw [a8.N];exact hN) a b c ha hbb hc
 rw [a8.N] at c1
 refine c1.mono ?_
 rintro e w' ⟨rfl,r',hr',hP⟩
 have ho:=hP.other2 a2 a5
 have hbel':=hbel.trans (hP.below a1 a3 hbel.size)
 refine ⟨rfl,fun w2 hw2=>?_,hbel'⟩
 have hO:=ho.1.since hw2
 have hG:=hP.ok.since hw2
 have c2:=changeX hO (by rw [a9.kk];exact hno) (by omega) (by rw [a9.N];exact hN) a b c ha hbb hc
 rw [a9.N] at c2
 refine c2.mono ?_
 rintro e w3 ⟨rfl,r3,hr3,hP3⟩
 have ho3:=hP3.other2 hG (fun i hi e=>ho.2 i e hi)
 have hbel2:=hbel'.trans (hw2.mono hbel'.size)
 have s1:=hS' g r' a8
 have s2:=hS' o r3 a9
 rw [a8.N] at s1
 rw [a9.N] at s2
 refine ⟨rfl,S',⟨⟨B1,B2,_,_,ho3.1,hP3.ok,a3,a4,fun i hi e=>ho3.2 i e hi,hP.at_,hP3.at_,s1,s2,?_,?_⟩,hbel2.trans (hP3.below hO a4 hbel2.size)⟩⟩
 ·show r'.pl≤_;omega
 ·show r3.pl≤_;omega
end
open Go.RowKit Go.Shelf Gv
structure Tn where
 s:Fo
 K:Nat→List Nat
 its:List (Spot × Int × List Rule)
 ws:List (Nat × Int × List Rule × Nat)
structure Tn.of (T:Tn) (N:Nat) (kk:Nat→Nat) (tg:Nat→ByteArray) (g:Gx):Prop where
 N:g.N=N
 kk:g.kk=kk
 tg:g.tg=tg
 s:g.σ.s=T.s
 K:g.σ.K=T.K
 it:g.σ.its.map (fun x=>(x.spot,x.see,x.rl))=T.its
 wk:g.ws.map (fun x=>(x.root,x.see,x.rl,x.here))=T.ws
structure Duo (w0 w:World) (gb hb N:Nat) (kk:Nat→Nat) (tg:Nat→ByteArray) (T U:Tn) (X:Nat→Obj→Prop) (p:Nat):Prop where
 ex:∃ B1 B2 g h,GOK B1 w g∧GOK B2 w h∧w0.heap.size≤B1∧w0.heap.size≤B2∧(∀ i,g.own i→¬ h.own i)∧g.gb=gb∧h.gb=hb∧T.of N kk tg g∧U.of N kk tg h∧g.r.pl≤p∧h.r.pl≤p∧(∀ i b,X i b→w.heap[i]?=some b∧¬ g.own i∧¬ h.own i)
 bel:Below w0.heap.size w0 w
section
variable {w0 w w':World} {gb hb N:Nat} {kk:Nat→Nat} {tg:Nat→ByteArray} {T U T':Tn} {X:Nat→Obj→Prop} {p:Nat}
theorem Duo.symm (h:Duo w0 w gb hb N kk tg T U X p):Duo w0 w hb gb N kk tg U T X p:=by
 obtain ⟨⟨B1,B2,g,h,a1,a2,a3,a4,a5,a6,a7,a8,a9,b1,b2,bx⟩,hb⟩:=h
 exact ⟨⟨B2,B1,h,g,a2,a1,a4,a3,fun i hi e=>a5 i e hi,a7,a6,a9,a8,b2,b1,fun i b hi=>⟨(bx i b hi).1,(bx i b hi).2.2,(bx i b hi).2.1⟩⟩,hb⟩
theorem Duo.since (h:Duo w0 w gb hb N kk tg T U X p) (hw:Below w.heap.size w w'):Duo w0 w' gb hb N kk tg T U X p:=by
 obtain ⟨⟨B1,B2,g,h,a1,a2,a3,a4,a5,a6,a7,a8,a9,b1,b2,bx⟩,hb⟩:=h
 exact ⟨⟨B1,B2,g,h,a1.since hw,a2.since hw,a3,a4,a5,a6,a7,a8,a9,b1,b2,fun i b hi=>⟨(hw.block i (lt_of_block (bx i b hi).1)).trans (bx i b hi).1,(bx i b hi).2⟩⟩,hb.trans (hw.mono hb.size)⟩
theorem Duo.new (h:Duo w0 w gb hb N kk tg T U X p) (o:Obj) (X':Nat→Obj→Prop) (hX:∀ i b,X' i b→i=w.heap.size∧b=o):Duo w0 (w.alloc o) gb hb N kk tg T U X' p:=by
 have h1:=h.since ((Below.refl _ _).alloc (Nat.le_refl _) o)
 obtain ⟨⟨B1,B2,g,k,a1,a2,a3,a4,a5,a6,a7,a8,a9,b1,b2,bx⟩,hb⟩:=h
 have hw:Below w.heap.size w (w.alloc o):=(Below.refl _ _).alloc (Nat.le_refl _) o
 refine ⟨⟨B1,B2,g,k,a1.since hw,a2.since hw,a3,a4,a5,a6,a7,a8,a9,b1,b2,fun i b hi=>?_⟩,h1.bel⟩
 obtain ⟨rfl,rfl⟩:=hX i b hi
 exact ⟨heap_alloc_new w _,fun e=>by have:=(a1.bounds e).2;omega,fun e=>by have:=(a2.bounds e).2;omega⟩
theorem Duo.left {B1 B2:Nat} {g g' h:Gx} (a1:GOK B1 w g) (a2:GOK B2 w h) (a3:w0.heap.size≤B1) (a4:w0.heap.size≤B2) (a5:∀ i,g.own i→¬ h.own i) (a6:g.gb=gb) (a7:h.gb=hb) (a9:U.of N kk tg h) (b2:h.r.pl≤p) (bx:∀ i b,X i b→w.heap[i]?=some b∧¬ g.own i∧¬ h.own i) (hbel:Below w0.heap.size w0 w)
  (hP:Post B1 w w' g g') (hS:T'.of N kk tg g') (hp:g'.r.pl≤p):Duo w0 w' gb hb N kk tg T' U X p:=by
 have ho:=hP.other2 a2 a5
 exact ⟨⟨B1,B2,g',h,hP.ok,ho.1,a3,a4,ho.2,hP.at_.trans a6,a7,hS,a9,hp,b2,fun i b hi=>⟨(hP.fr.block i (lt_of_block (bx i b hi).1) (bx i b hi).2.1).trans (bx i b hi).1,fun e=>(hP.own i e).elim (bx i b hi).2.1 (fun e=>by have:=lt_of_block (bx i b hi).1;omega),(bx i b hi).2.2⟩⟩,hbel.trans (hP.below a1 a3 hbel.size)⟩
def t0:Tn:={ s:=zeroF,K:=fun _=>[],its:=[],ws:=[] }
def t1:Tn:={ s:=(Fo.out zeroF 2).insert 1 2 (markOf zeroF 2 0),K:=chK (fun _=>[]) 1 2 (markOf zeroF 2 0),its:=[],ws:=[] }
theorem made0 {B N gb nb c:Nat} {kd:Nat→Value} {mp:Nat→Nat} (h:Made B w gb nb c N kk tg kd mp):t0.of N kk tg (madeX gb nb c N kk tg kd mp):=⟨rfl,rfl,rfl,rfl,rfl,rfl,rfl⟩
theorem two_made {w1 w2:World} {gb nb c hb nb' c':Nat} {kd kd':Nat→Value} {mp mp':Nat→Nat} (h1:Made w0.heap.size w1 gb nb c N kk tg kd mp) (b1:Below w0.heap.size w0 w1) (h2:Made w1.heap.size w2 hb nb' c' N kk tg kd' mp') (b2:Below w1.heap.size w1 w2):Duo w0 w2 gb hb N kk tg t0 t0 (fun _ _=>False) 2:=by
 have g1:=h1.ok
 have g2:=h2.ok
 refine ⟨⟨w0.heap.size,w1.heap.size,_,_,g1.since b2,g2,Nat.le_refl _,b1.size,fun i hi e=>?_,rfl,rfl,made0 h1,made0 h2,by show (0:Int)≤_;omega,by show (0:Int)≤_;omega,fun _ _ h=>h.elim⟩,b1.trans (b2.mono b1.size)⟩
 have:=(g1.bounds hi).2
 have:=(g2.bounds e).1
 omega
theorem no_desc_12':¬ Desc zeroF.par 1 2:=by
 rintro ⟨m,hm⟩
 cases m with
 | zero=>simp [anc] at hm
 | succ m =>
  have e:anc zeroF.par (m+1) 1=anc zeroF.par m 0:=rfl
  rw [e,anc_zero rfl] at hm
  omega
theorem firstD (h:Duo w0 w gb hb N kk tg t0 U X p) (hp:p≤1000) (hno:∀ i,kk i≠1) (h1:kk 1=2) (hN:2≤N) :
  Calls Tryz.prog 11 #[.pointer (some ⟨gb,0,none⟩),.int .i64 1,.int .i64 2,.int .i64 0] w fun e w'=>e=.returned (.int .i64 0)∧Duo w0 w' gb hb N kk tg t1 U X (p+2):=by
 obtain ⟨⟨B1,B2,g,o,a1,a2,a3,a4,a5,a6,a7,a8,a9,b1,b2,bx⟩,hbel⟩:=h
 rw [← a6]
 have hs:g.σ.s=zeroF:=a8.s
 have hK:g.σ.K=fun _=>[]:=a8.K
 have hi:g.σ.its=[]:=by have:=a8.it;simpa [t0] using this
 refine (putX a1 1 2 0 (by omega)).mono ?_
 rintro e w' ⟨q,rfl,hq,hcase⟩
 have hq':=putErr_leafy (p:=1) (c:=2) (b:=0) a1.wf (by rw [a8.kk];exact hno) (by omega) (by rw [a8.N];omega) (by omega) (by rw [a8.N];omega) (.inl rfl) hq
 rw [hs,a8.kk] at hq'
 have hq0:q=0:=by
  rcases hq' with ⟨h,_⟩ | ⟨_,h | h⟩
  ·exact h
  ·exact absurd h no_desc_12'
  ·omega
 rcases hcase with ⟨h,_⟩ | ⟨_,p',c',b',e1,e2,e3,_,_,_,_,_,_,hP⟩
 ·exact absurd hq0 h
 ·obtain rfl:p'=1:=by omega
  obtain rfl:c'=2:=by omega
  obtain rfl:b'=0:=by omega
  subst hq0
  refine ⟨rfl,Duo.left a1 a2 a3 a4 a5 rfl a7 a9 (by omega) bx hbel hP ⟨a8.N,a8.kk,a8.tg,?_,?_,?_,a8.wk⟩ ?_⟩
  ·show (Fo.out g.σ.s 2).insert 1 2 (markOf g.σ.s 2 0)=_;rw [hs];rfl
  ·show chK g.σ.K 1 2 (markOf g.σ.s 2 0)=_;rw [hs,hK];rfl
  ·show (itsOut g.N g.σ.s 2 g.σ.its).map _=_;rw [hi];unfold itsOut;split <;> rfl
  ·show (g.r.outed g.σ.s 2).more.pl≤_
   unfold Re.outed
   have h0:g.σ.s.par 2=0:=by rw [hs];rfl
   rw [if_pos h0]
   show g.r.pl+1≤_
   omega
theorem watchD (h:Duo w0 w gb hb N kk tg T U X p) (root how:Int) (what:ByteArray) (hs:what.size≤maxLen) :
  Calls Tryz.prog 12 #[.pointer (some ⟨gb,0,none⟩),.int .i64 root,.int .i64 how,.string what] w fun e w'=>(∃ q1 q2:Int,e=.returned (.tuple #[.int .i64 q1,.int .i64 q2]))∧Duo w0 w' gb hb N kk tg T U X p:=by
 have h0:=h
 obtain ⟨⟨B1,B2,g,o,a1,a2,a3,a4,a5,a6,a7,a8,a9,b1,b2,bx⟩,hbel⟩:=h
 rw [← a6]
 refine (watchX a1 root how what hs).mono ?_
 rintro e w' (⟨_,rfl,hb1⟩ | ⟨_,m,k,v,_,_,_,_,_,_,rfl,hP⟩)
 ·exact ⟨⟨_,_,rfl⟩,by rw [a6];exact h0.since hb1⟩
 ·exact ⟨⟨_,_,rfl⟩,Duo.left a1 a2 a3 a4 a5 rfl a7 a9 b2 bx hbel hP ⟨a8.N,a8.kk,a8.tg,a8.s,a8.K,a8.it,a8.wk⟩ b1⟩
def ruleObj:Obj:=.cells #[.string ⟨#[98]⟩,.int .i64 2,.string ⟨#[99]⟩,.int .i64 3] 32
def rulesAt (rb:Nat):Nat→Obj→Prop:=fun i b=>i=rb∧b=ruleObj
def twoRules:List Rule:=[(strB,2),(strC,3)]
theorem two_ok {see:Int} (h0:0≤see) (h30:see≤30) (hN:1≤N):mayErr N 1 see twoRules 0=0:=by
 unfold mayErr
 rw [if_neg (by simp [hasB];omega)]
 have e:filtErr see twoRules=0:=by
  unfold filtErr
  rw [if_neg (by omega),if_neg (by decide),if_neg (by decide)]
 rw [if_neg (by rw [e];decide),if_neg (by decide)]
theorem Duo.rules {rb:Nat} (h:Duo w0 w gb hb N kk tg T U (rulesAt rb) p):RulesIn w (some ⟨rb,0,none⟩) twoRules:=by
 obtain ⟨⟨B1,B2,g,o,a1,a2,a3,a4,a5,a6,a7,a8,a9,b1,b2,bx⟩,hbel⟩:=h
 have hb:=(bx rb ruleObj ⟨rfl,rfl⟩).1
 refine ⟨.inr ⟨rb,0,rfl,lt_of_block hb,fun k x hx=>?_⟩,fun x hx=>?_⟩
 ·match k,hx with
  | 0,hx =>
   simp [twoRules] at hx
   subst hx
   exact ⟨cells_of hb _,cells_of hb _⟩
  | 1,hx =>
   simp [twoRules] at hx
   subst hx
   exact ⟨cells_of hb _,cells_of hb _⟩
  | k+2,hx=>simp [twoRules] at hx
 ·simp only [twoRules,List.mem_cons,List.not_mem_nil,or_false] at hx
  rcases hx with rfl | rfl <;> decide
theorem iterD {rb:Nat} (h:Duo w0 w gb hb N kk tg T U (rulesAt rb) p) (hT:T.its=[]) (see:Int) (h0:0≤see) (h30:see≤30) (hN:1≤N) (rc:Nat) :
  Calls Tryz.prog 13 #[.pointer (some ⟨gb,0,none⟩),.int .i64 1,.int .i64 see,.slice (some ⟨rb,0,none⟩) 2 rc] w fun e w'=>(∃ q1 q2:Int,e=.returned (.tuple #[.int .i64 q1,.int .i64 q2]))∧Duo w0 w' gb hb N kk tg { T with its:=[({ root:=1,place:=1,ahead:=true },see,twoRules)] } U (rulesAt rb) p:=by
 have hn:=h.rules
 obtain ⟨⟨B1,B2,g,o,a1,a2,a3,a4,a5,a6,a7,a8,a9,b1,b2,bx⟩,hbel⟩:=h
 rw [← a6]
 have hi:g.σ.its=[]:=by have:=a8.it;rw [hT] at this;simpa using this
 have hq:mayErr g.N 1 see twoRules g.σ.its.length=0:=by rw [hi,a8.N];exact two_ok h0 h30 hN
 refine (iterX a1 1 see twoRules (some ⟨rb,0,none⟩) rc (by decide) hn (fun h=>by cases h)).mono ?_
 rintro e w' (⟨hne,_⟩ | ⟨_,root,v,rv,hr,_,_,rfl,hP⟩)
 ·exact absurd hq hne
 ·obtain rfl:root=1:=by omega
  refine ⟨⟨_,_,rfl⟩,Duo.left a1 a2 a3 a4 a5 rfl a7 a9 b2 bx hbel hP ⟨a8.N,a8.kk,a8.tg,a8.s,a8.K,?_,a8.wk⟩ b1⟩
  show (g.σ.its++[It.made 1 see rv twoRules]).map _=_
  rw [hi];rfl
theorem walkerD {rb:Nat} (h:Duo w0 w gb hb N kk tg T U (rulesAt rb) p) (hT:T.ws=[]) (see:Int) (h0:0≤see) (h30:see≤30) (hN:1≤N) (rc:Nat) :
  Calls Tryz.prog 14 #[.pointer (some ⟨gb,0,none⟩),.int .i64 1,.int .i64 see,.slice (some ⟨rb,0,none⟩) 2 rc] w fun e w'=>(∃ q1 q2:Int,e=.returned (.tuple #[.int .i64 q1,.int .i64 q2]))∧Duo w0 w' gb hb N kk tg { T with ws:=[(1,see,twoRules,1)] } U (rulesAt rb) p:=by
 have hn:=h.rules
 obtain ⟨⟨B1,B2,g,o,a1,a2,a3,a4,a5,a6,a7,a8,a9,b1,b2,bx⟩,hbel⟩:=h
 rw [← a6]
 have hi:g.ws=[]:=by have:=a8.wk;rw [hT] at this;simpa using this
 have hq:mayErr g.N 1 see twoRules g.ws.length=0:=by rw [hi,a8.N];exact two_ok h0 h30 hN
 refine (walkerX a1 1 see twoRules (some ⟨rb,0,none⟩) rc (by decide) hn (fun h=>by cases h)).mono ?_
 rintro e w' (⟨hne,_⟩ | ⟨_,root,v,rv,hr,_,_,rfl,hP⟩)
 ·exact absurd hq hne
 ·obtain rfl:root=1:=by omega
  refine ⟨⟨_,_,rfl⟩,Duo.left a1 a2 a3 a4 a5 rfl a7 a9 b2 bx hbel hP ⟨a8.N,a8.kk,a8.tg,a8.s,a8.K,a8.it,?_⟩ b1⟩
  show (g.ws++[Wk.made 1 see rv twoRules]).map _=_
  rw [hi];rfl
theorem Tn.of.sn {T:Tn} {g:Gx} {sp:Spot} {see see':Int} {rl rl':List Rule} {root here:Nat} (h:T.of N kk tg g) (hi:T.its=[(sp,see,rl)]) (hw:T.ws=[(root,see',rl',here)]):Sn.of { s:=T.s,K:=T.K,spot:=sp,isee:=see,irl:=rl,wroot:=root,wsee:=see',wrl:=rl',here:=here } N kk tg g:=by
 have h1:=h.it
 have h2:=h.wk
 rw [hi] at h1
 rw [hw] at h2
 obtain ⟨a,l,e1,e2,e3⟩:=List.map_eq_cons_iff.1 h1
 obtain ⟨b,m,f1,f2,f3⟩:=List.map_eq_cons_iff.1 h2
 rw [List.map_eq_nil_iff] at e3 f3
 subst e3
 subst f3
 simp only [Prod.mk.injEq] at e2 f2
 exact ⟨h.N,h.kk,h.tg,h.s,h.K,⟨a,e1,e2.1,e2.2.1,e2.2.2⟩,⟨b,f1,f2.1,f2.2.1,f2.2.2.1,f2.2.2.2⟩⟩
theorem Duo.pair {T:Tn} {sp:Spot} {see see':Int} {rl rl':List Rule} {root here:Nat} (h:Duo w0 w gb hb N kk tg T T X p) (hi:T.its=[(sp,see,rl)]) (hw:T.ws=[(root,see',rl',here)]):∃ S,Pair w0 w gb hb N kk tg S p:=by
 obtain ⟨⟨B1,B2,g,o,a1,a2,a3,a4,a5,a6,a7,a8,a9,b1,b2,bx⟩,hbel⟩:=h
 exact ⟨_,⟨⟨B1,B2,g,o,a1,a2,a3,a4,a5,a6,a7,a8.sn hi hw,a9.sn hi hw,b1,b2⟩,hbel⟩⟩
theorem Pair.pos {S:Sn} (h:Pair w0 w gb hb N kk tg S p):1≤S.spot.place∧1≤S.here:=by
 obtain ⟨⟨B1,B2,g,o,a1,a2,a3,a4,a5,a6,a7,a8,a9,b1,b2⟩,hbel⟩:=h
 obtain ⟨a,hi,e1,_⟩:=a8.it
 obtain ⟨x,hx,_,_,_,e4⟩:=a8.wk
 have h1:=a1.gro.sound a (by rw [hi];simp)
 have h2:=a1.wok x (by rw [hx];simp)
 rw [← e1,← e4]
 exact ⟨h1.2.2.1,h2.2.2.1⟩
end
end Go.Proofs.YtcedebpoihcbdaaGreatDoor
