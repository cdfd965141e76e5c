/-
  What an iterator's At and Step do.
-/
import Derived.Test.YtcedebpoihcbdaaGreatDoorYA
import Derived.OwnWalk
import Derived.BigQuiet
import Derived.Deep.LoopGhost
set_option maxHeartbeats 8000000
set_option maxRecDepth 100000
namespace Go.Proofs.YtcedebpoihcbdaaGreatDoor
open Go.RowKit Gv
section
variable {B:Nat} {w:World} {gb nb cap N:Nat} {kk:Nat→Nat} {tg:Nat→ByteArray} {kd:Nat→Value} {mp:Nat→Nat} {σ:St} {r:Re}
theorem numberedI (w:World) (ib n icap k:Nat) (hn:n≤50) (h1:1≤k) (hk:k≤n) :
  Calls Tryz.prog 45 #[.slice (some ⟨ib,0,none⟩) n icap,.int .i64 k] w fun e w'=>e=.returned (.pointer (some ⟨ib,(k-1)*5,none⟩))∧w'=w:=by
 obtain ⟨k,rfl⟩:∃ j,k=j+1:=⟨k-1,by omega⟩
 go_enter Tryz.func45, Tryz.ntmps45
 go_wp2
 go_ret
 exact ⟨by simp,rfl⟩
theorem itAt (w:World) (ib o place:Nat) (ahead:Bool) (k3:w.cell? ⟨ib,o+3,none⟩=some (.int .i64 place)) (k4:w.cell? ⟨ib,o+4,none⟩=some (.bool ahead)) :
  Calls Tryz.prog 56 #[.pointer (some ⟨ib,o,none⟩)] w fun e w'=>e=.returned (.tuple #[.int .i64 place,.bool ahead])∧Below w.heap.size w w':=by
 go_enter Tryz.func56, Tryz.ntmps56
 go_wp2_with fail
 go_quiet (fail)
 go_wp2_with fail
 go_ret2
 exact ⟨rfl,⟨rfl,rfl,rfl,Nat.le_refl _,fun _ _=>rfl⟩⟩
theorem Gro.ivForm (h:Gro B w gb nb cap N kk tg kd mp σ r) {i:Nat} {it:It} (hi:σ.its[i]?=some it):∃ ib icap,r.iv=.slice (some ⟨ib,0,none⟩) σ.its.length icap:=by
 have hl:=(List.getElem?_eq_some_iff.1 hi).1
 rcases row_form h.its.row with ⟨hv,hn⟩ | ⟨g,c,hv,_⟩
 ·omega
 ·exact ⟨g,c,hv⟩
theorem atC (h:Gro B w gb nb cap N kk tg kd mp σ r) {i:Nat} {it:It} (hi:σ.its[i]?=some it) :
  Calls Tryz.prog 22 #[.pointer (some ⟨gb,0,none⟩),.int .i64 (i+1:Nat)] w fun e w'=>e=.returned (.tuple #[.int .i64 it.spot.place,.bool it.spot.ahead,.int .i64 0])∧Below w.heap.size w w':=by
 obtain ⟨ib,icap,hv⟩:=h.ivForm hi
 have hl:=(List.getElem?_eq_some_iff.1 hi).1
 have hI:=h.its
 rw [hv] at hI
 have hfew:=hI.few
 have k3:w.cell? ⟨ib,i*5+3,none⟩=some (.int .i64 it.spot.place):=hI.cellAt (j:=3) hi (by omega)
 have k4:w.cell? ⟨ib,i*5+4,none⟩=some (.bool it.spot.ahead):=hI.cellAt (j:=4) hi (by omega)
 have giv:=h.held.giv
 rw [hv] at giv
 clear h hI hv hi
 go_enter Tryz.func22, Tryz.ntmps22
 go_wp2_with fail
 refine (numberedI w ib σ.its.length icap (i+1) hfew (by omega) (by omega)).mono ?_
 rintro e w ⟨rfl,rfl⟩
 rw [Nat.add_sub_cancel]
 go_wp2_with fail
 refine (itAt w ib (i*5) it.spot.place it.spot.ahead k3 k4).mono ?_
 rintro e w1 ⟨rfl,hb⟩
 have HB:Hid (Below w.heap.size w w1):=hb
 clear hb
 go_wp2_with fail
 go_ret3
 exact ⟨rfl,HB.out⟩
theorem besideC (h:Held w B gb nb cap (N+1) σ.s kd r) (hwf:WF N σ.s σ.K) (ib o root n:Nat) (k0:w.cell? ⟨ib,o,none⟩=some (.int .i64 root)) (hr:root≤N) (h1:1≤n) (hn:n≤N) (hp:n≠root→σ.s.par n≠0) (back:Bool) :
  Calls Tryz.prog 82 #[.pointer (some ⟨ib,o,none⟩),.pointer (some ⟨gb,0,none⟩),.int .i64 n,.bool back] w fun e w'=>e=.returned (.int .i64 (besF σ.s N n root back:Nat))∧w'=w:=by
 have HH:Hid (Held w B gb nb cap (N+1) σ.s kd r):=h
 have HW:Hid (WF N σ.s σ.K):=hwf
 have HP:Hid (n≠root→σ.s.par n≠0):=hp
 clear h hwf hp
 cases back with
 | true =>
  go_enter Tryz.func82, Tryz.ntmps82
  go_wp2_with fail
  refine (prevC HH.out HW.out n root h1 hn HP.out).mono ?_
  rintro e w ⟨rfl,rfl⟩
  go_wp2_with fail
  go_ret
  exact ⟨rfl,rfl⟩
 | false =>
  go_enter Tryz.func82, Tryz.ntmps82
  go_wp2_with fail
  refine (nextC HH.out HW.out n root hn hr).mono ?_
  rintro e w ⟨rfl,rfl⟩
  go_wp2_with fail
  go_ret
  exact ⟨rfl,rfl⟩
def accB (kk:Nat→Nat) (tg:Nat→ByteArray) (see:Int) (rules:List Rule) (n:Nat):Bool:=decide (saysF see rules (kk n) (tg n)=1)
theorem find_head {acc:Nat→Bool} {y:Nat} {ys:List Nat}:((y :: ys).find? acc)=if acc y=true then some y else ys.find? acc:=by
 rw [List.find?_cons];cases acc y <;> rfl
theorem Held.drews {w:World} {B gb nb cap L:Nat} {s:Fo} {kd:Nat→Value} {r:Re} (h:Held w B gb nb cap L s kd r) (w':World) (hh:w'.heap=w.heap):Held w' B gb nb cap L s kd r:=h.same (by rw [hh]) (by rw [hh])
theorem KV.form {k:Nat} {v:Value} (h:KV k v):∃ ty x,v=.iface ty x:=by
 rcases h with ⟨_,rfl⟩ | ⟨_,eb,rfl⟩ | ⟨_,t,rfl⟩ | ⟨_,t,rfl⟩ <;> exact ⟨_,_,rfl⟩
theorem El.drews {w:World} {B:Nat} {v:Value} {t:ByteArray} {mb:Nat} (h:El w B v t mb) (w':World) (hh:w'.heap=w.heap):El w' B v t mb:=by
 obtain ⟨eb,h1,h2,h3⟩:=h
 exact ⟨eb,h1,by rw [hh];exact h2,h3⟩
theorem Fr.drewN' {S:Nat→Prop} {a b:World} (h:Fr S a b) (m:Nat):Fr S a (b.drewN m):=⟨h.os,h.tape,h.output,h.size,h.block⟩
theorem itStep (h:Gro B w gb nb cap N kk tg kd mp σ r) {i:Nat} {it:It} (hi:σ.its[i]?=some it) {ib icap:Nat} (hv:r.iv=.slice (some ⟨ib,0,none⟩) σ.its.length icap) {rules:List Rule} (hR:Rls w B it.rules rules) (back:Bool) :
  Calls Tryz.prog 46 #[.pointer (some ⟨ib,i*5,none⟩),.pointer (some ⟨gb,0,none⟩),.bool back] w fun e w'=>e=.returned (.int .i64 (stepTo N σ.K (accB kk tg it.see rules) it.spot back:Nat))∧Its w' B r.iv (σ.its.set i { it with spot:=it.spot.stepped N σ.K (accB kk tg it.see rules) back })∧Fr (fun j=>j=ib) w w':=by
 have HG:Hid (Gro B w gb nb cap N kk tg kd mp σ r):=h
 have HR:Hid (Rls w B it.rules rules):=hR
 have HI0:Hid (σ.its[i]?=some it):=hi
 have HV:Hid (r.iv=.slice (some ⟨ib,0,none⟩) σ.its.length icap):=hv
 have hN3:=h.N1
 have hI:=h.its
 rw [hv] at hI
 have HI:Hid (Its w B (.slice (some ⟨ib,0,none⟩) σ.its.length icap) σ.its):=hI
 obtain ⟨a1,a2,hibs,_⟩:=ib_apart h.held hI
 have hi50:i<50:=by have:=(List.getElem?_eq_some_iff.1 hi).1;have:=hI.few;omega
 have k0:w.cell? ⟨ib,i*5,none⟩=some (.int .i64 it.spot.root):=hI.cellAt (j:=0) hi (by omega)
 have k1:w.cell? ⟨ib,i*5+1,none⟩=some (.int .i64 it.see):=hI.cellAt (j:=1) hi (by omega)
 have k2:w.cell? ⟨ib,i*5+1+1,none⟩=some it.rules:=hI.cellAt (j:=2) hi (by omega)
 have k3:w.cell? ⟨ib,i*5+3,none⟩=some (.int .i64 it.spot.place):=hI.cellAt (j:=3) hi (by omega)
 have k4:w.cell? ⟨ib,i*5+4,none⟩=some (.bool it.spot.ahead):=hI.cellAt (j:=4) hi (by omega)
 obtain ⟨hr1,hrN,hp1,hpN,hd⟩:=h.sound it (List.mem_of_getElem? hi)
 have hN1:1≤N:=by omega
 have hmem:it.spot.place∈P N σ.K it.spot.root:=(P_mem h.wf hN1 hp1 hpN hr1).2 hd
 have hst:=seq_start h.wf hN1 it.spot hr1 hrN hmem back
 have HSB:Hid (∀ xs y ys,seqOf (P N σ.K it.spot.root) (it.spot.at_ ((P N σ.K it.spot.root).idxOf it.spot.place)) back=xs++y :: ys→besF σ.s N y it.spot.root back=ys.headD 0):=fun xs y ys hq=>seq_beside h.wf hN1 hr1 hrN hq
 have HTO:Hid (stepTo N σ.K (accB kk tg it.see rules) it.spot back=((seqOf (P N σ.K it.spot.root) (it.spot.at_ ((P N σ.K it.spot.root).idxOf it.spot.place)) back).find? (accB kk tg it.see rules)).getD 0):=rfl
 have HQM:Hid (∀ x,x∈seqOf (P N σ.K it.spot.root) (it.spot.at_ ((P N σ.K it.spot.root).idxOf it.spot.place)) back→1≤x∧x≤N∧(x≠it.spot.root→σ.s.par x≠0)):=by
  intro x hx
  have hx':=seq_mem hx
  have hb:=pre_le h.wf N it.spot.root x hr1 hrN hx'
  exact ⟨hb.1,hb.2,fun hne=>par_of_under h.wf.z (pre_desc h.wf N it.spot.root x hx') hr1 hne⟩
 have HPP:Hid (it.spot.place≠it.spot.root→σ.s.par it.spot.place≠0):=fun hne=>par_of_under h.wf.z hd hr1 hne
 have HST:Hid ((if it.spot.ahead=back then besF σ.s N it.spot.place it.spot.root back else it.spot.place)=(seqOf (P N σ.K it.spot.root) (it.spot.at_ ((P N σ.K it.spot.root).idxOf it.spot.place)) back).headD 0):=hst
 generalize seqOf (P N σ.K it.spot.root) (it.spot.at_ ((P N σ.K it.spot.root).idxOf it.spot.place)) back=q at *
 clear h hR hi hv hI hd hmem hst
 cases hab:(it.spot.ahead == back) with
 | true =>
  have eab:it.spot.ahead=back:=by simpa using hab
  have HN0:Hid (besF σ.s N it.spot.place it.spot.root back=q.headD 0):=by have:=HST.out;rw [if_pos eab] at this;exact this
  clear eab
  go_enter Tryz.func46, Tryz.ntmps46
  go_wp2_with fail
  refine (besideC HG.out.held HG.out.wf ib (i*5) it.spot.root it.spot.place k0 hrN hp1 hpN HPP.out back).mono ?_
  rintro e w ⟨rfl,rfl⟩
  go_wp2_with fail
  go_loopg [7] q.length (fun m n wr=>∃ xs ys,q=xs++ys∧ys.length=m∧n=.int .i64 (ys.headD 0:Nat)∧q.find? (accB kk tg it.see rules)=ys.find? (accB kk tg it.see rules)∧Below w.heap.size w wr)
  case atStart=>exact ⟨[],q,rfl,rfl,by rw [HN0.out],rfl,Below.refl _ _⟩
  case round =>
   obtain ⟨xs,ys,hq,hm,rfl,hf,hbel⟩:=hrel
   have HQ:Hid (q=xs++ys):=hq
   have HF:Hid (q.find? (accB kk tg it.see rules)=ys.find? (accB kk tg it.see rules)):=hf
   have HB:Hid (Below w.heap.size w wr):=hbel
   clear hq hf hbel
   cases ys with
   | nil =>
    have HTz:Hid (stepTo N σ.K (accB kk tg it.see rules) it.spot back=0):=by show stepTo N σ.K (accB kk tg it.see rules) it.spot back=0;rw [HTO.out,HF.out];rfl
    simp only [List.headD_nil]
    go_wp2_with fail
    go_quiet (fail)
    go_wp2_with fail
    go_ret
    refine ⟨ret_int (by rw [HTz.out]),?_,(Fr.of_below HB.out).drewN' nq⟩
    have e:it.spot.stepped N σ.K (accB kk tg it.see rules) back=it.spot:=by unfold Spot.stepped;rw [if_pos HTz.out]
    rw [e,HV.out]
    show Its _ B _ (σ.its.set i it)
    rw [set_self HI0.out]
    exact (HI.out.since HB.out).same (fun _ _=>rfl)
   | cons y yt =>
    have hy:=HQM.out y (by rw [HQ.out];simp)
    have HY:Hid (y≠it.spot.root→σ.s.par y≠0):=hy.2.2
    have hy1:=hy.1
    have hyN:=hy.2.1
    have HBs:Hid (besF σ.s N y it.spot.root back=yt.headD 0):=HSB.out xs y yt HQ.out
    have Gr:Hid (Gro B wr gb nb cap N kk tg kd mp σ r):=HG.out.since HB.out
    have hKV:=HG.out.kinds y hy1 hyN
    obtain ⟨ty,vx,hkd⟩:=hKV.form
    have HKD:Hid (kd y=.iface ty vx):=hkd
    have HKV:Hid (KV (kk y) (.iface ty vx)):=by have:=hKV;rw [hkd] at this;exact this
    have c0:wr.cell? ⟨ib,i*5,none⟩=some (.int .i64 it.spot.root):=(HB.out.cell (p:=⟨ib,i*5,none⟩) hibs).trans k0
    have c1:wr.cell? ⟨ib,i*5+1,none⟩=some (.int .i64 it.see):=(HB.out.cell (p:=⟨ib,i*5+1,none⟩) hibs).trans k1
    have c2:wr.cell? ⟨ib,i*5+1+1,none⟩=some it.rules:=(HB.out.cell (p:=⟨ib,i*5+1+1,none⟩) hibs).trans k2
    have c3:wr.cell? ⟨ib,i*5+3,none⟩=some (.int .i64 it.spot.place):=(HB.out.cell (p:=⟨ib,i*5+3,none⟩) hibs).trans k3
    have c4:wr.cell? ⟨ib,i*5+4,none⟩=some (.bool it.spot.ahead):=(HB.out.cell (p:=⟨ib,i*5+4,none⟩) hibs).trans k4
    have C2:Hid (wr.cell? ⟨ib,i*5+1+1,none⟩=some it.rules):=c2
    have HEl:Hid (kk y=2→∃ mb,El wr B (.iface ty vx) (tg y) mb):=fun h2=>⟨mp y,by have:=Gr.out.els y hy1 hyN h2;rw [HKD.out] at this;exact this⟩
    have HRr:Hid (Rls wr B it.rules rules):=HR.out.since HB.out
    have hy0:((y:Int) != 0)=true:=by simp;omega
    clear hKV hkd hy c2
    simp only [List.headD_cons]
    go_wp2_with fail
    go_region_with (first
     | (go_at_call 71;refine (kindF Gr.out.held.drew y (by omega) HKD.out).mono ?_;rintro e w2 ⟨rfl,rfl⟩)
     | (go_at_call 83;refine (saysC HKV.out (w:=wr.drew) (B:=B) (rv:=it.rules) (rules:=rules) (t:=tg y) ib (i*5+1) it.see c1 C2.out ⟨HRr.out.row.drew,HRr.out.few⟩ (fun h2=>(HEl.out h2).imp fun mb he=>he.drews wr.drew rfl)).mono ?_;rintro e w3 ⟨rfl,hb3⟩))
    all_goals
     have HB3:Hid (Below w.heap.size w w3):=HB.out.trans (Below.mono ⟨hb3.os,hb3.tape,hb3.output,hb3.size,hb3.block⟩ HB.out.size)
     clear hb3
     by_cases hs:saysF it.see rules (kk y) (tg y)=1
     ·have HA:Hid (accB kk tg it.see rules y=true):=by show accB kk tg it.see rules y=true;unfold accB;rw [hs];rfl
      have HTy:Hid (stepTo N σ.K (accB kk tg it.see rules) it.spot back=y):=by show stepTo N σ.K (accB kk tg it.see rules) it.spot back=y;rw [HTO.out,HF.out,find_head,if_pos HA.out];rfl
      have d3:w3.cell? ⟨ib,i*5+3,none⟩=some (.int .i64 it.spot.place):=(HB3.out.cell (p:=⟨ib,i*5+3,none⟩) hibs).trans k3
      have d4:w3.cell? ⟨ib,i*5+4,none⟩=some (.bool it.spot.ahead):=(HB3.out.cell (p:=⟨ib,i*5+4,none⟩) hibs).trans k4
      have I3:Hid (Its w3 B (.slice (some ⟨ib,0,none⟩) σ.its.length icap) σ.its):=HI.out.since HB3.out
      have f3:∀ j,w3.frozen? ⟨ib,j,none⟩=false:=fun j=>I3.out.free j
      rw [hs]
      clear hs c0 c1 c3 c4
      go_wp2_with fail
      go_ret
      refine ⟨ret_int (by rw [HTy.out]),?_,Fr.setCell (S:=fun j=>j=ib) (Fr.setCell (S:=fun j=>j=ib) (Fr.of_below HB3.out) rfl _) rfl _⟩
      have e:it.spot.stepped N σ.K (accB kk tg it.see rules) back={ it.spot with place:=y,ahead:=back }:=by unfold Spot.stepped;rw [HTy.out,if_neg (by omega)]
      rw [e,HV.out]
      have J1:=I3.out.store (j:=3) (it':={ it with spot:={ it.spot with place:=y } }) (v:=.int .i64 y) HI0.out (by omega) rfl
      have hi2:(σ.its.set i { it with spot:={ it.spot with place:=y } })[i]?=some { it with spot:={ it.spot with place:=y } }:=by
       rw [List.getElem?_set,if_pos rfl,if_pos (List.getElem?_eq_some_iff.1 HI0.out).1]
      have J2:=J1.store (j:=4) (it':={ it with spot:={ it.spot with place:=y,ahead:=back } }) (v:=.bool back) hi2 (by omega) rfl
      rw [List.set_set] at J2
      exact J2
     ·have HA:Hid (accB kk tg it.see rules y=false):=by show accB kk tg it.see rules y=false;unfold accB;simp [hs]
      have hs':(saysF it.see rules (kk y) (tg y) != 1)=true:=by simp [hs]
      have d0:w3.cell? ⟨ib,i*5,none⟩=some (.int .i64 it.spot.root):=(HB3.out.cell (p:=⟨ib,i*5,none⟩) hibs).trans k0
      clear hs c0 c1 c3 c4
      go_wp2_with fail
      refine (besideC (HG.out.since HB3.out).held HG.out.wf ib (i*5) it.spot.root y d0 hrN hy1 hyN HY.out back).mono ?_
      rintro e w4 ⟨rfl,rfl⟩
      rw [HBs.out]
      go_wp2_with fail
      go_roundg yt.length
      case measure=>simp at hm;omega
      case rel=>exact ⟨xs++[y],yt,by rw [HQ.out];simp,rfl,by rw [List.headD_eq_head?_getD],by rw [HF.out,find_head,if_neg (by rw [HA.out];simp)],HB3.out⟩
 | false =>
  have eab:it.spot.ahead≠back:=by simpa using hab
  have HN0:Hid (it.spot.place=q.headD 0):=by have:=HST.out;rw [if_neg eab] at this;exact this
  clear eab
  go_enter Tryz.func46, Tryz.ntmps46
  go_wp2_with fail
  go_loopg [7] q.length (fun m n wr=>∃ xs ys,q=xs++ys∧ys.length=m∧n=.int .i64 (ys.headD 0:Nat)∧q.find? (accB kk tg it.see rules)=ys.find? (accB kk tg it.see rules)∧Below w.heap.size w wr)
  case atStart=>exact ⟨[],q,rfl,rfl,by rw [HN0.out],rfl,Below.refl _ _⟩
  case round =>
   obtain ⟨xs,ys,hq,hm,rfl,hf,hbel⟩:=hrel
   have HQ:Hid (q=xs++ys):=hq
   have HF:Hid (q.find? (accB kk tg it.see rules)=ys.find? (accB kk tg it.see rules)):=hf
   have HB:Hid (Below w.heap.size w wr):=hbel
   clear hq hf hbel
   cases ys with
   | nil =>
    have HTz:Hid (stepTo N σ.K (accB kk tg it.see rules) it.spot back=0):=by show stepTo N σ.K (accB kk tg it.see rules) it.spot back=0;rw [HTO.out,HF.out];rfl
    simp only [List.headD_nil]
    go_wp2_with fail
    go_quiet (fail)
    go_wp2_with fail
    go_ret
    refine ⟨ret_int (by rw [HTz.out]),?_,(Fr.of_below HB.out).drewN' nq⟩
    have e:it.spot.stepped N σ.K (accB kk tg it.see rules) back=it.spot:=by unfold Spot.stepped;rw [if_pos HTz.out]
    rw [e,HV.out]
    show Its _ B _ (σ.its.set i it)
    rw [set_self HI0.out]
    exact (HI.out.since HB.out).same (fun _ _=>rfl)
   | cons y yt =>
    have hy:=HQM.out y (by rw [HQ.out];simp)
    have HY:Hid (y≠it.spot.root→σ.s.par y≠0):=hy.2.2
    have hy1:=hy.1
    have hyN:=hy.2.1
    have HBs:Hid (besF σ.s N y it.spot.root back=yt.headD 0):=HSB.out xs y yt HQ.out
    have Gr:Hid (Gro B wr gb nb cap N kk tg kd mp σ r):=HG.out.since HB.out
    have hKV:=HG.out.kinds y hy1 hyN
    obtain ⟨ty,vx,hkd⟩:=hKV.form
    have HKD:Hid (kd y=.iface ty vx):=hkd
    have HKV:Hid (KV (kk y) (.iface ty vx)):=by have:=hKV;rw [hkd] at this;exact this
    have c0:wr.cell? ⟨ib,i*5,none⟩=some (.int .i64 it.spot.root):=(HB.out.cell (p:=⟨ib,i*5,none⟩) hibs).trans k0
    have c1:wr.cell? ⟨ib,i*5+1,none⟩=some (.int .i64 it.see):=(HB.out.cell (p:=⟨ib,i*5+1,none⟩) hibs).trans k1
    have c2:wr.cell? ⟨ib,i*5+1+1,none⟩=some it.rules:=(HB.out.cell (p:=⟨ib,i*5+1+1,none⟩) hibs).trans k2
    have c3:wr.cell? ⟨ib,i*5+3,none⟩=some (.int .i64 it.spot.place):=(HB.out.cell (p:=⟨ib,i*5+3,none⟩) hibs).trans k3
    have c4:wr.cell? ⟨ib,i*5+4,none⟩=some (.bool it.spot.ahead):=(HB.out.cell (p:=⟨ib,i*5+4,none⟩) hibs).trans k4
    have C2:Hid (wr.cell? ⟨ib,i*5+1+1,none⟩=some it.rules):=c2
    have HEl:Hid (kk y=2→∃ mb,El wr B (.iface ty vx) (tg y) mb):=fun h2=>⟨mp y,by have:=Gr.out.els y hy1 hyN h2;rw [HKD.out] at this;exact this⟩
    have HRr:Hid (Rls wr B it.rules rules):=HR.out.since HB.out
    have hy0:((y:Int) != 0)=true:=by simp;omega
    clear hKV hkd hy c2
    simp only [List.headD_cons]
    go_wp2_with fail
    go_region_with (first
     | (go_at_call 71;refine (kindF Gr.out.held.drew y (by omega) HKD.out).mono ?_;rintro e w2 ⟨rfl,rfl⟩)
     | (go_at_call 83;refine (saysC HKV.out (w:=wr.drew) (B:=B) (rv:=it.rules) (rules:=rules) (t:=tg y) ib (i*5+1) it.see c1 C2.out ⟨HRr.out.row.drew,HRr.out.few⟩ (fun h2=>(HEl.out h2).imp fun mb he=>he.drews wr.drew rfl)).mono ?_;rintro e w3 ⟨rfl,hb3⟩))
    all_goals
     have HB3:Hid (Below w.heap.size w w3):=HB.out.trans (Below.mono ⟨hb3.os,hb3.tape,hb3.output,hb3.size,hb3.block⟩ HB.out.size)
     clear hb3
     by_cases hs:saysF it.see rules (kk y) (tg y)=1
     ·have HA:Hid (accB kk tg it.see rules y=true):=by show accB kk tg it.see rules y=true;unfold accB;rw [hs];rfl
      have HTy:Hid (stepTo N σ.K (accB kk tg it.see rules) it.spot back=y):=by show stepTo N σ.K (accB kk tg it.see rules) it.spot back=y;rw [HTO.out,HF.out,find_head,if_pos HA.out];rfl
      have d3:w3.cell? ⟨ib,i*5+3,none⟩=some (.int .i64 it.spot.place):=(HB3.out.cell (p:=⟨ib,i*5+3,none⟩) hibs).trans k3
      have d4:w3.cell? ⟨ib,i*5+4,none⟩=some (.bool it.spot.ahead):=(HB3.out.cell (p:=⟨ib,i*5+4,none⟩) hibs).trans k4
      have I3:Hid (Its w3 B (.slice (some ⟨ib,0,none⟩) σ.its.length icap) σ.its):=HI.out.since HB3.out
      have f3:∀ j,w3.frozen? ⟨ib,j,none⟩=false:=fun j=>I3.out.free j
      rw [hs]
      clear hs c0 c1 c3 c4
      go_wp2_with fail
      go_ret
      refine ⟨ret_int (by rw [HTy.out]),?_,Fr.setCell (S:=fun j=>j=ib) (Fr.setCell (S:=fun j=>j=ib) (Fr.of_below HB3.out) rfl _) rfl _⟩
      have e:it.spot.stepped N σ.K (accB kk tg it.see rules) back={ it.spot with place:=y,ahead:=back }:=by unfold Spot.stepped;rw [HTy.out,if_neg (by omega)]
      rw [e,HV.out]
      have J1:=I3.out.store (j:=3) (it':={ it with spot:={ it.spot with place:=y } }) (v:=.int .i64 y) HI0.out (by omega) rfl
      have hi2:(σ.its.set i { it with spot:={ it.spot with place:=y } })[i]?=some { it with spot:={ it.spot with place:=y } }:=by
       rw [List.getElem?_set,if_pos rfl,if_pos (List.getElem?_eq_some_iff.1 HI0.out).1]
      have J2:=J1.store (j:=4) (it':={ it with spot:={ it.spot with place:=y,ahead:=back } }) (v:=.bool back) hi2 (by omega) rfl
      rw [List.set_set] at J2
      exact J2
     ·have HA:Hid (accB kk tg it.see rules y=false):=by show accB kk tg it.see rules y=false;unfold accB;simp [hs]
      have hs':(saysF it.see rules (kk y) (tg y) != 1)=true:=by simp [hs]
      have d0:w3.cell? ⟨ib,i*5,none⟩=some (.int .i64 it.spot.root):=(HB3.out.cell (p:=⟨ib,i*5,none⟩) hibs).trans k0
      clear hs c0 c1 c3 c4
      go_wp2_with fail
      refine (besideC (HG.out.since HB3.out).held HG.out.wf ib (i*5) it.spot.root y d0 hrN hy1 hyN HY.out back).mono ?_
      rintro e w4 ⟨rfl,rfl⟩
      rw [HBs.out]
      go_wp2_with fail
      go_roundg yt.length
      case measure=>simp at hm;omega
      case rel=>exact ⟨xs++[y],yt,by rw [HQ.out];simp,rfl,by rw [List.headD_eq_head?_getD],by rw [HF.out,find_head,if_neg (by rw [HA.out];simp)],HB3.out⟩
end
end Go.Proofs.YtcedebpoihcbdaaGreatDoor
