/-
  What an iterator's Leave and the grove's takeOut do.
  What the grove's Put and Take do, for all numbers.
-/
import Derived.Test.YtcedebpoihcbdaaGreatDoorWB
import Derived.Deep.RegionWith
set_option maxHeartbeats 1000000
set_option maxRecDepth 100000
namespace Go.Proofs.YtcedebpoihcbdaaGreatDoor
open Go.RowKit Gv
theorem ib_apart {w:World} {B gb nb cap L n ib icap:Nat} {s:Fo} {kd:Nat→Value} {r:Re} {its:List It} (h:Held w B gb nb cap L s kd r) (hI:Its w B (.slice (some ⟨ib,0,none⟩) n icap) its):ib≠gb∧ib≠nb∧ib<w.heap.size∧B≤ib:=by
 obtain ⟨cur,hn,_⟩:=h.block
 have h1:=row_apart hI.row h.g (by decide)
 have h2:=row_apart hI.row hn (by decide)
 have h3:=hI.row.lt ib rfl
 simp [Value.ownBlock] at h1 h2
 exact ⟨h1,h2,h3.2,h3.1⟩
section
variable {w:World} {B gb nb cap N:Nat} {s:Fo} {kd:Nat→Value} {K:Nat→List Nat} {r:Re} {its:List It} {ib n icap:Nat}
theorem leave_stay {N:Nat} {s:Fo} {c:Nat} {i:Spot} (h:¬ (withF s N i.place c=true∧withF s N i.root c=false)):i.leave N s c=i:=by
 unfold Spot.leave;rw [if_neg h]
theorem leave_past {N:Nat} {s:Fo} {c:Nat} {i:Spot} (h:withF s N i.place c=true) (h':withF s N i.root c=false) (ha:i.ahead=true) (hp:pastF s (N+1) c i.root≠0):i.leave N s c={ i with place:=pastF s (N+1) c i.root }:=by
 unfold Spot.leave;rw [if_pos ⟨h,h'⟩,if_pos ⟨ha,hp⟩]
theorem leave_prev {N:Nat} {s:Fo} {c:Nat} {i:Spot} (h:withF s N i.place c=true) (h':withF s N i.root c=false) (ha:¬ (i.ahead=true∧pastF s (N+1) c i.root≠0)):i.leave N s c={ i with place:=prevF s N c i.root,ahead:=false }:=by
 unfold Spot.leave;rw [if_pos ⟨h,h'⟩,if_neg ha]
theorem set_self {α:Type} {l:List α} {i:Nat} {a:α} (h:l[i]?=some a):l.set i a=l:=by
 apply List.ext_getElem?
 intro j
 rw [List.getElem?_set]
 split
 ·rename_i e;subst e
  obtain ⟨hh,_⟩:=List.getElem?_eq_some_iff.1 h
  rw [if_pos hh,h]
 ·rfl
theorem leaveC (h:Held w B gb nb cap (N+1) s kd r) (hwf:WF N s K) (hI:Its w B (.slice (some ⟨ib,0,none⟩) n icap) its) {i:Nat} {it:It} (hi:its[i]?=some it) (hit:it.Sound N s) (c:Nat) (hc1:1≤c) (hcN:c≤N) (hcp:s.par c≠0) :
  Calls Tryz.prog 74 #[.pointer (some ⟨ib,i*5,none⟩),.pointer (some ⟨gb,0,none⟩),.int .i64 c] w fun e w'=>e=.returned (.tuple #[])∧Its w' B (.slice (some ⟨ib,0,none⟩) n icap) (its.set i (it.leave N s c))∧Fr (fun j=>j=ib) w w':=by
 have HH:Hid (Held w B gb nb cap (N+1) s kd r):=h
 have HW:Hid (WF N s K):=hwf
 have HI:Hid (Its w B (.slice (some ⟨ib,0,none⟩) n icap) its):=hI
 have HIi:Hid (its[i]?=some it):=hi
 have hL:=h.hL
 obtain ⟨a1,a2,_,_⟩:=ib_apart h hI
 have hi50:i<50:=by have:=(List.getElem?_eq_some_iff.1 hi).1;have:=hI.few;omega
 have k0:w.cell? ⟨ib,i*5,none⟩=some (.int .i64 it.spot.root):=hI.cellAt (j:=0) hi (by omega)
 have k3:w.cell? ⟨ib,i*5+3,none⟩=some (.int .i64 it.spot.place):=hI.cellAt (j:=3) hi (by omega)
 have k4:w.cell? ⟨ib,i*5+4,none⟩=some (.bool it.spot.ahead):=hI.cellAt (j:=4) hi (by omega)
 have fr:∀ j,w.frozen? ⟨ib,j,none⟩=false:=fun j=>hI.free j
 obtain ⟨hr1,hrN,hp1,hpN,hd⟩:=hit
 have HCP:Hid (s.par c≠0):=hcp
 have HD:Hid (Desc s.par it.spot.place it.spot.root):=hd
 clear h hwf hI hi hcp hd
 by_cases w1:withF s N it.spot.place c=true
 ·by_cases w2:withF s N it.spot.root c=true
  ·have E:Hid (its.set i (it.leave N s c)=its):=by
    show its.set i (it.leave N s c)=its
    rw [show it.leave N s c=it from by unfold It.leave;rw [leave_stay (by rw [w2];simp)]]
    exact set_self HIi.out
   go_enter Tryz.func74, Tryz.ntmps74
   go_wp2_with fail
   refine (withinC HH.out HW.out it.spot.place c hpN hc1 hcN).mono ?_
   rintro e w ⟨rfl,rfl⟩
   rw [w1]
   go_wp2_with fail
   refine (withinC HH.out HW.out it.spot.root c hrN hc1 hcN).mono ?_
   rintro e w ⟨rfl,rfl⟩
   rw [w2]
   go_wp2_with fail
   (try simp only [Exit.inBlock,Exit.then])
   refine bodyPost_ret (results_none rfl _ _ _) rfl ?_
   exact ⟨rfl,by rw [E.out];exact HI.out,Fr.refl _ _⟩
  ·have w2':withF s N it.spot.root c=false:=by simpa using w2
   have hrc:it.spot.root≠c:=by
    intro e
    exact w2 ((Gv.within_iff HW.out hrN hc1).2 (e ▸ Desc.refl _ _))
   by_cases ha:it.spot.ahead=true
   ·by_cases hp:pastF s (N+1) c it.spot.root=0
    ·have E:Hid (it.spot.leave N s c={ it.spot with place:=prevF s N c it.spot.root,ahead:=false }):=leave_prev w1 w2' (by rw [hp];simp)
     have HR:Hid (c≠it.spot.root→s.par c≠0):=fun _=>HCP.out
     rw [ha] at k4
     clear w2 ha hrc
     go_enter Tryz.func74, Tryz.ntmps74
     go_wp2_with fail
     refine (withinC HH.out HW.out it.spot.place c hpN hc1 hcN).mono ?_
     rintro e w ⟨rfl,rfl⟩
     rw [w1]
     go_wp2_with fail
     refine (withinC HH.out HW.out it.spot.root c hrN hc1 hcN).mono ?_
     rintro e w ⟨rfl,rfl⟩
     rw [w2']
     go_wp2_with fail
     refine (pastC HH.out HW.out c it.spot.root hcN hrN).mono ?_
     rintro e w ⟨rfl,rfl⟩
     rw [hp]
     go_wp2_with fail
     have F1:Fr (fun j=>j=ib) w (w.setCell ⟨ib,i*5+4,none⟩ (.bool false)):=Fr.setCell (S:=fun j=>j=ib) (Fr.refl _ _) rfl _
     have I1:=HI.out.store (j:=4) (it':={ it with spot:={ it.spot with ahead:=false } }) (v:=.bool false) HIi.out (by omega) rfl
     refine (prevC (HH.out.fr F1 (fun e=>a1 e.symm) (fun e=>a2 e.symm)) HW.out c it.spot.root hc1 hcN HR.out).mono ?_
     rintro e w1 ⟨rfl,rfl⟩
     have I2:Hid _:=I1
     clear I1 F1
     go_wp2_with fail
     go_end0
     have hi2:(its.set i { it with spot:={ it.spot with ahead:=false } })[i]?=some { it with spot:={ it.spot with ahead:=false } }:=by
      rw [List.getElem?_set,if_pos rfl,if_pos (List.getElem?_eq_some_iff.1 HIi.out).1]
     have I3:=I2.out.store (j:=3) (it':={ it with spot:={ it.spot with place:=prevF s N c it.spot.root,ahead:=false } }) (v:=.int .i64 (prevF s N c it.spot.root:Nat)) hi2 (by omega) rfl
     rw [List.set_set] at I3
     refine ⟨rfl,?_,Fr.setCell (S:=fun j=>j=ib) (Fr.setCell (S:=fun j=>j=ib) (Fr.refl _ _) rfl _) rfl _⟩
     unfold It.leave
     rw [E.out]
     exact I3
    ·have E:Hid (it.spot.leave N s c={ it.spot with place:=pastF s (N+1) c it.spot.root }):=leave_past w1 w2' ha hp
     have hp':(((pastF s (N+1) c it.spot.root:Nat):Int) != 0)=true:=by simp;omega
     rw [ha] at k4
     clear w2 ha hrc hp
     go_enter Tryz.func74, Tryz.ntmps74
     go_wp2_with fail
     refine (withinC HH.out HW.out it.spot.place c hpN hc1 hcN).mono ?_
     rintro e w ⟨rfl,rfl⟩
     rw [w1]
     go_wp2_with fail
     refine (withinC HH.out HW.out it.spot.root c hrN hc1 hcN).mono ?_
     rintro e w ⟨rfl,rfl⟩
     rw [w2']
     go_wp2_with fail
     refine (pastC HH.out HW.out c it.spot.root hcN hrN).mono ?_
     rintro e w ⟨rfl,rfl⟩
     go_wp2_with fail
     (try simp only [Exit.inBlock,Exit.then])
     refine bodyPost_ret (results_none rfl _ _ _) rfl ?_
     have I3:=HI.out.store (j:=3) (it':={ it with spot:={ it.spot with place:=pastF s (N+1) c it.spot.root } }) (v:=.int .i64 (pastF s (N+1) c it.spot.root:Nat)) HIi.out (by omega) rfl
     refine ⟨rfl,?_,Fr.setCell (S:=fun j=>j=ib) (Fr.refl _ _) rfl _⟩
     unfold It.leave
     rw [E.out]
     exact I3
   ·have ha':it.spot.ahead=false:=by simpa using ha
    have E:Hid (it.spot.leave N s c={ it.spot with place:=prevF s N c it.spot.root,ahead:=false }):=leave_prev w1 w2' (fun h=>ha h.1)
    have HR:Hid (c≠it.spot.root→s.par c≠0):=fun _=>HCP.out
    have HA:Hid (it.spot.ahead=false):=ha'
    rw [ha'] at k4
    clear w2 ha hrc ha'
    go_enter Tryz.func74, Tryz.ntmps74
    go_wp2_with fail
    refine (withinC HH.out HW.out it.spot.place c hpN hc1 hcN).mono ?_
    rintro e w ⟨rfl,rfl⟩
    rw [w1]
    go_wp2_with fail
    refine (withinC HH.out HW.out it.spot.root c hrN hc1 hcN).mono ?_
    rintro e w ⟨rfl,rfl⟩
    rw [w2']
    go_wp2_with fail
    refine (prevC HH.out HW.out c it.spot.root hc1 hcN HR.out).mono ?_
    rintro e w1 ⟨rfl,rfl⟩
    go_wp2_with fail
    go_end0
    have I3:=HI.out.store (j:=3) (it':={ it with spot:={ it.spot with place:=prevF s N c it.spot.root,ahead:=false } }) (v:=.int .i64 (prevF s N c it.spot.root:Nat)) HIi.out (by omega) (by simp [It.row,HA.out])
    refine ⟨rfl,?_,Fr.setCell (S:=fun j=>j=ib) (Fr.refl _ _) rfl _⟩
    unfold It.leave
    rw [E.out]
    exact I3
 ·have w1':withF s N it.spot.place c=false:=by simpa using w1
  have E:Hid (its.set i (it.leave N s c)=its):=by
   show its.set i (it.leave N s c)=its
   rw [show it.leave N s c=it from by unfold It.leave;rw [leave_stay (by rw [w1'];simp)]]
   exact set_self HIi.out
  clear w1
  go_enter Tryz.func74, Tryz.ntmps74
  go_wp2_with fail
  refine (withinC HH.out HW.out it.spot.place c hpN hc1 hcN).mono ?_
  rintro e w ⟨rfl,rfl⟩
  rw [w1']
  go_wp2_with fail
  (try simp only [Exit.inBlock,Exit.then])
  refine bodyPost_ret (results_none rfl _ _ _) rfl ?_
  exact ⟨rfl,by rw [E.out];exact HI.out,Fr.refl _ _⟩
def leftTo (N:Nat) (s:Fo) (c:Nat) (its:List It) (k:Nat):List It:=(its.take k).map (It.leave N s c)++its.drop k
theorem leftTo_zero (N:Nat) (s:Fo) (c:Nat) (its:List It):leftTo N s c its 0=its:=by simp [leftTo]
theorem leftTo_all (N:Nat) (s:Fo) (c:Nat) (its:List It):leftTo N s c its its.length=its.map (It.leave N s c):=by simp [leftTo]
theorem leftTo_at (N:Nat) (s:Fo) (c:Nat) {its:List It} {k:Nat} {it:It} (h:its[k]?=some it):(leftTo N s c its k)[k]?=some it:=by
 obtain ⟨hk,_⟩:=List.getElem?_eq_some_iff.1 h
 unfold leftTo
 rw [List.getElem?_append_right (by simp;omega)]
 simp
 rw [Nat.min_eq_left (by omega),Nat.sub_self,Nat.add_zero]
 exact h
theorem leftTo_set (N:Nat) (s:Fo) (c:Nat) {its:List It} {k:Nat} {it:It} (h:its[k]?=some it):(leftTo N s c its k).set k (it.leave N s c)=leftTo N s c its (k+1):=by
 obtain ⟨hk,e⟩:=List.getElem?_eq_some_iff.1 h
 unfold leftTo
 rw [List.set_append,if_neg (by simp;omega),List.take_succ_eq_append_getElem hk,List.map_append,List.drop_eq_getElem_cons hk,e]
 simp
 rw [Nat.min_eq_left (by omega),Nat.sub_self,List.set_cons_zero]
def gset (gb nb:Nat) (v:Value):Nat→Prop:=fun i=>i=gb∨i=nb∨v.ownBlock=some i
theorem leave_sound (hwf:WF N s K) (hN:1≤N) {it:It} (hit:it.Sound N s) {c:Nat} (hc1:1≤c) (hcN:c≤N):(it.leave N s c).Sound N (Fo.out s c):=by
 obtain ⟨h1,h2,h3,h4,h5⟩:=hit
 have h:=leave_within hwf hN hc1 hcN it.spot h1 h2 h3 h4 h5
 have hr:(it.leave N s c).spot.root=it.spot.root:=Spot.leave_root N s c it.spot
 exact ⟨by rw [hr];exact h1,by rw [hr];exact h2,h.2.1,h.2.2,by rw [hr];exact h.1⟩
theorem takeOutC (h:Held w B gb nb cap (N+1) s kd r) (hwf:WF N s K) (hI:Its w B r.iv its) (hs:∀ it,it∈its→it.Sound N s) (c:Nat) (hc1:1≤c) (hcN:c≤N) (hcp:s.par c≠0) (hpl:0≤r.pl) (hpl2:r.pl≤4611686018427387904) :
  Calls Tryz.prog 38 #[.pointer (some ⟨gb,0,none⟩),.int .i64 c] w fun e w'=>e=.returned (.tuple #[])∧Held w' B gb nb cap (N+1) (s.remove c) kd r.more∧Its w' B r.iv (its.map (It.leave N s c))∧Fr (gset gb nb r.iv) w w':=by
 have HH:Hid (Held w B gb nb cap (N+1) s kd r):=h
 have HW:Hid (WF N s K):=hwf
 have HS:Hid (∀ it,it∈its→it.Sound N s):=hs
 have HCP:Hid (s.par c≠0):=hcp
 have hL:=h.hL
 have hbd:=ahd_le hwf hc1 hcN hcp
 have hpn:=hwf.parLe c hcN
 have giv:=h.giv
 rcases row_form hI.row with ⟨hv,hn⟩ | ⟨ib,icap,hv,hib,hibs,hcur,hicap⟩
 ·have HI:Hid (Its w B r.iv its):=hI
  have HN:Hid (its=[]):=List.length_eq_zero_iff.1 hn
  rw [hv] at giv
  clear h hwf hI hs hcp hv hn
  go_enter Tryz.func38, Tryz.ntmps38
  go_wp2_with fail
  go_loopw [10] (fun i wr=>i=.int .i64 0∧wr=w) (fun _ _=>0)
  case atStart=>exact ⟨rfl,rfl⟩
  case round =>
   obtain ⟨rfl,rfl⟩:=hrel
   obtain ⟨w,rfl⟩:∃ w:World,w=wr:=⟨_,rfl⟩
   go_wp2_with fail
   refine (removeF HH.out c (by omega) (by omega) (by omega) (by omega) hpl hpl2).mono ?_
   rintro e w2 ⟨rfl,H2,G2⟩
   have H2':Hid _:=H2
   have G2':Hid _:=G2
   clear H2 G2
   go_wp2_with fail
   go_end0
   refine ⟨rfl,H2'.out,?_,G2'.out.mono (fun i hi=>hi.imp id .inl)⟩
   rw [HN.out,List.map_nil]
   have:=HI.out
   rw [HN.out] at this
   refine this.fr G2'.out (fun g hg=>?_)
   have hrow:=this.row
   obtain ⟨cur,hn,_⟩:=HH.out.block
   rintro (rfl | rfl)
   ·exact row_apart hrow HH.out.g (by decide) hg
   ·exact row_apart hrow hn (by decide) hg
 ·rw [hv] at giv hI ⊢
  have HI:Hid (Its w B (.slice (some ⟨ib,0,none⟩) its.length icap) its):=hI
  obtain ⟨a1,a2,_,_⟩:=ib_apart h hI
  have a1':gb≠ib:=fun e=>a1 e.symm
  have hfew:=hI.few
  have HV:Hid (r.iv=.slice (some ⟨ib,0,none⟩) its.length icap):=hv
  clear h hwf hI hs hcp hv hcur
  go_enter Tryz.func38, Tryz.ntmps38
  go_wp2_with fail
  go_loopw [10] (fun i wr=>∃ k:Nat,k≤its.length∧i=.int .i64 k∧Its wr B (.slice (some ⟨ib,0,none⟩) its.length icap) (leftTo N s c its k)∧Fr (fun j=>j=ib) w wr) (fun i _=>its.length-(intOf i).toNat)
  case atStart=>exact ⟨0,Nat.zero_le _,rfl,by rw [leftTo_zero];exact HI.out,Fr.refl _ _⟩
  case round =>
   obtain ⟨k,hk,rfl,hIk,hfk⟩:=hrel
   have HIk:Hid (Its wr B (.slice (some ⟨ib,0,none⟩) its.length icap) (leftTo N s c its k)):=hIk
   have HFk:Hid (Fr (fun j=>j=ib) w wr):=hfk
   have HHk:Hid (Held wr B gb nb cap (N+1) s kd r):=HH.out.fr hfk a1' (fun e=>a2 e.symm)
   have givk:wr.cell? ⟨gb,4,none⟩=some (.slice (some ⟨ib,0,none⟩) its.length icap):=by have:=HHk.out.giv;rw [HV.out] at this;exact this
   clear hIk hfk giv
   by_cases hlt:k<its.length
   ·have hget:its[k]?=some its[k]:=List.getElem?_eq_getElem hlt
    have HG:Hid (its[k]?=some its[k]):=hget
    have HSk:Hid (its[k].Sound N s):=HS.out _ (List.getElem_mem _)
    clear hget
    generalize its[k]=it at *
    have hik:(k:Int)<((its.length:Nat):Int):=by omega
    go_wp2_with fail
    go_region_with (go_at_call 74;refine (leaveC HHk.out.drew HW.out (Its.same HIk.out (fun _ _=>rfl)) (leftTo_at N s c HG.out) HSk.out c hc1 hcN HCP.out).mono ?_;rintro e w2 ⟨rfl,I2,F2⟩)
    all_goals
     have I2':Hid _:=I2
     have F2':Hid _:=F2
     clear I2 F2
     go_wp2_with fail
     go_roundw
     case rel=>exact ⟨k+1,hlt,by go_num,by rw [← leftTo_set N s c HG.out];exact I2'.out,HFk.out.drew.trans F2'.out⟩
     case measure=>simp [intOf];omega
   ·have hkk:k=its.length:=by omega
    subst hkk
    clear givk
    go_wp2_with fail
    refine (removeF HHk.out c (by omega) (by omega) (by omega) (by omega) hpl hpl2).mono ?_
    rintro e w2 ⟨rfl,H2,G2⟩
    have H2':Hid _:=H2
    have G2':Hid _:=G2
    clear H2 G2
    go_wp2_with fail
    go_end0
    refine ⟨rfl,H2'.out,?_,?_⟩
    ·rw [← leftTo_all]
     refine HIk.out.fr G2'.out (fun g hg=>?_)
     simp [Value.ownBlock] at hg
     subst hg
     rintro (e | e)
     ·exact a1 e
     ·exact a2 e
    ·exact (HFk.out.mono (fun i hi=>.inr (.inr (by simp [Value.ownBlock];exact hi.symm)))).trans (G2'.out.mono (fun i hi=>hi.imp id .inl))
end
open Go.RowKit Gv
def Re.outed (r:Re) (s:Fo) (c:Nat):Re:=if s.par c=0 then r else r.more
def itsOut (N:Nat) (s:Fo) (c:Nat) (its:List It):List It:=if s.par c=0 then its else its.map (It.leave N s c)
theorem Re.outed_iv (r:Re) (s:Fo) (c:Nat):(r.outed s c).iv=r.iv:=by unfold Re.outed;split <;> rfl
section
variable {w:World} {B gb nb cap N:Nat} {s:Fo} {kd:Nat→Value} {K:Nat→List Nat} {r:Re} {kk:Nat→Nat} {its:List It}
theorem lst_bound (hwf:WF N s K) {p:Nat} (hp1:1≤p) (hpN:p≤N):s.lst p≤N:=by
 rw [hwf.lst p hp1 hpN]
 by_cases hx:K p=[]
 ·simp [hx]
 ·exact (hwf.kid p _ (last_mem hx 0)).2.2.2.1
theorem mark_bound (hwf:WF N s K) {p c b:Nat} (hc1:1≤c) (hcN:c≤N) (hb:b=0∨b∈K p):markOf s c b≤N∧(markOf s c b≠0→(Fo.out s c).ahd (markOf s c b)≤N):=by
 have h1:=out_wf hwf hc1 hcN
 have hm:markOf s c b=0∨markOf s c b∈dropK K c p:=by
  unfold markOf
  by_cases e:b=c
  ·subst e
   rw [if_pos rfl]
   rcases hb with rfl | hb
   ·omega
   ·obtain ⟨xs,ys,hK⟩:=split_of_mem hb
    have hn:=hwf.nd p
    rw [hK] at hn
    rw [(hwf.sides hK).2]
    by_cases hy:ys=[]
    ·subst hy;exact .inl rfl
    ·right
     simp only [dropK,hK]
     rw [filter_split (split_nodup hn).1 (split_nodup hn).2]
     exact List.mem_append.2 (.inr (head_mem hy 0))
  ·rw [if_neg e]
   rcases hb with rfl | hb
   ·exact .inl rfl
   ·right
    simp only [dropK,List.mem_filter]
    exact ⟨hb,by simp [e]⟩
 rcases hm with hm | hm
 ·exact ⟨by omega,fun h=>absurd hm h⟩
 ·have hk:=h1.kid p _ hm
  exact ⟨hk.2.2.2.1,fun _=>(ahd_le h1 hk.2.2.1 hk.2.2.2.1 (by omega)).1⟩
theorem putErr_zero {p c b:Int} (hwf:WF N s K) (h:PutErr N s K kk p c b 0):∃ p' c' b':Nat,p=p'∧c=c'∧b=b'∧1≤p'∧p'≤N∧1≤c'∧c'≤N∧kk p'≤2∧kk c'≠1∧¬ Desc s.par p' c'∧(b'=0∨b'∈K p')∧¬ Full kk K p' c':=by
 rcases h with ⟨h,_⟩ | ⟨p',c',b',e1,e2,e3,h1,h2,h3,h4,h5,h6⟩
 ·omega
 ·rcases h6 with ⟨h,_⟩ | ⟨k1,k2,k3,h7⟩
  ·omega
  ·rcases h7 with ⟨h,_⟩ | ⟨hb,h8⟩
   ·omega
   ·rcases h8 with ⟨h,_⟩ | ⟨_,h9⟩
    ·omega
    ·refine ⟨p',c',b',e1,e2,e3,h1,h2,h3,h4,k1,k2,k3,?_,h9⟩
     by_cases h0:b'=0
     ·exact .inl h0
     ·rcases hb with hb | hb
      ·exact absurd hb h0
      ·right
       have:=hwf.own b' (by omega) h5 (by omega)
       rwa [hb] at this
theorem putC (h:Held w B gb nb cap (N+1) s kd r) (hwf:WF N s K) (hk:Kinds N kk kd) (hI:Its w B r.iv its) (hs:∀ it,it∈its→it.Sound N s) (p c b:Int) (hpl:0≤r.pl) (hpl2:r.pl+1≤4611686018427387904) :
  Calls Tryz.prog 11 #[.pointer (some ⟨gb,0,none⟩),.int .i64 p,.int .i64 c,.int .i64 b] w fun e w'=>∃ q:Int,e=.returned (.int .i64 q)∧Fr (gset gb nb r.iv) w w'∧PutErr N s K kk p c b q ∧
   ((q≠0∧Held w' B gb nb cap (N+1) s kd r∧Its w' B r.iv its) ∨
     (q=0∧∃ p' c' b':Nat,p=p'∧c=c'∧b=b'∧Held w' B gb nb cap (N+1) ((Fo.out s c').insert p' c' (markOf s c' b')) kd (r.outed s c').more∧Its w' B r.iv (itsOut N s c' its))):=by
 have HH:Hid (Held w B gb nb cap (N+1) s kd r):=h
 have HW:Hid (WF N s K):=hwf
 have HK:Hid (Kinds N kk kd):=hk
 have HI:Hid (Its w B r.iv its):=hI
 have HS:Hid (∀ it,it∈its→it.Sound N s):=hs
 have hL:=h.hL
 have HAp:Hid (∀ g,r.iv.ownBlock=some g→g≠gb∧g≠nb):=by
  intro g hg
  obtain ⟨cur,hn,_⟩:=h.block
  constructor
  ·rintro rfl;exact row_apart hI.row h.g (by decide) hg
  ·rintro rfl;exact row_apart hI.row hn (by decide) hg
 clear h hwf hk hI hs
 go_enter Tryz.func11, Tryz.ntmps11
 go_wp2_with fail
 refine (mayPutF HH.out HW.out HK.out p c b).mono ?_
 rintro e w1 ⟨q,rfl,hq,hb1⟩
 have H1:Hid (Held w1 B gb nb cap (N+1) s kd r):=HH.out.since hb1
 have I1:Hid (Its w1 B r.iv its):=HI.out.since hb1
 have G1:Hid (Fr (gset gb nb r.iv) w w1):=Fr.of_below hb1
 have HQ:Hid (PutErr N s K kk p c b q):=hq
 clear hb1 hq HH HI
 by_cases q0:q=0
 ·subst q0
  obtain ⟨p,c,b,rfl,rfl,rfl,hp1,hpN,hc1,hcN,-,-,-,hbk,-⟩:=putErr_zero HW.out HQ.out
  have HB:Hid (b=0∨b∈K p):=hbk
  have hpar:=HW.out.parLe c hcN
  have HM:=mark_bound HW.out hc1 hcN hbk
  have hm1:=HM.1
  have HM2:Hid (markOf s c b≠0→(Fo.out s c).ahd (markOf s c b)≤N):=HM.2
  have hlst:=lst_bound (out_wf HW.out hc1 hcN) hp1 hpN
  clear hbk HM
  by_cases e0:s.par c=0
  ·have ec:b≠c:=by
    rintro rfl
    rcases HB.out with h | h
    ·omega
    ·have:=HW.out.kid p b h;omega
   have em:markOf s c b=b:=by unfold markOf;rw [if_neg ec]
   have eo:Fo.out s c=s:=by unfold Fo.out;rw [if_pos e0]
   have EM:Hid (markOf s c b=b):=em
   have EO:Hid (Fo.out s c=s):=eo
   have ER:Hid (r.outed s c=r):=by show r.outed s c=r;unfold Re.outed;rw [if_pos e0]
   have EI:Hid (itsOut N s c its=its):=by show itsOut N s c its=its;unfold itsOut;rw [if_pos e0]
   have x1:b≤N:=by rw [← em];exact hm1
   have x2:s.lst p≤N:=by rw [← eo];exact hlst
   have X3:Hid (b≠0→s.ahd b≤N):=by have h:=HM2.out;rw [em,eo] at h;exact h
   have ec':((b:Int) == (c:Int))=false:=by simp;omega
   have e0':(((s.par c:Nat):Int) != 0)=false:=by simp;omega
   clear ec em eo e0 hm1 hlst HM2
   go_wp2_with fail
   refine (parentF H1.out c (by omega)).mono ?_
   rintro e w1 ⟨rfl,rfl⟩
   go_wp2_with fail
   refine (insertF H1.out p c b (by omega) (by omega) (by omega) (by omega) (fun h=>Nat.lt_succ_of_le (X3.out h)) hpl (by omega)).mono ?_
   rintro e w2 ⟨rfl,H2,G2⟩
   have H2':Hid _:=H2
   have G2':Hid _:=G2
   clear H2 G2
   go_wp2_with fail
   go_ret
   refine ⟨0,rfl,G1.out.trans (G2'.out.mono (fun i hi=>hi.imp id .inl)),HQ.out,.inr ⟨rfl,p,c,b,rfl,rfl,rfl,by rw [EO.out,EM.out,ER.out];exact H2'.out,?_⟩⟩
   rw [EI.out]
   exact I1.out.fr G2'.out (fun g hg=>by rintro (e | e);exact (HAp.out g hg).1 e;exact (HAp.out g hg).2 e)
  ·have e0':(((s.par c:Nat):Int) != 0)=true:=by simp;omega
   have E0:Hid (s.par c≠0):=e0
   have eo:Fo.out s c=s.remove c:=by unfold Fo.out;rw [if_neg e0]
   have EO:Hid (Fo.out s c=s.remove c):=eo
   have ER:Hid (r.outed s c=r.more):=by show r.outed s c=r.more;unfold Re.outed;rw [if_neg e0]
   have EI:Hid (itsOut N s c its=its.map (It.leave N s c)):=by show itsOut N s c its=_;unfold itsOut;rw [if_neg e0]
   have x2:(s.remove c).lst p≤N:=by rw [← eo];exact hlst
   have pl1:0≤r.more.pl:=by show 0≤r.pl+1;omega
   have pl2:r.more.pl≤4611686018427387904:=by show r.pl+1≤_;omega
   clear e0 eo hlst
   by_cases ec:b=c
   ·subst ec
    have em:markOf s b b=s.bhd b:=by unfold markOf;rw [if_pos rfl]
    have EM:Hid (markOf s b b=s.bhd b):=em
    have x1:s.bhd b≤N:=by rw [← em];exact hm1
    have X3:Hid (s.bhd b≠0→(s.remove b).ahd (s.bhd b)≤N):=by have h:=HM2.out;rw [em,EO.out] at h;exact h
    clear em hm1 HM2
    go_wp2_with fail
    refine (behindF H1.out b (by omega)).mono ?_
    rintro e w1 ⟨rfl,rfl⟩
    go_wp2_with fail
    refine (parentF H1.out b (by omega)).mono ?_
    rintro e w1 ⟨rfl,rfl⟩
    go_wp2_with fail
    refine (takeOutC H1.out HW.out I1.out HS.out b hc1 hcN E0.out hpl (by omega)).mono ?_
    rintro e w2 ⟨rfl,H2,I2,G2⟩
    have H2':Hid _:=H2
    have I2':Hid _:=I2
    have G2':Hid _:=G2
    clear H2 G2 I2
    go_wp2_with fail
    refine (insertF H2'.out p b (s.bhd b) (by omega) (by omega) (by omega) (by omega) (fun h=>Nat.lt_succ_of_le (X3.out h)) pl1 pl2).mono ?_
    rintro e w3 ⟨rfl,H3,G3⟩
    have H3':Hid _:=H3
    have G3':Hid _:=G3
    clear H3 G3
    go_wp2_with fail
    go_ret
    refine ⟨0,rfl,(G1.out.trans G2'.out).trans (G3'.out.mono (fun i hi=>hi.imp id .inl)),HQ.out,.inr ⟨rfl,p,b,b,rfl,rfl,rfl,by rw [EO.out,EM.out,ER.out];exact H3'.out,?_⟩⟩
    rw [EI.out]
    exact I2'.out.fr G3'.out (fun g hg=>by rintro (e | e);exact (HAp.out g hg).1 e;exact (HAp.out g hg).2 e)
   ·have em:markOf s c b=b:=by unfold markOf;rw [if_neg ec]
    have ec':((b:Int) == (c:Int))=false:=by simp;omega
    have EM:Hid (markOf s c b=b):=em
    have x1:b≤N:=by rw [← em];exact hm1
    have X3:Hid (b≠0→(s.remove c).ahd b≤N):=by have h:=HM2.out;rw [em,EO.out] at h;exact h
    clear em ec hm1 HM2
    go_wp2_with fail
    refine (parentF H1.out c (by omega)).mono ?_
    rintro e w1 ⟨rfl,rfl⟩
    go_wp2_with fail
    refine (takeOutC H1.out HW.out I1.out HS.out c hc1 hcN E0.out hpl (by omega)).mono ?_
    rintro e w2 ⟨rfl,H2,I2,G2⟩
    have H2':Hid _:=H2
    have I2':Hid _:=I2
    have G2':Hid _:=G2
    clear H2 G2 I2
    go_wp2_with fail
    refine (insertF H2'.out p c b (by omega) (by omega) (by omega) (by omega) (fun h=>Nat.lt_succ_of_le (X3.out h)) pl1 pl2).mono ?_
    rintro e w3 ⟨rfl,H3,G3⟩
    have H3':Hid _:=H3
    have G3':Hid _:=G3
    clear H3 G3
    go_wp2_with fail
    go_ret
    refine ⟨0,rfl,(G1.out.trans G2'.out).trans (G3'.out.mono (fun i hi=>hi.imp id .inl)),HQ.out,.inr ⟨rfl,p,c,b,rfl,rfl,rfl,by rw [EO.out,EM.out,ER.out];exact H3'.out,?_⟩⟩
    rw [EI.out]
    exact I2'.out.fr G3'.out (fun g hg=>by rintro (e | e);exact (HAp.out g hg).1 e;exact (HAp.out g hg).2 e)
 ·have q0':(q != 0)=true:=by simp [q0]
  have Q0:Hid (q≠0):=q0
  clear q0
  go_wp2_with fail
  go_ret
  exact ⟨q,rfl,G1.out,HQ.out,.inl ⟨Q0.out,H1.out,I1.out⟩⟩
theorem takeC (h:Held w B gb nb cap (N+1) s kd r) (hwf:WF N s K) (hI:Its w B r.iv its) (hs:∀ it,it∈its→it.Sound N s) (c:Int) (hpl:0≤r.pl) (hpl2:r.pl+1≤4611686018427387904) :
  Calls Tryz.prog 49 #[.pointer (some ⟨gb,0,none⟩),.int .i64 c] w fun e w'=>∃ q:Int,e=.returned (.int .i64 q)∧Fr (gset gb nb r.iv) w w' ∧
   ((q=5∧hasB (N+1) c=false∧w'=w)∨∃ c':Nat,c=c'∧1≤c'∧c'≤N∧((q=8∧s.par c'=0∧w'=w)∨(q=0∧s.par c'≠0∧Held w' B gb nb cap (N+1) (s.remove c') kd r.more∧Its w' B r.iv (its.map (It.leave N s c'))))):=by
 have HH:Hid (Held w B gb nb cap (N+1) s kd r):=h
 have HW:Hid (WF N s K):=hwf
 have HI:Hid (Its w B r.iv its):=hI
 have HS:Hid (∀ it,it∈its→it.Sound N s):=hs
 have hL:=h.hL
 clear h hwf hI hs
 go_enter Tryz.func49, Tryz.ntmps49
 go_wp2_with fail
 refine (hasF HH.out c).mono ?_
 rintro e w ⟨rfl,rfl⟩
 cases hc:hasB (N+1) c with
 | false =>
  have HC:Hid (hasB (N+1) c=false):=hc
  clear hc
  go_wp2_with fail
  go_ret
  exact ⟨5,rfl,Fr.refl _ _,.inl ⟨rfl,HC.out,rfl⟩⟩
 | true =>
  obtain ⟨c,rfl,hc1,hcN⟩:=has_nat hc
  clear hc
  go_wp2_with fail
  refine (parentF HH.out c (by omega)).mono ?_
  rintro e w ⟨rfl,rfl⟩
  by_cases e0:s.par c=0
  ·have e0':(((s.par c:Nat):Int) == 0)=true:=by simp [e0]
   have E0:Hid (s.par c=0):=e0
   clear e0
   go_wp2_with fail
   go_ret
   exact ⟨8,rfl,Fr.refl _ _,.inr ⟨c,rfl,hc1,hcN,.inl ⟨rfl,E0.out,rfl⟩⟩⟩
  ·have e0':(((s.par c:Nat):Int) == 0)=false:=by simp;omega
   have E0:Hid (s.par c≠0):=e0
   clear e0
   go_wp2_with fail
   refine (takeOutC HH.out HW.out HI.out HS.out c hc1 hcN E0.out hpl (by omega)).mono ?_
   rintro e w2 ⟨rfl,H2,I2,G2⟩
   have H2':Hid _:=H2
   have I2':Hid _:=I2
   have G2':Hid _:=G2
   clear H2 G2 I2
   go_wp2_with fail
   go_ret
   exact ⟨0,rfl,G2'.out,.inr ⟨c,rfl,hc1,hcN,.inr ⟨rfl,E0.out,H2'.out,I2'.out⟩⟩⟩
end
end Go.Proofs.YtcedebpoihcbdaaGreatDoor
