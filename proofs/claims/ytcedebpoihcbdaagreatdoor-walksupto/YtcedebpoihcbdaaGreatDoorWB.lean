/-
  What the grove's hasOtherElement, fitsRoot, fits and mayPut do, for all numbers.
  What the forest's Past, Next and Previous do.
-/
import Derived.Test.YtcedebpoihcbdaaGreatDoorWA
set_option maxHeartbeats 1000000
set_option maxRecDepth 100000
namespace Go.Proofs.YtcedebpoihcbdaaGreatDoor
open Go.RowKit Gv
def Kinds (N:Nat) (kk:Nat→Nat) (kd:Nat→Value):Prop:=∀ i,1≤i→i≤N→KV (kk i) (kd i)
def Full (kk:Nat→Nat) (K:Nat→List Nat) (p c:Nat):Prop:=kk p=1∧(kk c=3∨(kk c=2∧∃ k,k∈K p∧k≠c∧kk k=2))
def PutErr (N:Nat) (s:Fo) (K:Nat→List Nat) (kk:Nat→Nat) (p c b:Int) (r:Int):Prop :=
 (r=5∧¬ (hasB (N+1) p=true∧hasB (N+1) c=true∧(b=0∨hasB (N+1) b=true))) ∨
 ∃ p' c' b':Nat,p=p'∧c=c'∧b=b'∧1≤p'∧p'≤N∧1≤c'∧c'≤N∧b'≤N ∧
  ((r=6∧(2<kk p'∨kk c'=1∨Desc s.par p' c')) ∨
    (kk p'≤2∧kk c'≠1∧¬ Desc s.par p' c' ∧
      ((r=7∧b'≠0∧s.par b'≠p')∨((b'=0∨s.par b'=p')∧((r=6∧Full kk K p' c')∨(r=0∧¬ Full kk K p' c'))))))
section
variable {w:World} {B gb nb cap N:Nat} {s:Fo} {kd:Nat→Value} {K:Nat→List Nat} {r:Re} {kk:Nat→Nat}
theorem otherF (h:Held w B gb nb cap (N+1) s kd r) (hwf:WF N s K) (hk:Kinds N kk kd) (p c:Nat) (h1:1≤p) (hn:p≤N) (hcN:c≤N) :
  Calls Tryz.prog 165 #[.pointer (some ⟨gb,0,none⟩),.int .i64 p,.int .i64 c] w fun e w'=>∃ b:Bool,e=.returned (.bool b)∧(b=true↔∃ k,k∈K p∧k≠c∧kk k=2)∧w'=w:=by
 have HH:Hid (Held w B gb nb cap (N+1) s kd r):=h
 have HW:Hid (WF N s K):=hwf
 have HK:Hid (Kinds N kk kd):=hk
 have hL:=h.hL
 have hfst:Hid (s.fst p=(K p).headD 0):=hwf.fst p h1 hn
 clear h hwf hk
 go_enter Tryz.func165, Tryz.ntmps165
 go_wp2_with fail
 refine (firstF HH.out p (by omega)).mono ?_
 rintro e w ⟨rfl,rfl⟩
 go_wp2_with fail
 go_loopg [7] (K p).length (fun m i wr=>∃ xs ys,K p=xs++ys∧ys.length=m∧i=.int .i64 (ys.headD 0)∧wr=w∧∀ k,k∈xs→¬ (k≠c∧kk k=2))
 case atStart=>exact ⟨[],K p,rfl,rfl,by rw [hfst.out],rfl,by simp⟩
 case round =>
  obtain ⟨xs,ys,hK,hm,rfl,rfl,hno⟩:=hrel
  obtain ⟨w,rfl⟩:∃ w:World,w=wr:=⟨_,rfl⟩
  have HN:Hid (∀ k,k∈xs→¬ (k≠c∧kk k=2)):=hno
  have HKe:Hid (K p=xs++ys):=hK
  clear hno hK
  cases ys with
  | nil =>
   simp only [List.headD_nil]
   go_wp2_with fail
   go_ret
   refine ⟨false,rfl,?_,rfl⟩
   simp only [Bool.false_eq_true,false_iff]
   rintro ⟨k,hk,hx⟩
   rw [HKe.out,List.append_nil] at hk
   exact HN.out k hk hx
  | cons y yt =>
   have hy:=HW.out.kid p y (by rw [HKe.out];simp)
   have HS:Hid (s.bhd y=yt.headD 0):=(HW.out.sides HKe.out).2
   have hnz:((y:Int) != 0)=true:=by simp;omega
   have hyN:1≤y∧y≤N:=⟨hy.2.2.1,hy.2.2.2.1⟩
   clear hy
   simp only [List.headD_cons]
   by_cases ec:y=c
   ·subst ec
    go_wp2_with fail
    refine (behindF HH.out y (by omega)).mono ?_
    rintro e w ⟨rfl,rfl⟩
    go_wp2_with fail
    go_roundg yt.length
    case measure=>simp at hm;omega
    case rel =>
     refine ⟨xs++[y],yt,by rw [HKe.out];simp,rfl,by rw [HS.out],rfl,fun k hk=>?_⟩
     rcases List.mem_append.1 hk with hk | hk
     ·exact HN.out k hk
     ·simp at hk;subst hk;exact fun h=>h.1 rfl
   ·have ec':((y:Int) != (c:Int))=true:=by simp;omega
    have EC:Hid (y≠c):=ec
    clear ec
    go_wp2_with fail
    refine (elementF HH.out y hyN.2 (HK.out y hyN.1 hyN.2)).mono ?_
    rintro e w2 ⟨rfl,hcase⟩
    rcases hcase with ⟨h2,eb,_,rfl⟩ | ⟨h2,rfl⟩
    ·have H2:Hid (kk y=2):=h2
     clear h2
     go_wp2_with fail
     go_ret
     refine ⟨true,rfl,?_,rfl⟩
     simp only [true_iff]
     exact ⟨y,by rw [HKe.out];simp,EC.out,H2.out⟩
    ·have H2:Hid (kk y≠2):=h2
     clear h2
     go_wp2_with fail
     refine (behindF HH.out y (by omega)).mono ?_
     rintro e w ⟨rfl,rfl⟩
     go_wp2_with fail
     go_roundg yt.length
     case measure=>simp at hm;omega
     case rel =>
      refine ⟨xs++[y],yt,by rw [HKe.out];simp,rfl,by rw [HS.out],rfl,fun k hk=>?_⟩
      rcases List.mem_append.1 hk with hk | hk
      ·exact HN.out k hk
      ·simp at hk;subst hk;exact fun h=>H2.out h.2
theorem fitsRootF (h:Held w B gb nb cap (N+1) s kd r) (hwf:WF N s K) (hk:Kinds N kk kd) (p c:Nat) (h1:1≤p) (hn:p≤N) (hc1:1≤c) (hcN:c≤N) (hc:kk c≠1) :
  Calls Tryz.prog 120 #[.pointer (some ⟨gb,0,none⟩),.int .i64 p,.int .i64 c] w fun e w'=>∃ b:Bool,e=.returned (.bool b)∧(b=true↔¬ (kk c=3∨(kk c=2∧∃ k,k∈K p∧k≠c∧kk k=2)))∧w'=w:=by
 have HH:Hid (Held w B gb nb cap (N+1) s kd r):=h
 have HW:Hid (WF N s K):=hwf
 have HK:Hid (Kinds N kk kd):=hk
 have hL:=h.hL
 have a1:=asEE
 have a2:=asET
 have a3:=asTT
 have a4:=asNE
 have a5:=asNT
 have hkc:=hk c hc1 hcN
 clear h hwf hk
 rcases hkc with ⟨e1,_⟩ | ⟨e1,eb,hk⟩ | ⟨e1,t,hk⟩ | ⟨e1,t,hk⟩
 ·exact absurd e1 hc
 ·have E1:Hid (kk c=2):=e1
  have HC:Hid (kd c=.iface 143 (.pointer (some ⟨eb,0,none⟩))):=hk
  clear hk e1 hc
  go_enter Tryz.func120, Tryz.ntmps120
  go_wp2_with fail
  refine (kindF HH.out c (by omega) HC.out).mono ?_
  rintro e w ⟨rfl,rfl⟩
  go_wp2_with fail
  refine (otherF HH.out HW.out HK.out p c h1 hn hcN).mono ?_
  rintro e w ⟨b,rfl,hb,rfl⟩
  have HB:Hid (b=true↔∃ k,k∈K p∧k≠c∧kk k=2):=hb
  clear hb
  go_wp2_with fail
  go_ret
  refine ⟨!b,rfl,?_,rfl⟩
  have e2:=E1.out
  constructor
  ·intro hb h3
   rcases h3 with h3 | ⟨_,h3⟩
   ·omega
   ·rw [HB.out.2 h3] at hb;cases hb
  ·intro h3
   cases hb:b with
   | false=>rfl
   | true=>exact absurd (.inr ⟨e2,HB.out.1 hb⟩) h3
 ·have E1:Hid (kk c=3):=e1
  have HC:Hid (kd c=.iface 214 (.agg #[.string t])):=hk
  clear hk e1 hc
  go_enter Tryz.func120, Tryz.ntmps120
  go_wp2_with fail
  refine (kindF HH.out c (by omega) HC.out).mono ?_
  rintro e w ⟨rfl,rfl⟩
  go_wp2_with fail
  go_ret
  refine ⟨false,rfl,?_,rfl⟩
  constructor
  ·intro h;cases h
  ·intro h;exact absurd (Or.inl E1.out) h
 ·have E1:Hid (kk c=4):=e1
  have HC:Hid (kd c=.iface 215 (.agg #[.string t])):=hk
  clear hk e1 hc
  go_enter Tryz.func120, Tryz.ntmps120
  go_wp2_with fail
  refine (kindF HH.out c (by omega) HC.out).mono ?_
  rintro e w ⟨rfl,rfl⟩
  go_wp2_with fail
  go_ret
  have e2:=E1.out
  exact ⟨true,rfl,⟨fun _ h=>by rcases h with h | h <;> omega,fun _=>rfl⟩,rfl⟩
theorem fitsF (h:Held w B gb nb cap (N+1) s kd r) (hwf:WF N s K) (hk:Kinds N kk kd) (p c:Nat) (h1:1≤p) (hn:p≤N) (hc1:1≤c) (hcN:c≤N) (hp:kk p≤2) (hc:kk c≠1) :
  Calls Tryz.prog 73 #[.pointer (some ⟨gb,0,none⟩),.int .i64 p,.int .i64 c] w fun e w'=>∃ b:Bool,e=.returned (.bool b)∧(b=true↔¬ Full kk K p c)∧w'=w:=by
 have HH:Hid (Held w B gb nb cap (N+1) s kd r):=h
 have HW:Hid (WF N s K):=hwf
 have HK:Hid (Kinds N kk kd):=hk
 have hL:=h.hL
 have a1:=asRR
 have a2:=asER
 have hkc:=hk p h1 hn
 have HC:Hid (kk c≠1):=hc
 clear h hwf hk hc
 rcases hkc with ⟨e1,hk⟩ | ⟨e1,eb,hk⟩ | ⟨e1,t,hk⟩ | ⟨e1,t,hk⟩
 ·have E1:Hid (kk p=1):=e1
  have HP:Hid (kd p=.iface 181 (.agg #[])):=hk
  clear hk e1 hp
  go_enter Tryz.func73, Tryz.ntmps73
  go_wp2_with fail
  refine (kindF HH.out p (by omega) HP.out).mono ?_
  rintro e w ⟨rfl,rfl⟩
  go_wp2_with fail
  refine (fitsRootF HH.out HW.out HK.out p c h1 hn hc1 hcN HC.out).mono ?_
  rintro e w ⟨b,rfl,hb,rfl⟩
  have HB:Hid (b=true↔¬ (kk c=3∨(kk c=2∧∃ k,k∈K p∧k≠c∧kk k=2))):=hb
  clear hb
  go_wp2_with fail
  go_ret
  refine ⟨b,rfl,?_,rfl⟩
  rw [HB.out]
  exact ⟨fun h3 h4=>h3 h4.2,fun h3 h4=>h3 ⟨E1.out,h4⟩⟩
 ·have E1:Hid (kk p=2):=e1
  have HP:Hid (kd p=.iface 143 (.pointer (some ⟨eb,0,none⟩))):=hk
  clear hk e1 hp
  go_enter Tryz.func73, Tryz.ntmps73
  go_wp2_with fail
  refine (kindF HH.out p (by omega) HP.out).mono ?_
  rintro e w ⟨rfl,rfl⟩
  go_wp2_with fail
  go_ret
  have e2:=E1.out
  exact ⟨true,rfl,⟨fun _ h=>by have:=h.1;omega,fun _=>rfl⟩,rfl⟩
 ·omega
 ·omega
theorem has_nat {p:Int} (h:hasB (N+1) p=true):∃ p':Nat,p=p'∧1≤p'∧p'≤N:=by
 simp [hasB] at h
 exact ⟨p.toNat,by omega,by omega,by omega⟩
theorem mayPutF (h:Held w B gb nb cap (N+1) s kd r) (hwf:WF N s K) (hk:Kinds N kk kd) (p c b:Int) :
  Calls Tryz.prog 35 #[.pointer (some ⟨gb,0,none⟩),.int .i64 p,.int .i64 c,.int .i64 b] w fun e w'=>∃ r:Int,e=.returned (.int .i64 r)∧PutErr N s K kk p c b r∧Below w.heap.size w w':=by
 have HH:Hid (Held w B gb nb cap (N+1) s kd r):=h
 have HW:Hid (WF N s K):=hwf
 have HK:Hid (Kinds N kk kd):=hk
 have hL:=h.hL
 clear h hwf hk
 go_enter Tryz.func35, Tryz.ntmps35
 go_wp2_with fail
 refine (hasF HH.out p).mono ?_
 rintro e w ⟨rfl,rfl⟩
 cases hp:hasB (N+1) p with
 | false =>
  have HP:Hid (hasB (N+1) p=false):=hp
  clear hp
  go_wp2_with fail
  go_ret
  exact ⟨5,rfl,.inl ⟨rfl,fun h=>by rw [HP.out] at h;cases h.1⟩,Below.refl _ _⟩
 | true =>
  obtain ⟨p,rfl,hp1,hpN⟩:=has_nat hp
  clear hp
  go_wp2_with fail
  refine (hasF HH.out c).mono ?_
  rintro e w ⟨rfl,rfl⟩
  cases hc:hasB (N+1) c with
  | false =>
   have HC:Hid (hasB (N+1) c=false):=hc
   clear hc
   go_wp2_with fail
   go_ret
   exact ⟨5,rfl,.inl ⟨rfl,fun h=>by rw [HC.out] at h;cases h.2.1⟩,Below.refl _ _⟩
  | true =>
   obtain ⟨c,rfl,hc1,hcN⟩:=has_nat hc
   clear hc
   have START:∀ b':Nat,b=(b':Int)→b'≤N→Hid (∃ p' c' b'':Nat,(p:Int)=p'∧(c:Int)=c'∧b=b''∧1≤p'∧p'≤N∧1≤c'∧c'≤N∧b''≤N∧p'=p∧c'=c∧b''=b'):=fun b' hb hbN=>⟨p,c,b',rfl,rfl,hb,hp1,hpN,hc1,hcN,hbN,rfl,rfl,rfl⟩
   obtain ⟨tp,xp,fp,vp,mp,np,cp⟩:=mKAll (HK.out p hp1 hpN)
   obtain ⟨tc,xc,fc,vc,mc,nc,cc⟩:=mPAll (HK.out c hc1 hcN)
   have VP:Hid (kd p=.iface tp xp):=vp
   have VC:Hid (kd c=.iface tc xc):=vc
   have CP:Hid (∀ w:World,Calls Tryz.prog fp #[xp] w fun e w'=>e=.returned (.bool (decide (kk p≤2)))∧Below w.heap.size w w'):=cp
   have CC:Hid (∀ w:World,Calls Tryz.prog fc #[xc] w fun e w'=>e=.returned (.bool (decide (kk c≠1)))∧Below w.heap.size w w'):=cc
   clear vp vc cp cc
   by_cases hb0:b=0
   ·subst hb0
    clear START
    go_wp2_with fail
    refine (kindF HH.out p (by omega) VP.out).mono ?_
    rintro e w ⟨rfl,rfl⟩
    go_wp2_with fail
    refine (CP.out _).mono ?_
    rintro e w1 ⟨rfl,hb1⟩
    have H1:Hid (Held w1 B gb nb cap (N+1) s kd r):=HH.out.since hb1
    have B1:Hid (Below w.heap.size w w1):=hb1
    clear hb1
    by_cases k2:kk p≤2
    ·have K2:Hid (kk p≤2):=k2
     have d2:decide (kk p≤2)=true:=by simp [k2]
     rw [d2]
     clear d2 k2
     go_wp2_with fail
     refine (kindF H1.out c (by omega) VC.out).mono ?_
     rintro e w1 ⟨rfl,rfl⟩
     go_wp2_with fail
     refine (CC.out _).mono ?_
     rintro e w2 ⟨rfl,hb2⟩
     have H2:Hid (Held w2 B gb nb cap (N+1) s kd r):=H1.out.since hb2
     have B2:Hid (Below w.heap.size w w2):=B1.out.trans (hb2.mono B1.out.size)
     clear hb2
     by_cases k1:kk c=1
     ·have K1:Hid (kk c=1):=k1
      have d1:decide (kk c≠1)=false:=by simp [k1]
      rw [d1]
      clear d1 k1
      go_wp2_with fail
      go_ret
      exact ⟨6,rfl,.inr ⟨p,c,0,rfl,rfl,rfl,hp1,hpN,hc1,hcN,Nat.zero_le _,.inl ⟨rfl,.inr (.inl K1.out)⟩⟩,B2.out⟩
     ·have K1:Hid (kk c≠1):=k1
      have d1:decide (kk c≠1)=true:=by simp [k1]
      rw [d1]
      clear d1 k1
      go_wp2_with fail
      refine (withinF H2.out HW.out p c hpN hc1 hcN).mono ?_
      rintro e w2 ⟨bb,rfl,hbd,rfl⟩
      have HD:Hid (bb=true↔Desc s.par p c):=hbd
      clear hbd
      cases bb with
      | true =>
       have HE:Hid (Desc s.par p c):=HD.out.1 rfl
       clear HD
       go_wp2_with fail
       go_ret
       exact ⟨6,rfl,.inr ⟨p,c,0,rfl,rfl,rfl,hp1,hpN,hc1,hcN,Nat.zero_le _,.inl ⟨rfl,.inr (.inr HE.out)⟩⟩,B2.out⟩
      | false =>
       have HE:Hid (¬ Desc s.par p c):=fun hd=>Bool.noConfusion (HD.out.2 hd)
       clear HD
       go_wp2_with fail
       refine (fitsF H2.out HW.out HK.out p c hp1 hpN hc1 hcN K2.out K1.out).mono ?_
       rintro e w2 ⟨b,rfl,hb,rfl⟩
       have HB:Hid (b=true↔¬ Full kk K p c):=hb
       clear hb
       cases b with
       | true =>
        have HF:Hid (¬ Full kk K p c):=HB.out.1 rfl
        clear HB
        go_wp2_with fail
        go_ret
        exact ⟨0,rfl,.inr ⟨p,c,0,rfl,rfl,rfl,hp1,hpN,hc1,hcN,Nat.zero_le _,.inr ⟨K2.out,K1.out,HE.out,.inr ⟨.inl rfl,.inr ⟨rfl,HF.out⟩⟩⟩⟩,B2.out⟩
       | false =>
        have HF:Hid (Full kk K p c):=Classical.byContradiction fun h=>by have:=HB.out.2 h;cases this
        clear HB
        go_wp2_with fail
        go_ret
        exact ⟨6,rfl,.inr ⟨p,c,0,rfl,rfl,rfl,hp1,hpN,hc1,hcN,Nat.zero_le _,.inr ⟨K2.out,K1.out,HE.out,.inr ⟨.inl rfl,.inl ⟨rfl,HF.out⟩⟩⟩⟩,B2.out⟩
    ·have K2:Hid (2<kk p):=by show 2<kk p;omega
     have d2:decide (kk p≤2)=false:=by simp;omega
     rw [d2]
     clear d2 k2
     go_wp2_with fail
     go_ret
     exact ⟨6,rfl,.inr ⟨p,c,0,rfl,rfl,rfl,hp1,hpN,hc1,hcN,Nat.zero_le _,.inl ⟨rfl,.inl K2.out⟩⟩,B1.out⟩
   ·have hb0':(b != 0)=true:=by simp [hb0]
    have HB0:Hid (b≠0):=hb0
    clear hb0
    go_wp2_with fail
    refine (hasF HH.out b).mono ?_
    rintro e w ⟨rfl,rfl⟩
    cases hb:hasB (N+1) b with
    | false =>
     have HB:Hid (hasB (N+1) b=false):=hb
     clear hb
     go_wp2_with fail
     go_ret
     exact ⟨5,rfl,.inl ⟨rfl,fun h=>by rcases h.2.2 with h | h;exact HB0.out h;rw [HB.out] at h;cases h⟩,Below.refl _ _⟩
    | true =>
     obtain ⟨b,rfl,hb1,hbN⟩:=has_nat hb
     clear hb START
     have NB0:Hid (b≠0):=by show b≠0;omega
     go_wp2_with fail
     refine (kindF HH.out p (by omega) VP.out).mono ?_
     rintro e w ⟨rfl,rfl⟩
     go_wp2_with fail
     refine (CP.out _).mono ?_
     rintro e w1 ⟨rfl,hbb1⟩
     have H1:Hid (Held w1 B gb nb cap (N+1) s kd r):=HH.out.since hbb1
     have B1:Hid (Below w.heap.size w w1):=hbb1
     clear hbb1
     by_cases k2:kk p≤2
     ·have K2:Hid (kk p≤2):=k2
      have d2:decide (kk p≤2)=true:=by simp [k2]
      rw [d2]
      clear d2 k2
      go_wp2_with fail
      refine (kindF H1.out c (by omega) VC.out).mono ?_
      rintro e w1 ⟨rfl,rfl⟩
      go_wp2_with fail
      refine (CC.out _).mono ?_
      rintro e w2 ⟨rfl,hb2⟩
      have H2:Hid (Held w2 B gb nb cap (N+1) s kd r):=H1.out.since hb2
      have B2:Hid (Below w.heap.size w w2):=B1.out.trans (hb2.mono B1.out.size)
      clear hb2
      by_cases k1:kk c=1
      ·have K1:Hid (kk c=1):=k1
       have d1:decide (kk c≠1)=false:=by simp [k1]
       rw [d1]
       clear d1 k1
       go_wp2_with fail
       go_ret
       exact ⟨6,rfl,.inr ⟨p,c,b,rfl,rfl,rfl,hp1,hpN,hc1,hcN,hbN,.inl ⟨rfl,.inr (.inl K1.out)⟩⟩,B2.out⟩
      ·have K1:Hid (kk c≠1):=k1
       have d1:decide (kk c≠1)=true:=by simp [k1]
       rw [d1]
       clear d1 k1
       go_wp2_with fail
       refine (withinF H2.out HW.out p c hpN hc1 hcN).mono ?_
       rintro e w2 ⟨bb,rfl,hbd,rfl⟩
       have HD:Hid (bb=true↔Desc s.par p c):=hbd
       clear hbd
       cases bb with
       | true =>
        have HE:Hid (Desc s.par p c):=HD.out.1 rfl
        clear HD
        go_wp2_with fail
        go_ret
        exact ⟨6,rfl,.inr ⟨p,c,b,rfl,rfl,rfl,hp1,hpN,hc1,hcN,hbN,.inl ⟨rfl,.inr (.inr HE.out)⟩⟩,B2.out⟩
       | false =>
        have HE:Hid (¬ Desc s.par p c):=fun hd=>Bool.noConfusion (HD.out.2 hd)
        clear HD
        go_wp2_with fail
        refine (parentF H2.out b (by omega)).mono ?_
        rintro e w2 ⟨rfl,rfl⟩
        by_cases hbp:s.par b=p
        ·have HBP:Hid (s.par b=p):=hbp
         have d3:(((s.par b:Nat):Int) != (p:Int))=false:=by rw [hbp];simp
         clear hbp
         go_wp2_with fail
         refine (fitsF H2.out HW.out HK.out p c hp1 hpN hc1 hcN K2.out K1.out).mono ?_
         rintro e w2 ⟨b',rfl,hb,rfl⟩
         have HB:Hid (b'=true↔¬ Full kk K p c):=hb
         clear hb
         cases b' with
         | true =>
          have HF:Hid (¬ Full kk K p c):=HB.out.1 rfl
          clear HB
          go_wp2_with fail
          go_ret
          exact ⟨0,rfl,.inr ⟨p,c,b,rfl,rfl,rfl,hp1,hpN,hc1,hcN,hbN,.inr ⟨K2.out,K1.out,HE.out,.inr ⟨.inr HBP.out,.inr ⟨rfl,HF.out⟩⟩⟩⟩,B2.out⟩
         | false =>
          have HF:Hid (Full kk K p c):=Classical.byContradiction fun h=>by have:=HB.out.2 h;cases this
          clear HB
          go_wp2_with fail
          go_ret
          exact ⟨6,rfl,.inr ⟨p,c,b,rfl,rfl,rfl,hp1,hpN,hc1,hcN,hbN,.inr ⟨K2.out,K1.out,HE.out,.inr ⟨.inr HBP.out,.inl ⟨rfl,HF.out⟩⟩⟩⟩,B2.out⟩
        ·have HBP:Hid (s.par b≠p):=hbp
         have d3:(((s.par b:Nat):Int) != (p:Int))=true:=by simp;omega
         clear hbp
         go_wp2_with fail
         go_ret
         exact ⟨7,rfl,.inr ⟨p,c,b,rfl,rfl,rfl,hp1,hpN,hc1,hcN,hbN,.inr ⟨K2.out,K1.out,HE.out,.inl ⟨rfl,NB0.out,HBP.out⟩⟩⟩,B2.out⟩
     ·have K2:Hid (2<kk p):=by show 2<kk p;omega
      have d2:decide (kk p≤2)=false:=by simp;omega
      rw [d2]
      clear d2 k2
      go_wp2_with fail
      go_ret
      exact ⟨6,rfl,.inr ⟨p,c,b,rfl,rfl,rfl,hp1,hpN,hc1,hcN,hbN,.inl ⟨rfl,.inl K2.out⟩⟩,B1.out⟩
end
open Go.RowKit Gv
section
variable {w:World} {B gb nb cap N:Nat} {s:Fo} {kd:Nat→Value} {K:Nat→List Nat} {r:Re}
theorem withinC (h:Held w B gb nb cap (N+1) s kd r) (hwf:WF N s K) (n t:Nat) (hn:n≤N) (ht:1≤t) (htN:t≤N) :
  Calls Tryz.prog 72 #[.pointer (some ⟨gb,0,none⟩),.int .i64 n,.int .i64 t] w fun e w'=>e=.returned (.bool (withF s N n t))∧w'=w:=by
 refine (withinF h hwf n t hn ht htN).mono fun e w' ⟨b,he,hb,hw⟩=>⟨?_,hw⟩
 have hi:=Gv.within_iff hwf hn ht
 have:b=withF s N n t:=by
  cases b with
  | true=>exact (hi.2 (hb.1 rfl)).symm
  | false =>
   cases e2:withF s N n t with
   | false=>rfl
   | true=>exact (hb.2 (hi.1 e2))
 rw [he,this]
theorem past_zero (s:Fo) (f t:Nat):pastF s f 0 t=0:=by cases f <;> simp [pastF]
theorem past_top (s:Fo) (f t:Nat):pastF s f t t=0:=by cases f <;> simp [pastF]
theorem past_beh {s:Fo} {f x t:Nat} (h0:x≠0) (h1:x≠t) (h2:s.bhd x≠0):pastF s (f+1) x t=s.bhd x:=by simp [pastF,h0,h1,h2]
theorem past_up {s:Fo} {f x t:Nat} (h0:x≠0) (h1:x≠t) (h2:s.bhd x=0):pastF s (f+1) x t=pastF s f (s.par x) t:=by simp [pastF,h0,h1,h2]
theorem pastC (h:Held w B gb nb cap (N+1) s kd r) (hwf:WF N s K) (n t:Nat) (hn:n≤N) (htN:t≤N) :
  Calls Tryz.prog 121 #[.pointer (some ⟨gb,0,none⟩),.int .i64 n,.int .i64 t] w fun e w'=>e=.returned (.int .i64 (pastF s (N+1) n t:Nat))∧w'=w:=by
 have HH:Hid (Held w B gb nb cap (N+1) s kd r):=h
 have HW:Hid (WF N s K):=hwf
 have hL:=h.hL
 have HT:Hid (anc s.par N n=0):=hwf.top n hn
 clear h hwf
 go_enter Tryz.func121, Tryz.ntmps121
 go_wp2_with fail
 go_loopg [1] N (fun m i wr=>∃ x:Nat,i=.int .i64 x∧x≤N∧wr=w∧anc s.par m x=0∧pastF s (N+1) n t=pastF s (m+1) x t)
 case atStart=>exact ⟨n,rfl,hn,rfl,HT.out,rfl⟩
 case round =>
  obtain ⟨x,rfl,hx,rfl,ha,hd⟩:=hrel
  obtain ⟨w,rfl⟩:∃ w:World,w=wr:=⟨_,rfl⟩
  have HA:Hid (anc s.par gk x=0):=ha
  have HD:Hid (pastF s (N+1) n t=pastF s (gk+1) x t):=hd
  clear ha hd
  by_cases e0:x=0
  ·subst e0
   go_wp2_with fail
   go_ret
   exact ⟨ret_int (by rw [HD.out,past_zero];rfl),rfl⟩
  ·have e0':((x:Int) != 0)=true:=by simp;omega
   by_cases et:x=t
   ·subst et
    go_wp2_with fail
    go_ret
    exact ⟨ret_int (by rw [HD.out,past_top];rfl),rfl⟩
   ·have et':((x:Int) != (t:Int))=true:=by simp;omega
    have ET:Hid (x≠t):=et
    have E0:Hid (x≠0):=e0
    clear et e0
    go_wp2_with fail
    refine (behindF HH.out x (by omega)).mono ?_
    rintro e w ⟨rfl,rfl⟩
    by_cases hb:s.bhd x=0
    ·have HB:Hid (s.bhd x=0):=hb
     have hb':(((s.bhd x:Nat):Int) != 0)=false:=by simp [hb]
     clear hb
     go_wp2_with fail
     refine (parentF HH.out x (by omega)).mono ?_
     rintro e w ⟨rfl,rfl⟩
     go_wp2_with fail
     cases gk with
     | zero=>exact absurd HA.out E0.out
     | succ m =>
      go_roundg m
      case measure=>omega
      case rel=>exact ⟨s.par x,rfl,HW.out.parLe x hx,rfl,HA.out,by rw [HD.out,past_up E0.out ET.out HB.out]⟩
    ·have HB:Hid (s.bhd x≠0):=hb
     have hb':(((s.bhd x:Nat):Int) != 0)=true:=by simp;omega
     clear hb
     go_wp2_with fail
     go_ret
     exact ⟨ret_int (by rw [HD.out,past_beh E0.out ET.out HB.out]),rfl⟩
theorem nextC (h:Held w B gb nb cap (N+1) s kd r) (hwf:WF N s K) (n t:Nat) (hn:n≤N) (htN:t≤N) :
  Calls Tryz.prog 127 #[.pointer (some ⟨gb,0,none⟩),.int .i64 n,.int .i64 t] w fun e w'=>e=.returned (.int .i64 (nextF s (N+1) n t:Nat))∧w'=w:=by
 have HH:Hid (Held w B gb nb cap (N+1) s kd r):=h
 have HW:Hid (WF N s K):=hwf
 have hL:=h.hL
 clear h hwf
 by_cases hf:s.fst n=0
 ·have HF:Hid (s.fst n=0):=hf
  have hf':(((s.fst n:Nat):Int) != 0)=false:=by simp [hf]
  clear hf
  go_enter Tryz.func127, Tryz.ntmps127
  go_wp2_with fail
  refine (firstF HH.out n (by omega)).mono ?_
  rintro e w ⟨rfl,rfl⟩
  go_wp2_with fail
  refine (pastC HH.out HW.out n t hn htN).mono ?_
  rintro e w ⟨rfl,rfl⟩
  go_wp2_with fail
  go_ret
  exact ⟨ret_int (by simp [nextF,HF.out]),rfl⟩
 ·have HF:Hid (s.fst n≠0):=hf
  have hf':(((s.fst n:Nat):Int) != 0)=true:=by simp;omega
  clear hf
  go_enter Tryz.func127, Tryz.ntmps127
  go_wp2_with fail
  refine (firstF HH.out n (by omega)).mono ?_
  rintro e w ⟨rfl,rfl⟩
  go_wp2_with fail
  go_ret
  exact ⟨ret_int (by simp [nextF,HF.out]),rfl⟩
theorem inm_end {s:Fo} {f x:Nat} (h:s.lst x=0):inmF s f x=x:=by cases f <;> simp [inmF,h]
theorem inm_on {s:Fo} {f x:Nat} (h:s.lst x≠0):inmF s (f+1) x=inmF s f (s.lst x):=by simp [inmF,h]
theorem kid_of_lst {x:Nat} (hwf:WF N s K) (hx:1≤x) (hxN:x≤N) (h:s.lst x≠0):s.lst x∈K x:=by
 rw [hwf.lst x hx hxN] at h ⊢
 exact last_mem (fun e=>h (by rw [e];rfl)) 0
theorem ahd_le {c:Nat} (hwf:WF N s K) (hc1:1≤c) (hcN:c≤N) (hp:s.par c≠0):s.ahd c≤N∧s.bhd c≤N:=by
 obtain ⟨xs,ys,hK⟩:=split_of_mem (hwf.own c hc1 hcN hp)
 have hs:=hwf.sides hK
 rw [hs.1,hs.2]
 constructor
 ·by_cases hx:xs=[]
  ·subst hx;simp
  ·exact (hwf.kid (s.par c) _ (by rw [hK];exact List.mem_append.2 (.inl (last_mem hx 0)))).2.2.2.1
 ·by_cases hy:ys=[]
  ·subst hy;simp
  ·exact (hwf.kid (s.par c) _ (by rw [hK];exact List.mem_append.2 (.inr (List.mem_cons_of_mem _ (head_mem hy 0))))).2.2.2.1
theorem prevC (h:Held w B gb nb cap (N+1) s kd r) (hwf:WF N s K) (n t:Nat) (h1:1≤n) (hn:n≤N) (hp:n≠t→s.par n≠0) :
  Calls Tryz.prog 122 #[.pointer (some ⟨gb,0,none⟩),.int .i64 n,.int .i64 t] w fun e w'=>e=.returned (.int .i64 (prevF s N n t:Nat))∧w'=w:=by
 have HH:Hid (Held w B gb nb cap (N+1) s kd r):=h
 have HW:Hid (WF N s K):=hwf
 have hL:=h.hL
 have HP:Hid (n≠t→s.par n≠0):=hp
 clear h hwf hp
 by_cases et:n=t
 ·subst et
  go_enter Tryz.func122, Tryz.ntmps122
  go_wp2_with fail
  go_ret
  exact ⟨ret_int (by simp [prevF]),rfl⟩
 ·have et':((n:Int) == (t:Int))=false:=by simp;omega
  have ET:Hid (n≠t):=et
  clear et
  have hb:=(ahd_le HW.out h1 hn (HP.out ET.out)).1
  by_cases ha:s.ahd n=0
  ·have HA:Hid (s.ahd n=0):=ha
   have ha':(((s.ahd n:Nat):Int) == 0)=true:=by simp [ha]
   clear ha
   go_enter Tryz.func122, Tryz.ntmps122
   go_wp2_with fail
   refine (aheadF HH.out n (by omega)).mono ?_
   rintro e w ⟨rfl,rfl⟩
   go_wp2_with fail
   refine (parentF HH.out n (by omega)).mono ?_
   rintro e w ⟨rfl,rfl⟩
   go_wp2_with fail
   go_ret
   exact ⟨ret_int (by simp [prevF,HA.out,ET.out]),rfl⟩
  ·have HA:Hid (prevF s N n t=inmF s N (s.ahd n)):=by show prevF s N n t=_;simp [prevF,ha,ET.out]
   have ha':(((s.ahd n:Nat):Int) == 0)=false:=by simp;omega
   have HD:Hid (Deep K N (s.ahd n)):=HW.out.deepN (by omega) (by omega)
   have ha1:1≤s.ahd n:=by omega
   clear ha
   go_enter Tryz.func122, Tryz.ntmps122
   go_wp2_with fail
   refine (aheadF HH.out n (by omega)).mono ?_
   rintro e w ⟨rfl,rfl⟩
   go_wp2_with fail
   go_loopg [7,8] (N+1) (fun m a i wr=>∃ x y:Nat,a=.int .i64 y∧i=.int .i64 x∧wr=w∧y≤N∧x≤N∧((x=0∧m=0∧prevF s N n t=y)∨(1≤x∧∃ f,m=f+1∧Deep K f x∧prevF s N n t=inmF s f x)))
   case atStart=>exact ⟨s.ahd n,s.ahd n,rfl,rfl,rfl,hb,hb,.inr ⟨ha1,N,rfl,HD.out,HA.out⟩⟩
   case round =>
    obtain ⟨x,y,rfl,rfl,rfl,hy,hx,hcase⟩:=hrel
    obtain ⟨w,rfl⟩:∃ w:World,w=wr:=⟨_,rfl⟩
    rcases hcase with ⟨hx0,hm0,he⟩ | ⟨hx1,f,hmf,hdp,he⟩
    ·subst hx0
     have HE:Hid (prevF s N n t=y):=he
     clear he
     go_wp2_with fail
     go_ret
     exact ⟨ret_int (by rw [HE.out]),rfl⟩
    ·have hx0':((x:Int) != 0)=true:=by simp;omega
     have HE:Hid (prevF s N n t=inmF s f x):=he
     have HDp:Hid (Deep K f x):=hdp
     have HMF:Hid (gk=f+1):=hmf
     clear he hdp hmf
     go_wp2_with fail
     refine (lastF HH.out x (by omega)).mono ?_
     rintro e w ⟨rfl,rfl⟩
     go_wp2_with fail
     by_cases hl:s.lst x=0
     ·go_roundg 0
      case measure=>have:=HMF.out;omega
      case rel=>exact ⟨0,x,rfl,by rw [hl],rfl,hx,Nat.zero_le _,.inl ⟨rfl,rfl,by rw [HE.out,inm_end hl]⟩⟩
     ·have hk:=kid_of_lst HW.out hx1 hx hl
      have hkk:=HW.out.kid x _ hk
      cases f with
      | zero =>
       exfalso
       have h0:K x=[]:=HDp.out
       rw [h0] at hk
       simp at hk
      | succ f =>
       go_roundg (f+1)
       case measure=>have:=HMF.out;omega
       case rel=>exact ⟨s.lst x,x,rfl,rfl,rfl,hx,hkk.2.2.2.1,.inr ⟨hkk.2.2.1,f,rfl,HDp.out _ hk,by rw [HE.out,inm_on hl]⟩⟩
end
end Go.Proofs.YtcedebpoihcbdaaGreatDoor
