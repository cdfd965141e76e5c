/-
  The document's own answer: what its Put does where all three nodes are there.
-/
import Derived.Test.YtcedebpoihcbdaaGreatDoorRB
import Derived.Laws.AppendOwnNone
set_option linter.unusedVariables false
set_option maxHeartbeats 2000000
set_option maxRecDepth 100000
namespace Go.Proofs.YtcedebpoihcbdaaGreatDoor
open Go.RowKit Go.Shelf Gv
theorem ints_put (us vs:List Nat) (c:Nat):ints (us++c :: vs)=ints us++.int .i64 c :: ints vs:=by simp [ints]
theorem len_put (us vs:List Nat) (c:Nat):(us++c :: vs).length=us.length+1+vs.length:=by simp;omega
theorem row_put {w:World} {B n:Nat} {v:Value} {us vs:List Nat} {c:Nat} {xs:List Value} (h:w.ownsRow B 3 1 v n xs) (hn:n=us.length+1+vs.length) (hx:xs=ints us++.int .i64 c :: ints vs):w.ownsRow B 3 1 v (us++c :: vs).length (ints (us++c :: vs)):=by
 rw [len_put,ints_put,← hn,← hx];exact h
theorem slice_of {w:World} {B e size n:Nat} {v:Value} {xs:List Value} (h:w.ownsRow B e size v n xs):∃ a m cp,v=.slice a m cp:=by
 obtain ⟨a,cp,e,_⟩:=rowForm h
 exact ⟨a,n,cp,e⟩
section
variable {w w':World} {r:Rx} {s:Fo} {K:Nat→List Nat}
theorem refPutIn (h:RefOK w r) (hp:r.par=s.par) (hK:r.K=K) (hwf:WF r.N s K) (hs:∀ x,x∈r.il→x.Sound r.N s) (p c b:Nat) (hp1:1≤p) (hpN:p≤r.N) (hc1:1≤c) (hcN:c≤r.N) (hbN:b≤r.N) :
  Calls Tryz.prog 92 #[.pointer (some ⟨r.rb,0,none⟩),.int .i64 p,.int .i64 c,.int .i64 b] w (PutPost w r s K p c b):=by
 have HH:Hid (RefOK w r):=h
 have HP:Hid (r.par=s.par):=hp
 have HK:Hid (r.K=K):=hK
 have HW:Hid (WF r.N s K):=hwf
 have HS:Hid (∀ x,x∈r.il→x.Sound r.N s):=hs
 have e1:hasB (r.N+1) (p:Int)=true:=hasB_nat hp1 hpN
 have e2:hasB (r.N+1) (c:Int)=true:=hasB_nat hc1 hcN
 have E3:Hid (b=0∨hasB (r.N+1) (b:Int)=true):=by
  by_cases h0:b=0
  ·exact .inl h0
  ·exact .inr (hasB_nat (by omega) hbN)
 have hN:=h.hN
 have hg:=h.c0
 obtain ⟨L,hLe⟩:∃ L,L=r.N+1:=⟨_,rfl⟩
 rw [← hLe] at hg
 have HLe:Hid (L=r.N+1):=hLe
 have hL3:L≤301:=by omega
 have hpL:(p:Int)<(L:Int):=by omega
 have hcL:(c:Int)<(L:Int):=by omega
 have hbL:(b:Int)<(L:Int):=by omega
 have kp:=h.ckn hpN
 have kc:=h.ckn hcN
 have kb:=h.cpar hbN
 rw [hp] at kb
 clear h hp hK hwf hs hLe
 obtain ⟨kp',hkp⟩:∃ k,k=r.kn p:=⟨_,rfl⟩
 obtain ⟨kc',hkc⟩:∃ k,k=r.kn c:=⟨_,rfl⟩
 obtain ⟨pb',hpb⟩:∃ k,k=s.par b:=⟨_,rfl⟩
 rw [← hkp] at kp
 rw [← hkc] at kc
 rw [← hpb] at kb
 have HKP:Hid (kp'=r.kn p):=hkp
 have HKC:Hid (kc'=r.kn c):=hkc
 have HPB:Hid (pb'=s.par b):=hpb
 clear hkp hkc hpb
 go_enter Tryz.func92, Tryz.ntmps92
 go_wp2_with fail
 refine (refIs HH.out p).mono ?_
 rintro e w ⟨rfl,rfl⟩
 rw [e1]
 go_wp2_with fail
 refine (refIs HH.out c).mono ?_
 rintro e w ⟨rfl,rfl⟩
 rw [e2]
 go_wp2_with fail
 refine (refIs HH.out b).mono ?_
 rintro e w ⟨rfl,rfl⟩
 clear e1 e2
 generalize hasB (r.N+1) (b:Int)=b3 at *
 go_upto_region 4 with fail
 go_cut [42] (fun t wx=>t=.bool false∧wx=w)
 case first =>
  as_aux_lemma =>
   by_cases h0:b=0
   ·have h0':((b:Int) != 0)=false:=by subst h0;rfl
    clear h0
    go_wp2_with fail
    go_meet
    case rel=>exact ⟨rfl,rfl⟩
   ·have h0':((b:Int) != 0)=true:=by simp;omega
    have h3:b3=true:=E3.out.resolve_left h0
    subst h3
    clear h0
    go_wp2_with fail
    go_meet
    case rel=>exact ⟨rfl,rfl⟩
 case rest =>
  obtain ⟨rfl,hwc⟩:=hcut
  subst hwc
  clear E3
  go_wp2_with fail
  refine (refIn HH.out HP.out HW.out p c hpN hc1).mono ?_
  rintro e W2 ⟨b2,rfl,hb2,hW2⟩
  subst hW2
  have HB2:Hid (b2=true↔Desc s.par p c):=hb2
  clear hb2
  obtain ⟨w,hw⟩:∃ w:World,w=W2:=⟨_,rfl⟩
  subst hw
  go_upto_region 7 with fail
  go_cut [69] (fun t wx=>(∃ q:Bool,t=.bool q∧(q=true↔(2<kp'∨kc'=1∨Desc s.par p c)))∧wx=w)
  case first =>
   as_aux_lemma =>
    by_cases h3:3≤kp'
    ·have h3':decide ((3:Int)≤(kp':Int))=true:=by simp;omega
     go_wp2_with fail
     go_meet
     case rel=>exact ⟨⟨true,rfl,by simp;omega⟩,rfl⟩
    ·have h3':decide ((3:Int)≤(kp':Int))=false:=by simp;omega
     by_cases h1:kc'=1
     ·have h1':((kc':Int) == 1)=true:=by simp;omega
      go_wp2_with fail
      go_meet
      case rel=>exact ⟨⟨true,rfl,by simp [h1]⟩,rfl⟩
     ·have h1':((kc':Int) == 1)=false:=by simp;omega
      go_wp2_with fail
      go_meet
      case rel=>exact ⟨⟨b2,rfl,by rw [HB2.out];constructor;(exact fun e=>.inr (.inr e));(rintro (e | e | e);omega;omega;exact e)⟩,rfl⟩
  case rest =>
   obtain ⟨⟨q,rfl,hq⟩,hwc⟩:=hcut
   subst hwc
   rw [HKP.out,HKC.out] at hq
   have HQ:Hid (q=true↔(2<r.kn p∨r.kn c=1∨Desc s.par p c)):=hq
   clear hq
   obtain ⟨w,hw⟩:∃ w:World,w=wc:=⟨_,rfl⟩
   subst hw
   cases q with
   | true =>
    have HX:Hid (2<r.kn p∨r.kn c=1∨Desc s.par p c):=HQ.out.1 rfl
    clear HQ
    go_wp2_with fail
    go_ret
    exact PutPost.bad HX.out
   | false =>
    have HNo:Hid (¬ (2<r.kn p∨r.kn c=1∨Desc s.par p c)):=fun e=>by have:=HQ.out.2 e;cases this
    clear HQ
    go_upto_region 9 with fail
    go_cut [83] (fun t wx=>(∃ q:Bool,t=.bool q∧(q=true↔(b≠0∧pb'≠p)))∧wx=w)
    case first =>
     as_aux_lemma =>
      by_cases h0:b=0
      ·have h0':((b:Int) != 0)=false:=by subst h0;rfl
       go_wp2_with fail
       go_meet
       case rel=>exact ⟨⟨false,rfl,by simp [h0]⟩,rfl⟩
      ·have h0':((b:Int) != 0)=true:=by simp;omega
       go_wp2_with fail
       go_meet
       case rel=>exact ⟨⟨_,rfl,by simp [h0];omega⟩,rfl⟩
    case rest =>
     obtain ⟨⟨q,rfl,hq⟩,hwc⟩:=hcut
     subst hwc
     rw [HPB.out] at hq
     have HQ:Hid (q=true↔(b≠0∧s.par b≠p)):=hq
     clear hq
     obtain ⟨w,hw⟩:∃ w:World,w=wc:=⟨_,rfl⟩
     subst hw
     cases q with
     | true =>
      have HX:Hid (b≠0∧s.par b≠p):=HQ.out.1 rfl
      clear HQ
      go_wp2_with fail
      go_ret
      exact PutPost.ahead HNo.out HX.out.1 HX.out.2
     | false =>
      have HBP:Hid (b=0∨s.par b=p):=by
       by_cases h0:b=0
       ·exact .inl h0
       ·by_cases h1:s.par b=p
        ·exact .inr h1
        ·have:=HQ.out.2 ⟨h0,h1⟩;cases this
      clear HQ
      clear kb HPB
      obtain ⟨kao,kcap,hkv,hkc0,hkf⟩:=rowForm (HH.out.kids p hpN)
      rw [HK.out] at hkv hkc0 hkf
      have hkn:Hid ((K p).length=0∨∃ g,kao=some ⟨g,0,none⟩∧∀ j,j<(K p).length→w.cell? ⟨g,j,none⟩=some (.int .i64 ((K p).getD j 0:Nat))):=by
       rcases hkf with h0 | ⟨g,hg',_,hc'⟩
       ·exact .inl h0
       ·refine .inr ⟨g,hg',fun j hj=>?_⟩
        rw [hc' j (by omega)]
        simp only [ints,List.getElem?_map]
        rw [List.getElem?_eq_getElem hj,List.getD_eq_getElem?_getD,List.getElem?_eq_getElem hj]
        rfl
      have ckp:w.cell? ⟨r.rn,p*5+4,none⟩=some (.slice kao (K p).length kcap):=by rw [← hkv];exact HH.out.ckv hpN
      have hfew:(K p).length≤300:=by rw [← HK.out];exact HH.out.few p hpN
      have HKV:Hid (r.kv p=.slice kao (K p).length kcap):=hkv
      clear hkf hkv
      go_upto_if 92 with fail
      go_cut [13,14] (fun _ _ wx=>wx=w∧¬ Full r.kn K p c)
      case first =>
       as_aux_lemma =>
        by_cases hk1:kp'=1
        ·have hk1':((kp':Int) == 1)=true:=by simp;omega
         by_cases hc3:kc'=3
         ·have hc3':((kc':Int) == 3)=true:=by simp;omega
          have HFu:Hid (Full r.kn K p c):=⟨by rw [← HKP.out];exact hk1,.inl (by rw [← HKC.out];exact hc3)⟩
          go_wp2_with fail
          go_ret
          exact PutPost.full HNo.out HBP.out HFu.out
         ·have hc3':((kc':Int) == 3)=false:=by simp;omega
          go_wp2_with fail
          go_loopw [13,14] (fun i _ wr=>∃ k:Nat,k≤(K p).length∧i=.int .i64 k∧wr=w∧∀ j,j∈(K p).take k→¬ (kc'=2∧j≠c∧r.kn j=2)) (fun i _ _=>(K p).length-(intOf i).toNat)
          case atStart=>exact ⟨0,Nat.zero_le _,rfl,rfl,by simp⟩
          case round =>
           obtain ⟨k,hkl,rfl,hwr,hno⟩:=hrel
           subst hwr
           have HNO:Hid (∀ j,j∈(K p).take k→¬ (kc'=2∧j≠c∧r.kn j=2)):=hno
           clear hno
           by_cases hlt:k<(K p).length
           ·rcases hkn.out with h0 | ⟨kg,rfl,hcell⟩
            ·omega
            have cy:=hcell k hlt
            have hmem:(K p).getD k 0∈K p:=by rw [List.getD_eq_getElem?_getD,List.getElem?_eq_getElem hlt];exact List.getElem_mem _
            have hyk:=HW.out.kid p _ hmem
            have HT:Hid ((K p).take (k+1)=(K p).take k++[(K p).getD k 0]):=by
             show (K p).take (k+1)=_
             rw [List.take_add_one,List.getD_eq_getElem?_getD,List.getElem?_eq_getElem hlt];rfl
            have HM:Hid ((K p).getD k 0∈K p):=hmem
            clear hcell hmem
            generalize (K p).getD k 0=y at *
            have hyL:(y:Int)<(L:Int):=by have:=HLe.out;omega
            have ky:=HH.out.ckn (i:=y) hyk.2.2.2.1
            obtain ⟨ky',hky⟩:∃ k,k=r.kn y:=⟨_,rfl⟩
            rw [← hky] at ky
            have HKY:Hid (ky'=r.kn y):=hky
            have ib:(k:Int)<((K p).length:Int):=by omega
            clear hky hyk
            by_cases t2:kc'=2
            ·have t2':((kc':Int) == 2)=true:=by simp;omega
             by_cases tc:y=c
             ·have tc':((y:Int) != (c:Int))=false:=by simp;omega
              go_wp2_with fail
              go_roundw
              case rel=>exact ⟨k+1,hlt,by go_num,trivial,by rw [HT.out];intro j hj;rcases List.mem_append.1 hj with hj | hj;(exact HNO.out j hj);(simp only [List.mem_singleton] at hj;subst hj;exact fun e=>e.2.1 tc)⟩
              case measure=>simp [intOf];omega
             ·have tc':((y:Int) != (c:Int))=true:=by simp;omega
              by_cases ty:ky'=2
              ·have ty':((ky':Int) == 2)=true:=by simp;omega
               have HFu:Hid (Full r.kn K p c):=⟨by rw [← HKP.out];exact hk1,.inr ⟨by rw [← HKC.out];exact t2,y,HM.out,tc,by rw [← HKY.out];exact ty⟩⟩
               go_wp2_with fail
               go_ret
               exact PutPost.full HNo.out HBP.out HFu.out
              ·have ty':((ky':Int) == 2)=false:=by simp;omega
               have HTY:Hid (ky'≠2):=ty
               go_wp2_with fail
               go_roundw
               case rel=>exact ⟨k+1,hlt,by go_num,trivial,by rw [HT.out];intro j hj;rcases List.mem_append.1 hj with hj | hj;(exact HNO.out j hj);(simp only [List.mem_singleton] at hj;subst hj;exact fun e=>HTY.out (by rw [HKY.out];exact e.2.2))⟩
               case measure=>simp [intOf];omega
            ·have t2':((kc':Int) == 2)=false:=by simp;omega
             have HT2:Hid (kc'≠2):=t2
             go_wp2_with fail
             go_roundw
             case rel=>exact ⟨k+1,hlt,by go_num,trivial,fun j _ e=>HT2.out e.1⟩
             case measure=>simp [intOf];omega
           ·have ek:(K p).take k=K p:=List.take_of_length_le (by omega)
            have HNF:Hid (¬ Full r.kn K p c):=by
             rintro ⟨_,h3 | ⟨h2,j,hj,hjc,hj2⟩⟩
             ·rw [← HKC.out] at h3;exact hc3 h3
             ·rw [← HKC.out] at h2
              exact HNO.out j (by rw [ek];exact hj) ⟨h2,hjc,hj2⟩
            have ib:¬ (k:Int)<((K p).length:Int):=by omega
            clear ek
            go_wp2_with fail
            go_meet
            case rel=>exact ⟨rfl,HNF.out⟩
        ·have hk1':((kp':Int) == 1)=false:=by simp;omega
         have HNF:Hid (¬ Full r.kn K p c):=by
          rintro ⟨h1,_⟩
          rw [← HKP.out] at h1;exact hk1 h1
         go_wp2_with fail
         go_meet
         case rel=>exact ⟨rfl,HNF.out⟩
      case rest =>
       obtain ⟨hwc,hnf⟩:=hcut
       have HNF:Hid (¬ Full r.kn K p c):=hnf
       clear hnf
       subst hwc
       obtain ⟨w,hw⟩:∃ w:World,w=wc:=⟨_,rfl⟩
       subst hw
       have HND:Hid (¬ Desc s.par p c):=fun e=>HNo.out (.inr (.inr e))
       have HBK:Hid (b=0∨b∈K p):=by
        rcases HBP.out with h0 | h0
        ·exact .inl h0
        ·by_cases hb0:b=0
         ·exact .inl hb0
         ·have:=HW.out.own b (by omega) hbN (by omega)
          rw [h0] at this
          exact .inr this
       obtain ⟨mk,hmk⟩:∃ m,m=markOf s c b:=⟨_,rfl⟩
       have HMK:Hid (mk=markOf s c b):=hmk
       clear hmk kp kc
       go_upto_if 153 with fail
       go_cut [3,15,16] (fun t3 _ _ wx=>t3=.int .i64 mk∧wx=w)
       case first =>
        as_aux_lemma =>
         by_cases hbc:b=c
         ·have hbc':((b:Int) == (c:Int))=true:=by simp;omega
          have hcK:c∈K p:=by
           rcases HBK.out with h0 | h0
           ·omega
           ·rw [← hbc];exact h0
          obtain ⟨xs,ys,hKs⟩:=split_of_mem hcK
          have hnd:=HW.out.nd p
          rw [hKs] at hnd
          have HSN:Hid (c ∉ xs∧c ∉ ys):=split_nodup hnd
          have HMe:Hid (mk=ys.headD 0):=by
           show mk=ys.headD 0
           rw [HMK.out];unfold markOf;rw [if_pos hbc];exact (HW.out.sides hKs).2
          have hlen:(K p).length=xs.length+1+ys.length:=by rw [hKs];simp;omega
          have HR:Hid (w.ownsRow 0 3 1 (.slice kao (xs.length+1+ys.length) kcap) (xs.length+1+ys.length) (ints (xs++c :: ys))):=by
           have h1:=HH.out.kids p hpN
           rw [HK.out,HKV.out,hlen,hKs] at h1
           exact h1
          rcases hkn.out with h0 | ⟨kg,rfl,hcell⟩
          ·omega
          have HCY:Hid (∀ y yt,ys=y :: yt→w.cell? ⟨kg,xs.length+1,none⟩=some (.int .i64 y)):=by
           intro y yt hy
           rw [hcell (xs.length+1) (by rw [hlen,hy];simp)]
           congr 2
           rw [hKs,hy,List.getD_eq_getElem?_getD,List.getElem?_append_right (by omega)]
           simp
          rw [hlen] at ckp
          clear hcell hnd hKs hcK
          go_wp2_with fail
          refine (refAt w _ (xs++c :: ys) c (xs.length+1+ys.length) HR.out (by simp;omega) (by simp;omega) (by simp)).mono ?_
          rintro e W3 ⟨hW3,k,hk,hget,rfl⟩
          have ek:k=xs.length:=idx_at HSN.out.1 HSN.out.2 hget
          subst ek
          rw [hW3]
          clear hk hget hW3
          cases ys with
          | nil =>
           have e0:mk=0:=HMe.out
           have i1:¬ ((xs.length:Int)+1<((xs.length+1+([]:List Nat).length:Nat):Int)):=by simp
           subst e0
           go_wp2_with fail
           go_meet
           case rel=>exact ⟨rfl,rfl⟩
          | cons y yt =>
           have e0:mk=y:=HMe.out
           have cy:=HCY.out y yt rfl
           have i1:((xs.length:Int)+1<((xs.length+1+(y :: yt).length:Nat):Int)):=by simp;omega
           subst e0
           go_wp2_with fail
           go_meet
           case rel=>exact ⟨rfl,rfl⟩
         ·have hbc':((b:Int) == (c:Int))=false:=by simp;omega
          have e0:mk=b:=by rw [HMK.out];unfold markOf;rw [if_neg hbc]
          subst e0
          go_wp2_with fail
          go_meet
          case rel=>exact ⟨rfl,rfl⟩
       case rest =>
        obtain ⟨rfl,hwc⟩:=hcut
        subst hwc
        obtain ⟨w,hw⟩:∃ w:World,w=wc:=⟨_,rfl⟩
        subst hw
        clear hkn ckp hfew
        have kpc:w.cell? ⟨r.rn,c*5+3,none⟩=some (.int .i64 (s.par c:Nat)):=by rw [← HP.out];exact HH.out.cpar hcN
        obtain ⟨pc,hpc⟩:∃ k,k=s.par c:=⟨_,rfl⟩
        rw [← hpc] at kpc
        have HPC:Hid (pc=s.par c):=hpc
        clear hpc
        go_upto_if 183 with fail
        go_cut [] (fun wx=>∃ r1,RPost w wx r r1∧Outed r s K c r1)
        case first =>
         as_aux_lemma =>
          by_cases h0:pc=0
          ·have h0':((pc:Int) != 0)=false:=by subst h0;rfl
           have HO:Hid (Outed r s K c r):=outed_self HP.out HK.out HW.out (by rw [← HPC.out];exact h0)
           go_wp2_with fail
           go_meet
           case rel=>exact ⟨r,RPost.refl HH.out,HO.out⟩
          ·have h0':((pc:Int) != 0)=true:=by simp;omega
           have H0:Hid (s.par c≠0):=by show s.par c≠0;rw [← HPC.out];exact h0
           go_wp2_with fail
           refine (refTakeOk HH.out HP.out HK.out HW.out HS.out c hc1 hcN H0.out).mono ?_
           rintro e W3 ⟨rfl,nv,hP⟩
           have HPp:Hid (RPost w W3 r (r.took s K c nv)):=hP
           clear hP
           go_wp2_with fail
           go_meet
           case rel=>exact ⟨_,HPp.out,outed_took H0.out⟩
        case rest =>
         obtain ⟨r1,hP1,kv1,hr1⟩:=hcut
         have HP1:Hid (RPost w wc r r1):=hP1
         have HR1:Hid (r1={ r with par:=(Fo.out s c).par,K:=dropK K c,kv:=kv1,il:=itsOut r.N s c r.il }):=hr1
         have o1:RefOK wc { r with par:=(Fo.out s c).par,K:=dropK K c,kv:=kv1,il:=itsOut r.N s c r.il }:=by rw [← hr1];exact hP1.ok
         have O1:Hid (RefOK wc { r with par:=(Fo.out s c).par,K:=dropK K c,kv:=kv1,il:=itsOut r.N s c r.il }):=o1
         have g1:wc.cell? ⟨r.rb,0,none⟩=some (.slice (some ⟨r.rn,0,none⟩) L r.cap):=by rw [HLe.out];exact o1.c0
         obtain ⟨us,vs,hus,hvs,_,hv0,hvb⟩:=put_wf HW.out hc1 hcN hp1 hpN HND.out HBK.out
         have hrow:wc.ownsRow 0 3 1 (kv1 p) (dropK K c p).length (ints (dropK K c p)):=o1.kids p hpN
         have hfew:(dropK K c p).length≤300:=o1.few p hpN
         have ck:wc.cell? ⟨r.rn,p*5+4,none⟩=some (kv1 p):=o1.ckv hpN
         have hlen:(dropK K c p).length=us.length+vs.length:=by rw [hus];simp
         rw [hus,show (us++vs).length=us.length+vs.length from by simp] at hrow
         rw [hlen] at hfew
         obtain ⟨lao,lcap,hlv,hlc,hlf⟩:=rowForm hrow
         rw [hlv] at hrow ck
         have HROW:Hid (wc.ownsRow 0 3 1 (.slice lao (us.length+vs.length) lcap) (us.length+vs.length) (ints (us++vs))):=hrow
         have HUS:Hid (dropK K c p=us++vs):=hus
         have HVS:Hid (vs.headD 0=mk):=by rw [HMK.out];exact hvs
         have HLF:Hid _:=hlf
         have hnd:(us++vs).Nodup:=by rw [← hus];exact (out_wf HW.out hc1 hcN).nd p
         have HNDP:Hid ((us++vs).Nodup):=hnd
         have HPOS:Hid (∀ x,x∈us++vs→x≠0):=fun x hx=>by
          have:=((out_wf HW.out hc1 hcN).kid p x (by rw [hus];exact hx)).2.2.1
          omega
         clear hP1 hr1 o1 hrow hlv hlf hus hvs hv0 hvb hnd hlen hg kpc
         obtain ⟨i0,hi,hz0,hz1,hz2⟩:=info_parts Tryz.info3
         rcases row_form HROW.out with ⟨hn1,hn2⟩ | ⟨lg,lc,hn1,hlle,hlgs,_,_⟩
         ·as_aux_lemma =>
           have eu:us=[]:=List.eq_nil_of_length_eq_zero (by omega)
           have ev:vs=[]:=List.eq_nil_of_length_eq_zero (by omega)
           subst eu
           subst ev
           have emk:mk=0:=HVS.out.symm
           subst emk
           rw [hn1] at ck
           obtain ⟨W2,hw⟩:∃ W2:World,W2=wc:=⟨_,rfl⟩
           subst hw
           have h0':(((0:Nat):Int) != 0)=false:=rfl
           clear hn1 hn2 hlc hfew
           have HU:Hid ((W2.alloc (.cells #[.int .i64 c] 3)).ownsRow W2.heap.size 3 1 (.slice none 0 0) 0 []):=World.ownsRow_nil _ _ _ _
           have C1:Hid (∀ j u,[Value.int .i64 c][j]?=some u→(W2.alloc (.cells #[.int .i64 c] 3)).cell? ((⟨W2.heap.size,0,none⟩:Addr).add j)=some u):=one_cell _ _ _
           go_wp2_with (at_builtin;refine wpList_append_own _ rfl _ _ 25 rfl W2.heap.size 3 i0 (.int .i64 0) 1 8 Tryz.underlying25 hi hz0 hz1 hz2 rfl (by decide) (.slice none 0 0) 0 [] rfl HU.out ⟨W2.heap.size,0,none⟩ 1 1 [.int .i64 c] rfl ?b0 C1.out ?b2 ?b3 ?b4 ?b5 ?_)
           case b0=>rfl
           case b2=>exact int_one c
           case b3=>unfold maxLen;omega
           case b4=>omega
           case b5=>simp
           intro v5 w5 hv5 hg5 _
           have hB6:Below W2.heap.size W2 w5:=((Below.refl _ W2).alloc (Nat.le_refl _) (.cells #[.int .i64 c] 3)).trans ⟨hg5.os,hg5.tape,hg5.output,Nat.le_trans (by simp) hg5.size,fun k hk=>hg5.block k (by simp;omega) (by simp [Value.ownBlock])⟩
           obtain ⟨nao,nlen,ncap,hnv⟩:=slice_of hv5
           subst hnv
           have H5:Hid (w5.ownsRow W2.heap.size 3 1 (.slice nao nlen ncap) (0+1) ([]++[.int .i64 c])):=hv5
           have HE:Hid (RPost w ((w5.setCell ⟨r.rn,p*5+4,none⟩ (.slice nao nlen ncap)).setCell ⟨r.rn,c*5+3,none⟩ (.int .i64 p)) r (r.put s K p c b (up kv1 p (.slice nao nlen ncap)))) :=
            put_end (us:=[]) (vs:=[]) HP1.out HR1.out HW.out hp1 hpN hc1 hcN HND.out HBK.out HMK.out HUS.out HVS.out HNDP.out HPOS.out hB6 (row_put (us:=[]) (vs:=[]) (c:=c) hv5 rfl (by simp [ints]))
           have O6:RefOK w5 { r with par:=(Fo.out s c).par,K:=dropK K c,kv:=kv1,il:=itsOut r.N s c r.il }:=O1.out.since hB6
           have g6:w5.cell? ⟨r.rb,0,none⟩=some (.slice (some ⟨r.rn,0,none⟩) L r.cap):=by rw [HLe.out];exact O6.c0
           obtain ⟨u6,k6⟩:∃ u,w5.cell? ⟨r.rn,p*5+4,none⟩=some u:=⟨_,O6.ckv hpN⟩
           obtain ⟨u7,k7⟩:∃ u,w5.cell? ⟨r.rn,c*5+3,none⟩=some u:=⟨_,O6.cpar hcN⟩
           have f6:∀ j,w5.frozen? ⟨r.rn,j,none⟩=false:=O6.free
           have hne6:r.rb≠r.rn:=O6.ne
           clear hv5 hg5 hB6 O6 g1 ck C1 HU
           go_wp2_with (at_builtin;refine wpList_append_own_none rfl _ _ 25 rfl W2.heap.size 3 i0 1 Tryz.underlying25 hi (.slice nao nlen ncap) (0+1) ([]++[.int .i64 c]) rfl H5.out rfl ?_)
           go_wp2_with fail
           go_ret
           exact PutPost.done HNo.out HBP.out HNF.out HE.out
         ·simp only [Value.slice.injEq,true_and] at hn1
          obtain ⟨rfl,rfl⟩:=hn1
          go_upto_if 198 with fail
          go_cut [18] (fun t wx=>t=.int .i64 (us.length:Nat)∧wx=wc)
          case first =>
           as_aux_lemma =>
            cases vs with
            | nil =>
             have e0:mk=0:=HVS.out.symm
             subst e0
             have h0':(((0:Nat):Int) != 0)=false:=rfl
             go_wp2_with fail
             go_meet
             case rel=>exact ⟨by simp,rfl⟩
            | cons v vt =>
             have e0:mk=v:=HVS.out.symm
             subst e0
             have hv0:mk≠0:=HPOS.out mk (by simp)
             have h0':((mk:Int) != 0)=true:=by simp;omega
             go_wp2_with fail
             refine (refAt wc _ (us++mk :: vt) mk (us.length+(mk :: vt).length) HROW.out (by simp) (by simp at hfew ⊢;omega) (by simp)).mono ?_
             rintro e W3 ⟨hW3,k,hk,hget,rfl⟩
             have ek:k=us.length:=idx_same HNDP.out hget (by rw [List.getElem?_append_right (Nat.le_refl _)];simp)
             subst ek
             rw [hW3]
             clear hk hget hW3
             go_wp2_with fail
             go_meet
             case rel=>exact ⟨rfl,rfl⟩
          case rest =>
           obtain ⟨rfl,hwc⟩:=hcut
           subst hwc
           have hcell:∀ j,j<us.length+vs.length→wc.cell? ⟨lg,j,none⟩=(ints (us++vs))[j]?:=fun j hj=>HROW.out.cellAt j (by omega)
           have P1:Hid (∀ j u,(ints us)[j]?=some u→wc.cell? ((⟨lg,0,none⟩:Addr).add j)=some u):=piece (xs:=[]) (ys:=us) (zs:=vs) (n:=us.length+vs.length) hcell (by simp) rfl
           have P2:Hid (∀ j u,(ints vs)[j]?=some u→wc.cell? ((⟨lg,us.length,none⟩:Addr).add j)=some u):=piece (xs:=us) (ys:=vs) (zs:=[]) (n:=us.length+vs.length) hcell (by simp) (by simp)
           clear hcell
           obtain ⟨W2,hw⟩:∃ W2:World,W2=wc:=⟨_,rfl⟩
           subst hw
           have ib1:(us.length:Int)≤(lcap:Int):=by omega
           go_wp2_with (at_builtin;refine wpList_append_own _ rfl _ _ 25 rfl W2.heap.size 3 i0 (.int .i64 0) 1 8 Tryz.underlying25 hi hz0 hz1 hz2 rfl (by decide) (.slice none 0 0) 0 [] rfl (World.ownsRow_nil _ _ _ _) ⟨lg,0,none⟩ us.length lcap (ints us) rfl ?a0 P1.out ?a2 ?a3 ?a4 (Nat.le_refl _) ?_)
           case a0=>simp [ints]
           case a2=>exact ints_one us
           case a3=>unfold maxLen;omega
           case a4=>omega
           intro uv w3 hu hgrow3 _
           have hB3:Below W2.heap.size W2 w3:=⟨hgrow3.os,hgrow3.tape,hgrow3.output,hgrow3.size,fun k hk=>hgrow3.block k hk (by simp [Value.ownBlock])⟩
           have HB3:Hid (Below W2.heap.size W2 w3):=hB3
           have HU:Hid ((w3.alloc (.cells #[.int .i64 c] 3)).ownsRow W2.heap.size 3 1 uv us.length (ints us)):=World.ownsRow.alloc hu _
           have HU0:Hid (w3.ownsRow W2.heap.size 3 1 uv us.length (ints us)):=hu
           have hsz3:=hB3.size
           have C1:Hid (∀ j u,[Value.int .i64 c][j]?=some u→(w3.alloc (.cells #[.int .i64 c] 3)).cell? ((⟨w3.heap.size,0,none⟩:Addr).add j)=some u):=one_cell _ _ _
           clear hu hgrow3 hB3 P1
           go_wp2_with (at_builtin;refine wpList_append_own _ rfl _ _ 25 rfl W2.heap.size 3 i0 (.int .i64 0) 1 8 Tryz.underlying25 hi hz0 hz1 hz2 rfl (by decide) uv us.length (ints us) rfl HU.out ⟨w3.heap.size,0,none⟩ 1 1 [.int .i64 c] rfl ?b0 C1.out ?b2 ?b3 ?b4 ?b5 ?_)
           case b0=>rfl
           case b2=>exact int_one c
           case b3=>unfold maxLen;omega
           case b4=>omega
           case b5=>simp;omega
           intro v5 w5 hv5 hg5 _
           have hB5:Below W2.heap.size W2 w5:=(HB3.out.trans (((Below.refl _ w3).alloc (Nat.le_refl _) (.cells #[.int .i64 c] 3)).mono hsz3)).trans ⟨hg5.os,hg5.tape,hg5.output,hg5.size,fun k hk=>hg5.block k (by simp;omega) (fun e=>by have:=(HU0.out.lt k e.symm).1;omega)⟩
           have HB5:Hid (Below W2.heap.size W2 w5):=hB5
           have H5:Hid (w5.ownsRow W2.heap.size 3 1 v5 (us.length+1) (ints us++[.int .i64 c])):=hv5
           have hs5:=hB5.size
           have P5:Hid (∀ j u,(ints vs)[j]?=some u→w5.cell? ((⟨lg,us.length,none⟩:Addr).add j)=some u):=fun j u hj=>by
            rw [at_add]
            have:=P2.out j u hj
            rw [at_add] at this
            rw [← this]
            exact World.cell?_of_block (hB5.block lg hlgs)
           clear hv5 hg5 hB5 P2 C1 HU HU0 HB3
           by_cases hcap:lcap=us.length
           ·as_aux_lemma =>
             have hys:vs=[]:=List.eq_nil_of_length_eq_zero (by omega)
             subst hys
             subst hcap
             go_wp2_with (at_builtin;refine wpList_append_own _ rfl _ _ 25 rfl W2.heap.size 3 i0 (.int .i64 0) 1 8 Tryz.underlying25 hi hz0 hz1 hz2 rfl (by decide) v5 (us.length+1) (ints us++[.int .i64 c]) rfl H5.out _ 0 _ (ints []) rfl (by rfl) ?d1 ?d2 ?d3 ?d4 ?d5 ?_)
             case d1=>intro j u hj;simp [ints] at hj
             case d2=>exact ints_one []
             case d3=>unfold maxLen;omega
             case d4=>omega
             case d5=>exact hs5
             intro nv w6 hv6 hg6 _
             have hB6:Below W2.heap.size W2 w6:=HB5.out.trans ⟨hg6.os,hg6.tape,hg6.output,hg6.size,fun k hk=>hg6.block k (by omega) (fun e=>by have:=(H5.out.lt k e.symm).1;omega)⟩
             obtain ⟨nao,nlen,ncap,hnv⟩:=slice_of hv6
             subst hnv
             have hv7:=row_put (us:=us) (vs:=[]) (c:=c) hv6 rfl (by simp [ints])
             have HE:Hid (RPost w ((w6.setCell ⟨r.rn,p*5+4,none⟩ (.slice nao nlen ncap)).setCell ⟨r.rn,c*5+3,none⟩ (.int .i64 p)) r (r.put s K p c b (up kv1 p (.slice nao nlen ncap)))) :=
              put_end HP1.out HR1.out HW.out hp1 hpN hc1 hcN HND.out HBK.out HMK.out HUS.out HVS.out HNDP.out HPOS.out hB6 hv7
             have O6:RefOK w6 { r with par:=(Fo.out s c).par,K:=dropK K c,kv:=kv1,il:=itsOut r.N s c r.il }:=O1.out.since hB6
             have g6:w6.cell? ⟨r.rb,0,none⟩=some (.slice (some ⟨r.rn,0,none⟩) L r.cap):=by rw [HLe.out];exact O6.c0
             obtain ⟨u6,k6⟩:∃ u,w6.cell? ⟨r.rn,p*5+4,none⟩=some u:=⟨_,O6.ckv hpN⟩
             obtain ⟨u7,k7⟩:∃ u,w6.cell? ⟨r.rn,c*5+3,none⟩=some u:=⟨_,O6.cpar hcN⟩
             have f6:∀ j,w6.frozen? ⟨r.rn,j,none⟩=false:=O6.free
             have hne6:r.rb≠r.rn:=O6.ne
             clear hv6 hg6 hB6 O6 g1 ck
             go_wp2_with fail
             go_ret
             exact PutPost.done HNo.out HBP.out HNF.out HE.out
           ·as_aux_lemma =>
             have hcap':us.length<lcap:=by omega
             go_wp2_with (at_builtin;refine wpList_append_own _ rfl _ _ 25 rfl W2.heap.size 3 i0 (.int .i64 0) 1 8 Tryz.underlying25 hi hz0 hz1 hz2 rfl (by decide) v5 (us.length+1) (ints us++[.int .i64 c]) rfl H5.out ⟨lg,us.length,none⟩ vs.length (lcap-us.length) (ints vs) rfl ?d0 P5.out ?d2 ?d3 ?d4 ?d5 ?_)
             case d0=>simp [ints]
             case d2=>exact ints_one vs
             case d3=>unfold maxLen;omega
             case d4=>omega
             case d5=>exact hs5
             intro nv w6 hv6 hg6 _
             have hB6:Below W2.heap.size W2 w6:=HB5.out.trans ⟨hg6.os,hg6.tape,hg6.output,hg6.size,fun k hk=>hg6.block k (by omega) (fun e=>by have:=(H5.out.lt k e.symm).1;omega)⟩
             obtain ⟨nao,nlen,ncap,hnv⟩:=slice_of hv6
             subst hnv
             have hv7:=row_put (us:=us) (vs:=vs) (c:=c) hv6 rfl (by simp [ints])
             have HE:Hid (RPost w ((w6.setCell ⟨r.rn,p*5+4,none⟩ (.slice nao nlen ncap)).setCell ⟨r.rn,c*5+3,none⟩ (.int .i64 p)) r (r.put s K p c b (up kv1 p (.slice nao nlen ncap)))) :=
              put_end HP1.out HR1.out HW.out hp1 hpN hc1 hcN HND.out HBK.out HMK.out HUS.out HVS.out HNDP.out HPOS.out hB6 hv7
             have O6:RefOK w6 { r with par:=(Fo.out s c).par,K:=dropK K c,kv:=kv1,il:=itsOut r.N s c r.il }:=O1.out.since hB6
             have g6:w6.cell? ⟨r.rb,0,none⟩=some (.slice (some ⟨r.rn,0,none⟩) L r.cap):=by rw [HLe.out];exact O6.c0
             obtain ⟨u6,k6⟩:∃ u,w6.cell? ⟨r.rn,p*5+4,none⟩=some u:=⟨_,O6.ckv hpN⟩
             obtain ⟨u7,k7⟩:∃ u,w6.cell? ⟨r.rn,c*5+3,none⟩=some u:=⟨_,O6.cpar hcN⟩
             have f6:∀ j,w6.frozen? ⟨r.rn,j,none⟩=false:=O6.free
             have hne6:r.rb≠r.rn:=O6.ne
             clear hv6 hg6 hB6 O6 g1 ck
             go_wp2_with fail
             go_ret
             exact PutPost.done HNo.out HBP.out HNF.out HE.out
end
end Go.Proofs.YtcedebpoihcbdaaGreatDoor
