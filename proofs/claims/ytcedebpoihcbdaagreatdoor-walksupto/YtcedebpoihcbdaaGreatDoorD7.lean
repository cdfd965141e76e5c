/-
  The law's look at all that there is in the end.
-/
import Derived.Test.YtcedebpoihcbdaaGreatDoorD6
set_option linter.unusedVariables false
set_option maxHeartbeats 4000000
set_option maxRecDepth 100000
namespace Go.Proofs.YtcedebpoihcbdaaGreatDoor
open Go.RowKit Go.Shelf Gv
def LenOK (last:Nat):Prop:=13≤last→∀ (W:World) (D wb c k:Nat) (l:La) (r:Rx) (i:Int),LInv W D wb last c l→l.rs[k]?=some r →
 Calls Tryz.prog 65 #[.pointer (some ⟨r.rb,0,none⟩),.int .i64 i] W fun e W'=>Below W.heap.size W W'∧∃ (n:Nat) (q:Int),e=.returned (.tuple #[.int .i64 n,.int .i64 q])∧n≤300
section
variable {W W1 W' wr:World} {D wb last c k:Nat} {l:La} {r:Rx}
theorem Law.len (hN:LenOK last) (h13:13≤last) (h:Law W D wb last c l wr) (hr:l.rs[k]?=some r) (i:Int) :
  Calls Tryz.prog 65 #[.pointer (some ⟨r.rb,0,none⟩),.int .i64 i] wr fun e w'=>Law W D wb last c l w'∧∃ (n:Nat) (q:Int),e=.returned (.tuple #[.int .i64 n,.int .i64 q])∧n≤300:=by
 have h0:=h
 obtain ⟨l',h1,h2,h3,h4⟩:=h
 have hm:(l'.rs.map rptr)[k]?=some (rptr r):=by rw [h3,List.getElem?_map,hr];rfl
 rw [List.getElem?_map] at hm
 obtain ⟨r',hr',e⟩:=Option.map_eq_some_iff.1 hm
 have e':r'.rb=r.rb:=by unfold rptr at e;simpa using e
 rw [← e']
 refine (hN h13 wr D wb c k l' r' i h1 hr').mono ?_
 rintro e w' ⟨hb,n,q,rfl,hn⟩
 exact ⟨h0.since hb,n,q,rfl,hn⟩
theorem Law.rows (h:Law W D wb last c l wr) (hr:l.rs[k]?=some r):∃ (L:Nat) (na wa ia qa:Option Addr) (nc wc ic qc wn im qm:Nat),wr.cell? ⟨r.rb,0,none⟩=some (.slice na L nc)∧wr.cell? ⟨r.rb,1,none⟩=some (.slice wa wn wc)∧wr.cell? ⟨r.rb,2,none⟩=some (.slice ia im ic)∧wr.cell? ⟨r.rb,3,none⟩=some (.slice qa qm qc) ∧
  L≤301∧wn≤50∧im≤50∧qm≤50∧(last<10→wn=0)∧(last<14→im=0)∧(last<17→qm=0):=by
 obtain ⟨r',h1,h2,h3⟩:=h.ref hr
 obtain ⟨wa,wc,e1,_,_⟩:=rowForm h1.wat
 obtain ⟨ia,ic,e2,_,_⟩:=rowForm h1.its
 obtain ⟨qa,qc,e3,_,_⟩:=rowForm h1.wks
 rw [← h2]
 refine ⟨r'.N+1,_,wa,ia,qa,r'.cap,wc,ic,qc,r'.wl.length,r'.il.length,r'.ql.length,h1.c0,?_,?_,?_,by have:=h1.hN;omega,h1.wfew,h1.ifew,h1.qfew,fun e=>?_,fun e=>?_,fun e=>?_⟩
 ·rw [← e1];exact h1.c1
 ·rw [← e2];exact h1.c2
 ·rw [← e3];exact h1.c3
 ·rw [h3.1 e];rfl
 ·rw [h3.2.1 e];rfl
 ·rw [h3.2.2 e];rfl
theorem endsL (hS:StepOK last) (hN:LenOK last) (hlast:last=6∨last=13∨last=16∨last=20) (h:LInv W D wb last c l) (hk:k<l.gs.length) (hc:c≤30000000000) :
  Calls Tryz.prog 30 #[.pointer (some ⟨wb,0,none⟩),.int .i64 k] W fun e W'=>e=.returned (.bool true)∧Law W D wb last (c+40000) l W':=by
 have HS:Hid (StepOK last):=hS
 have HN:Hid (LenOK last):=hN
 have L0:Hid (Law W D wb last c l W):=Law.start h
 obtain ⟨g,r,gg,gc,rg,rc',hg,hr,c0,c1,cg,cr⟩:=h.open hk
 have HR:Hid (l.rs[k]?=some r):=hr
 have hkl:(k:Int)<(l.gs.length:Int):=by omega
 have hk2:l.gs.length≤30000000000:=by have:=h.gfew;omega
 have HO:Hid (OpOK W D ByteArray.empty ByteArray.empty none 0 0):=OpOK.none W D
 have HLA:Hid (last=6∨last=13∨last=16∨last=20):=hlast
 clear h hS hN hg hr hlast cg
 go_enter Tryz.func30, Tryz.ntmps30
 go_wp2_with fail
 go_loopw [6,7] (fun o i wr=>∃ n:Nat,1≤n∧n≤301∧o=.bool true∧i=.int .i64 n∧Law W D wb last (c+4*(n-1)) l wr) (fun _ i _=>301-(intOf i).toNat)
 case atStart=>exact ⟨1,Nat.le_refl _,by omega,rfl,rfl,L0.out⟩
 case round =>
  obtain ⟨n,hn1,hn2,rfl,rfl,hL⟩:=hrel
  obtain ⟨w1,rfl⟩:∃ w1:World,w1=wr:=⟨_,rfl⟩
  obtain ⟨L,na,wa,ia,qa,nc,wc,ic,qc,wn,im,qm,r0,r1,r2,r3,b0,b1,b2,b3,m1,m2,m3⟩:=hL.rows HR.out
  have HL:Hid (Law W D wb last (c+4*(n-1)) l w1):=hL
  clear hL c0 c1 cr L0
  by_cases hnL:n<L
  ·have hnL':(n:Int)<(L:Int):=by omega
   clear r1 r2 r3 m1 m2 m3 b1 b2 b3
   go_wp2_with fail
   refine (Law.step HS.out HL.out hk (by omega) 5 n 0 0 0 _ _ none 0 0 false HO.out (by have:=HLA.out;omega) (by omega)).mono ?_
   rintro e w2 ⟨rfl,hL2⟩
   have HL2:Hid (Law W D wb last (c+4*(n-1)+2) l w2):=hL2
   clear hL2 HL r0
   go_wp2_with fail
   refine (Law.step HS.out HL2.out hk (by omega) 6 n 0 0 0 _ _ none 0 0 false HO.out (by have:=HLA.out;omega) (by omega)).mono ?_
   rintro e w3 ⟨rfl,hL3⟩
   have HL3:Hid (Law W D wb last (c+4*(n-1)+2+2) l w3):=hL3
   clear hL3 HL2
   go_wp2_with fail
   go_roundw
   case rel=>exact ⟨n+1,by omega,by omega,by simp,by go_num,HL3.out.more (by omega)⟩
   case measure=>simp [intOf];omega
  ·have hnL':¬ (n:Int)<(L:Int):=by omega
   have HX:Hid (Law W D wb last (c+1200) l w1):=HL.out.more (by omega)
   clear r1 r2 r3 m1 m2 m3 b1 b2 b3 HL
   go_wp2_with fail
   go_loopw [6,10] (fun o i wr=>∃ n:Nat,1≤n∧n≤51∧o=.bool true∧i=.int .i64 n∧Law W D wb last (c+1200+604*(n-1)) l wr) (fun _ i _=>51-(intOf i).toNat)
   case atStart=>exact ⟨1,Nat.le_refl _,by omega,rfl,rfl,HX.out⟩
   case round =>
    clear r0 b0 hnL hnL' hn1 hn2 HX
    obtain ⟨i,hi1,hi2,rfl,rfl,hL⟩:=hrel
    obtain ⟨w2,rfl⟩:∃ w2:World,w2=wr:=⟨_,rfl⟩
    obtain ⟨L,na,wa,ia,qa,nc,wc,ic,qc,wn,im,qm,r0,r1,r2,r3,b0,b1,b2,b3,m1,m2,m3⟩:=hL.rows HR.out
    have HL:Hid (Law W D wb last (c+1200+604*(i-1)) l w2):=hL
    clear hL
    by_cases hiL:i≤wn
    ·have hiL':(i:Int)≤(wn:Int):=by omega
     have h13:13≤last:=by
      have:=HLA.out
      by_cases e:last<10
      ·have:=m1 e;omega
      ·omega
     clear r0 r2 r3 m1 m2 m3 b0 b2 b3
     go_wp2_with fail
     refine (Law.len HN.out h13 HL.out HR.out i).mono ?_
     rintro e w3 ⟨hL3,nn,q,rfl,hnn⟩
     have HL3:Hid (Law W D wb last (c+1200+604*(i-1)) l w3):=hL3
     clear hL3 HL r1
     go_wp2_with fail
     refine (Law.step HS.out HL3.out hk (by omega) 11 i 0 0 0 _ _ none 0 0 false HO.out (by omega) (by omega)).mono ?_
     rintro e w4 ⟨rfl,hL4⟩
     have HL4:Hid (Law W D wb last (c+1200+604*(i-1)+2) l w4):=hL4
     clear hL4 HL3
     go_wp2_with fail
     go_loopw [6,13] (fun o j wr=>∃ n:Nat,n≤301∧o=.bool true∧j=.int .i64 n∧Law W D wb last (c+1200+604*(i-1)+2+2*n) l wr) (fun _ i _=>301-(intOf i).toNat)
     case atStart=>exact ⟨0,by omega,rfl,rfl,HL4.out⟩
     case round =>
      obtain ⟨j,hj,rfl,rfl,hL⟩:=hrel
      obtain ⟨w5,rfl⟩:∃ w5:World,w5=wr:=⟨_,rfl⟩
      have HL5:Hid (Law W D wb last (c+1200+604*(i-1)+2+2*j) l w5):=hL
      clear hL HL4
      by_cases hjn:j≤nn
      ·have hjn':(j:Int)≤(nn:Int):=by omega
       go_wp2_with fail
       refine (Law.step HS.out HL5.out hk (by omega) 12 i j 0 0 _ _ none 0 0 false HO.out (by omega) (by omega)).mono ?_
       rintro e w6 ⟨rfl,hL6⟩
       have HL6:Hid (Law W D wb last (c+1200+604*(i-1)+2+2*j+2) l w6):=hL6
       clear hL6 HL5
       go_wp2_with fail
       go_roundw
       case rel=>exact ⟨j+1,by omega,rfl,by go_num,HL6.out.more (by omega)⟩
       case measure=>simp [intOf];omega
      ·have hjn':¬ (j:Int)≤(nn:Int):=by omega
       go_wp2_with fail
       go_roundw
       case rel=>exact ⟨i+1,by omega,by omega,rfl,by go_num,HL5.out.more (by omega)⟩
       case measure=>simp [intOf];omega
    ·have hiL':¬ (i:Int)≤(wn:Int):=by omega
     have HX:Hid (Law W D wb last (c+31400) l w2):=HL.out.more (by omega)
     clear r0 r2 r3 m1 m2 m3 b0 b2 b3 HL
     go_wp2_with fail
     go_loopw [6,14] (fun o i wr=>∃ n:Nat,1≤n∧n≤51∧o=.bool true∧i=.int .i64 n∧Law W D wb last (c+31400+8*(n-1)) l wr) (fun _ i _=>51-(intOf i).toNat)
     case atStart=>exact ⟨1,Nat.le_refl _,by omega,rfl,rfl,HX.out⟩
     case round =>
      clear r1 b1 hiL hiL' hi1 hi2 HX
      obtain ⟨i,hi1,hi2,rfl,rfl,hL⟩:=hrel
      obtain ⟨w3,rfl⟩:∃ w3:World,w3=wr:=⟨_,rfl⟩
      obtain ⟨L,na,wa,ia,qa,nc,wc,ic,qc,wn,im,qm,r0,r1,r2,r3,b0,b1,b2,b3,m1,m2,m3⟩:=hL.rows HR.out
      have HL:Hid (Law W D wb last (c+31400+8*(i-1)) l w3):=hL
      clear hL
      by_cases hiL:i≤im
      ·have hiL':(i:Int)≤(im:Int):=by omega
       have h16:16≤last:=by
        have:=HLA.out
        by_cases e:last<14
        ·have:=m2 e;omega
        ·omega
       clear r0 r1 r3 m1 m2 m3 b0 b1 b3
       go_wp2_with fail
       refine (Law.step HS.out HL.out hk (by omega) 16 i 0 0 0 _ _ none 0 0 false HO.out (by omega) (by omega)).mono ?_
       rintro e w4 ⟨rfl,hL4⟩
       have HL4:Hid (Law W D wb last (c+31400+8*(i-1)+2) l w4):=hL4
       clear hL4 HL r2
       go_wp2_with fail
       go_loopw [6,15] (fun o j wr=>∃ n:Nat,n≤3∧o=.bool true∧j=.int .i64 n∧Law W D wb last (c+31400+8*(i-1)+2+2*n) l wr) (fun _ i _=>3-(intOf i).toNat)
       case atStart=>exact ⟨0,by omega,rfl,rfl,HL4.out⟩
       case round =>
        obtain ⟨j,hj,rfl,rfl,hL⟩:=hrel
        obtain ⟨w5,rfl⟩:∃ w5:World,w5=wr:=⟨_,rfl⟩
        have HL5:Hid (Law W D wb last (c+31400+8*(i-1)+2+2*j) l w5):=hL
        clear hL HL4
        by_cases hjn:j<3
        ·have hjn':(j:Int)<3:=by omega
         go_wp2_with fail
         refine (Law.step HS.out HL5.out hk (by omega) 15 i 0 0 0 _ _ none 0 0 _ HO.out (by omega) (by omega)).mono ?_
         rintro e w6 ⟨rfl,hL6⟩
         have HL6:Hid (Law W D wb last (c+31400+8*(i-1)+2+2*j+2) l w6):=hL6
         clear hL6 HL5
         go_wp2_with fail
         go_roundw
         case rel=>exact ⟨j+1,by omega,rfl,by go_num,HL6.out.more (by omega)⟩
         case measure=>simp [intOf];omega
        ·have hjn':¬ (j:Int)<3:=by omega
         go_wp2_with fail
         go_roundw
         case rel=>exact ⟨i+1,by omega,by omega,rfl,by go_num,HL5.out.more (by omega)⟩
         case measure=>simp [intOf];omega
      ·have hiL':¬ (i:Int)≤(im:Int):=by omega
       have HX:Hid (Law W D wb last (c+31800) l w3):=HL.out.more (by omega)
       clear r0 r1 r3 m1 m2 m3 b0 b1 b3 HL
       go_wp2_with fail
       go_loopw [6,16] (fun o i wr=>∃ n:Nat,1≤n∧n≤51∧o=.bool true∧i=.int .i64 n∧Law W D wb last (c+31800+16*(n-1)) l wr) (fun _ i _=>51-(intOf i).toNat)
       case atStart=>exact ⟨1,Nat.le_refl _,by omega,rfl,rfl,HX.out⟩
       case round =>
        clear r2 b2 hiL hiL' hi1 hi2 HX
        obtain ⟨i,hi1,hi2,rfl,rfl,hL⟩:=hrel
        obtain ⟨w4,rfl⟩:∃ w4:World,w4=wr:=⟨_,rfl⟩
        obtain ⟨L,na,wa,ia,qa,nc,wc,ic,qc,wn,im,qm,r0,r1,r2,r3,b0,b1,b2,b3,m1,m2,m3⟩:=hL.rows HR.out
        have HL:Hid (Law W D wb last (c+31800+16*(i-1)) l w4):=hL
        clear hL
        by_cases hiL:i≤qm
        ·have hiL':(i:Int)≤(qm:Int):=by omega
         have h20:20≤last:=by
          have:=HLA.out
          by_cases e:last<17
          ·have:=m3 e;omega
          ·omega
         clear r0 r1 r2 m1 m2 m3 b0 b1 b2
         go_wp2_with fail
         refine (Law.step HS.out HL.out hk (by omega) 19 i 0 0 0 _ _ none 0 0 false HO.out (by omega) (by omega)).mono ?_
         rintro e w5 ⟨rfl,hL4⟩
         have HL4:Hid (Law W D wb last (c+31800+16*(i-1)+2) l w5):=hL4
         clear hL4 HL r3
         go_wp2_with fail
         go_loopw [6,17] (fun o j wr=>∃ n:Nat,1≤n∧n≤8∧o=.bool true∧j=.int .i64 n∧Law W D wb last (c+31800+16*(i-1)+2+2*(n-1)) l wr) (fun _ i _=>8-(intOf i).toNat)
         case atStart=>exact ⟨1,Nat.le_refl _,by omega,rfl,rfl,HL4.out⟩
         case round =>
          obtain ⟨j,hj1,hj,rfl,rfl,hL⟩:=hrel
          obtain ⟨w6,rfl⟩:∃ w6:World,w6=wr:=⟨_,rfl⟩
          have HL5:Hid (Law W D wb last (c+31800+16*(i-1)+2+2*(j-1)) l w6):=hL
          clear hL HL4
          by_cases hjn:j≤7
          ·have hjn':(j:Int)≤7:=by omega
           go_wp2_with fail
           refine (Law.step HS.out HL5.out hk (by omega) 18 i j 0 0 _ _ none 0 0 false HO.out (by omega) (by omega)).mono ?_
           rintro e w7 ⟨rfl,hL6⟩
           have HL6:Hid (Law W D wb last (c+31800+16*(i-1)+2+2*(j-1)+2) l w7):=hL6
           clear hL6 HL5
           go_wp2_with fail
           go_roundw
           case rel=>exact ⟨j+1,by omega,by omega,rfl,by go_num,HL6.out.more (by omega)⟩
           case measure=>simp [intOf];omega
          ·have hjn':¬ (j:Int)≤7:=by omega
           go_wp2_with fail
           go_roundw
           case rel=>exact ⟨i+1,by omega,by omega,rfl,by go_num,HL5.out.more (by omega)⟩
           case measure=>simp [intOf];omega
        ·have hiL':¬ (i:Int)≤(qm:Int):=by omega
         have HX:Hid (Law W D wb last (c+40000) l w4):=HL.out.more (by omega)
         clear r0 r1 r2 m1 m2 m3 b0 b1 b2 HL
         go_wp2_with fail
         go_ret
         exact ⟨rfl,HX.out⟩
end
end Go.Proofs.YtcedebpoihcbdaaGreatDoor
