/-
  A grove as one thing: what Set and Unset make of it.
-/
import Derived.Test.YtcedebpoihcbdaaGreatDoorG8
set_option linter.unusedVariables false
set_option maxRecDepth 100000
namespace Go.Proofs.YtcedebpoihcbdaaGreatDoor
open Go.RowKit Go.Shelf Gv
theorem Re.cnt_wv (r:Re) (name:ByteArray):(r.cnt name).wv=r.wv:=by unfold Re.cnt;split <;> rfl
theorem Re.cnt_cl (r:Re) (name:ByteArray):r.cl≤(r.cnt name).cl∧(r.cnt name).cl≤r.cl+1:=by
 unfold Re.cnt
 split
 ·exact ⟨by show r.cl≤r.cl+1;omega,Int.le_refl _⟩
 ·exact ⟨Int.le_refl _,by omega⟩
section
variable {B:Nat} {w w':World} {g g':Gx}
theorem GOK.attd (h:GOK B w g) {r':Re} {A':Nat→ByteArray→Option ByteArray} (hG:Grl B w' g.gb g.nb g.cap g.N g.kk g.tg g.kd g.mp g.σ r' A' g.ls) (hF:Fr (fun i=>i=g.gb∨∃ m,1≤m∧m≤g.N∧g.kk m=2∧i=g.mp m) w w')
  (hr:r'.lv=g.r.lv∧r'.iv=g.r.iv∧r'.wv=g.r.wv∧r'.pl=g.r.pl∧g.r.cl≤r'.cl):Post B w w' g { g with r:=r',A:=A' }:=by
 obtain ⟨e1,e2,e3,e4,e5⟩:=hr
 have hty:∀ i cs t fr,(i=g.gb∨∃ m,1≤m∧m≤g.N∧g.kk m=2∧i=g.mp m)→w.heap[i]?=some (.cells cs t fr)→t≠88∧t≠32:=by
  rintro i cs t fr (rfl | ⟨m,m1,m2,m3,rfl⟩) e
  ·rw [h.tyG e];decide
  ·obtain ⟨es,c,hes,_⟩:=h.grl.ats.at_ m m1 m2 m3
   rw [hes] at e;cases e
 have hR:=h.rest hF hty
 refine ⟨⟨hG,by show Wks w' B r'.wv g.ws;rw [e3];exact hR.1,h.lo,hR.2.1,hR.2.2,h.wok,by show 0≤r'.pl;rw [e4];exact h.pl0,by show 0≤r'.cl;have:=h.cl0;omega,fun e=>h.zero (by have e':r'.pl=0:=e;omega)⟩,hF.mono (fun i hi=>?_),fun i hi=>.inl ?_,rfl⟩
 ·rcases hi with rfl | ⟨m,m1,m2,m3,rfl⟩
  ·exact Gx.own_g
  ·exact Gx.own_mp m1 m2 m3
 ·rcases hi with hi | hi | hi | hi | hi | hi | hi | hi | hi
  ·exact .inl hi
  ·exact .inr (.inl hi)
  ·exact Gx.own_lv (by rw [← e1];exact hi)
  ·exact Gx.own_iv (by rw [← e2];exact hi)
  ·exact Gx.own_wv (by rw [← e3];exact hi)
  ·exact .inr (.inr (.inr (.inr (.inr (.inl hi)))))
  ·exact .inr (.inr (.inr (.inr (.inr (.inr (.inl hi))))))
  ·exact .inr (.inr (.inr (.inr (.inr (.inr (.inr (.inl hi)))))))
  ·exact .inr (.inr (.inr (.inr (.inr (.inr (.inr (.inr hi)))))))
theorem cnt_keeps (r:Re) (name:ByteArray):(r.cnt name).lv=r.lv∧(r.cnt name).iv=r.iv∧(r.cnt name).wv=r.wv∧(r.cnt name).pl=r.pl∧r.cl≤(r.cnt name).cl:=⟨r.cnt_lv name,r.cnt_iv name,r.cnt_wv name,r.cnt_pl name,(r.cnt_cl name).1⟩
def Gx.set (g:Gx) (n:Int) (name value:ByteArray):Gx:={ g with r:=setR g.N g.kk g.r n name value,A:=setA g.N g.kk g.A n name value }
def Gx.unset (g:Gx) (n:Int) (name:ByteArray):Gx:={ g with r:=unsetR g.N g.kk g.A g.r n name,A:=unsetA g.N g.kk g.A n name }
theorem gset_same {n:Int} {name value:ByteArray} (he:setErr g.N g.kk n name value≠0):g.set n name value=g:=by
 unfold Gx.set setR setA
 rw [if_neg he,if_neg he]
theorem setX (h:GOK B w g) (n:Int) (name value:ByteArray) (hs:name.size≤maxLen) (hv:value.size≤1048576) (hcl:g.r.cl≤1000000) :
  Calls Tryz.prog 97 #[.pointer (some ⟨g.gb,0,none⟩),.int .i64 n,.string name,.string value] w fun e w'=>e=.returned (.int .i64 (setErr g.N g.kk n name value))∧Post B w w' g (g.set n name value):=by
 by_cases hv1:value.size≤1000000
 ·refine (setS h.grl n name value hs hv1 h.cl0 hcl).mono ?_
  rintro e w' ⟨rfl,hG,hF⟩
  refine ⟨rfl,h.attd hG hF ?_⟩
  unfold setR
  split
  ·exact cnt_keeps _ _
  ·exact ⟨rfl,rfl,rfl,rfl,Int.le_refl _⟩
 ·have HH:Hid (GOK B w g):=h
  have HM:Hid (Calls Tryz.prog 146 #[.pointer (some ⟨g.gb,0,none⟩),.int .i64 n,.string name] w fun e w'=>e=.returned (.int .i64 (haveErr g.N g.kk n name))∧w'=w):=mayHaveC h.gro n name hs
  have hl':(40:Int)<(value.size:Int):=by omega
  by_cases he:haveErr g.N g.kk n name=0
  ·have HR:Hid (setErr g.N g.kk n name value=3):=by show setErr g.N g.kk n name value=3;unfold setErr;rw [if_neg (by simp [he]),if_pos (by omega)]
   rw [he] at HM
   clear h
   go_enter Tryz.func97, Tryz.ntmps97
   go_wp2_with fail
   refine Calls.mono HM.out ?_
   rintro e w ⟨rfl,rfl⟩
   go_wp2_with fail
   go_ret
   exact ⟨ret_int HR.out.symm,by rw [gset_same (by rw [HR.out];decide)];exact Post.refl HH.out⟩
  ·have HR:Hid (setErr g.N g.kk n name value=haveErr g.N g.kk n name):=by show setErr g.N g.kk n name value=_;unfold setErr;rw [if_pos he]
   have HNE:Hid (haveErr g.N g.kk n name≠0):=he
   have he':(haveErr g.N g.kk n name != 0)=true:=by simpa using he
   clear h he
   go_enter Tryz.func97, Tryz.ntmps97
   go_wp2_with fail
   refine Calls.mono HM.out ?_
   rintro e w ⟨rfl,rfl⟩
   clear HM
   generalize haveErr g.N g.kk n name=q at *
   go_wp2_with fail
   go_ret
   exact ⟨ret_int HR.out.symm,by rw [gset_same (by rw [HR.out];exact HNE.out)];exact Post.refl HH.out⟩
theorem unsetX (h:GOK B w g) (n:Int) (name:ByteArray) (hs:name.size≤maxLen) (hcl:g.r.cl≤1000000) :
  Calls Tryz.prog 99 #[.pointer (some ⟨g.gb,0,none⟩),.int .i64 n,.string name] w fun e w'=>e=.returned (.int .i64 (unsetErr g.N g.kk g.A n name))∧Post B w w' g (g.unset n name):=by
 refine (unsetS h.grl n name hs h.cl0 hcl).mono ?_
 rintro e w' ⟨rfl,hG,hF⟩
 refine ⟨rfl,h.attd hG hF ?_⟩
 unfold unsetR
 split
 ·exact cnt_keeps _ _
 ·exact ⟨rfl,rfl,rfl,rfl,Int.le_refl _⟩
end
end Go.Proofs.YtcedebpoihcbdaaGreatDoor
