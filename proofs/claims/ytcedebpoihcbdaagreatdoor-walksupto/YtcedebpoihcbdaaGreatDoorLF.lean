/-
  Set and Unset: an element's attributes change, and the count of the classes' changes with them.
  The grove's Set and Unset.
-/
import Derived.Test.YtcedebpoihcbdaaGreatDoorLE
set_option maxHeartbeats 400000
set_option maxRecDepth 100000
namespace Go.Proofs.YtcedebpoihcbdaaGreatDoor
open Go.RowKit Go.Shelf Gv
def Re.cnt (r:Re) (name:ByteArray):Re:=if (name.toList == [99,108,97,115,115])=true then { r with cl:=r.cl+1 } else r
theorem Re.cnt_lv (r:Re) (name:ByteArray):(r.cnt name).lv=r.lv:=by unfold Re.cnt;split <;> rfl
theorem Re.cnt_iv (r:Re) (name:ByteArray):(r.cnt name).iv=r.iv:=by unfold Re.cnt;split <;> rfl
theorem Re.cnt_pl (r:Re) (name:ByteArray):(r.cnt name).pl=r.pl:=by unfold Re.cnt;split <;> rfl
theorem toList_inj {a b:ByteArray} (h:a.toList=b.toList):a=b:=by
 rw [Lib.toList_data,Lib.toList_data] at h
 cases a;cases b
 simp only [ByteArray.mk.injEq]
 exact Array.toList_inj.1 h
theorem class_list:strClass.toList=[99,108,97,115,115]:=by rw [Lib.toList_data];rfl
theorem not_class {name:ByteArray} (h:(name.toList == [99,108,97,115,115])=false):name≠strClass:=by
 rintro rfl
 rw [class_list] at h
 exact absurd h (by decide)
section
variable {B:Nat} {w w':World} {gb nb cap N:Nat} {kk:Nat→Nat} {tg:Nat→ByteArray} {kd:Nat→Value} {mp:Nat→Nat} {σ:St} {r:Re} {A A':Nat→ByteArray→Option ByteArray} {ls:List Ls} {s:Fo} {L:Nat}
theorem Held.countC (h:Held w B gb nb cap L s kd r):Held (w.setCell ⟨gb,2,none⟩ (.int .i64 (r.cl+1))) B gb nb cap L s kd { r with cl:=r.cl+1 }∧Fr (fun i=>i=gb) w (w.setCell ⟨gb,2,none⟩ (.int .i64 (r.cl+1))):=by
 refine ⟨⟨cells_setCell h.g,?_,h.hB,h.hL⟩,(Fr.refl (fun i=>i=gb) w).setCell (p:=⟨gb,2,none⟩) rfl _⟩
 exact ownsRow_setCell_other h.row (by simp [Value.ownBlock];exact fun e=>h.ne e.symm) _
theorem countCC (h:Held w B gb nb cap L s kd r) (name:ByteArray) (h0:0≤r.cl) (h1:r.cl≤1000000) :
  Calls Tryz.prog 178 #[.pointer (some ⟨gb,0,none⟩),.string name] w fun e w'=>e=.returned (.tuple #[])∧Held w' B gb nb cap L s kd (r.cnt name)∧Fr (fun i=>i=gb) w w':=by
 have HH:Hid _:=h
 have g2:=h.gcl
 have f2:=h.gfree 2
 clear h
 by_cases hc:(name.toList == [99,108,97,115,115])=true
 ·have HR:Hid (r.cnt name={ r with cl:=r.cl+1 }):=by show r.cnt name=_;unfold Re.cnt;rw [if_pos hc]
  have hw:IntKind.i64.wrap (r.cl+1)=r.cl+1:=IntWalk.i64_in _ (by omega)
  go_enter Tryz.func178, Tryz.ntmps178
  go_wp2_with fail
  go_end0
  rw [HR.out]
  exact ⟨rfl,HH.out.countC.1,HH.out.countC.2⟩
 ·have hc':(name.toList == [99,108,97,115,115])=false:=by simpa using hc
  have HR:Hid (r.cnt name=r):=by show r.cnt name=_;unfold Re.cnt;rw [if_neg hc]
  clear hc
  go_enter Tryz.func178, Tryz.ntmps178
  go_wp2_with fail
  go_end0
  rw [HR.out]
  exact ⟨rfl,HH.out,Fr.refl _ _⟩
theorem hasCls_congr {a b:ByteArray→Option ByteArray} (h:a strClass=b strClass) (c:ByteArray):hasCls a c=hasCls b c:=by unfold hasCls;rw [h]
theorem lookF_congr {K:Nat→List Nat} {root how:Nat} {what:ByteArray} (h:how≠2∨∀ n,A' n strClass=A n strClass):lookF N kk tg A' K root how what=lookF N kk tg A K root how what:=by
 have e:wantsF kk tg A' how what=wantsF kk tg A how what:=by
  funext n
  unfold wantsF
  rcases h with h | h
  ·simp only [if_neg h]
  ·rw [hasCls_congr (h n)]
 unfold lookF
 rw [e]
theorem Ls.OK.att {x:Ls} {name:ByteArray} (h:x.OK N kk tg A σ.K r) (hA:(name.toList == [99,108,97,115,115])=false→∀ n,A' n strClass=A n strClass):x.OK N kk tg A' σ.K (r.cnt name):=by
 obtain ⟨a1,a2,a3,a4,a5⟩:=h
 cases hc:(name.toList == [99,108,97,115,115]) with
 | true =>
  have e:r.cnt name={ r with cl:=r.cl+1 }:=by unfold Re.cnt;rw [if_pos hc]
  rw [e]
  refine ⟨a1,a2,a3,fun h2=>?_,fun e1 e2=>?_⟩
  ·show x.cl≤r.cl+1
   have:=a4 h2
   omega
  ·by_cases h2:x.how=2
   ·have h3:=a4 h2
    unfold nowCl at e2
    rw [if_pos h2] at e2
    have e3:x.cl=r.cl+1:=e2
    omega
   ·rw [lookF_congr (.inl h2)]
    refine a5 e1 ?_
    unfold nowCl at e2 ⊢
    rw [if_neg h2] at e2 ⊢
    exact e2
 | false =>
  have e:r.cnt name=r:=by unfold Re.cnt;rw [if_neg (by rw [hc];decide)]
  rw [e]
  exact ⟨a1,a2,a3,a4,fun e1 e2=>by rw [lookF_congr (.inr (hA hc))];exact a5 e1 e2⟩
def upA (A:Nat→ByteArray→Option ByteArray) (n:Nat) (f:ByteArray→Option ByteArray):Nat→ByteArray→Option ByteArray:=fun i=>if i=n then f else A i
theorem Grl.turned {n:Nat} {f:ByteArray→Option ByteArray} (h:Grl B w gb nb cap N kk tg kd mp σ r A ls) (h1:1≤n) (hn:n≤N) (h2:kk n=2) (hF:Fr (fun i=>i=mp n) w w') (hm:Att w' (mp n) f) (hs:∀ k v,f k=some v→v.size≤40) :
  Gro B w' gb nb cap N kk tg kd mp σ r∧Ats w' B N kk mp (upA A n f)∧Lss w' B r.lv ls:=by
 obtain ⟨es,c,hes,_⟩:=h.ats.at_ n h1 hn h2
 obtain ⟨cur,hnb,_⟩:=h.gro.held.block
 have ncell:∀ i cs t fr,i=mp n→w.heap[i]?≠some (.cells cs t fr):=by
  rintro i cs t fr rfl e
  rw [hes] at e;cases e
 refine ⟨⟨h.gro.held.fr hF (fun e=>ncell _ _ _ _ e h.gro.held.g) (fun e=>ncell _ _ _ _ e hnb),h.gro.wf,h.gro.kinds,h.gro.its.fr hF (fun g hg e=>?_),h.gro.sound,fun k k1 k2 k3=>(h.gro.els k k1 k2 k3).fr hF (fun i cs fr hi e=>ncell _ _ _ _ hi e)⟩,⟨fun i i1 i2 i3=>?_,fun i k v hv=>?_,h.ats.low,h.ats.inj⟩,h.lss.fr hF (fun i cs t fr hi e=>absurd e (ncell _ _ _ _ hi))⟩
 ·rcases row_form h.gro.its.row with ⟨e',_⟩ | ⟨g',c',e',_,_,⟨cur,hc⟩,_⟩
  ·rw [e'] at hg;simp [Value.ownBlock] at hg
  ·rw [e'] at hg
   simp only [Value.ownBlock,Option.some.injEq] at hg
   subst hg
   exact ncell _ _ _ _ e hc
 ·unfold upA
  split
  ·rename_i e;subst e;exact hm
  ·rename_i e
   have ha:=h.ats.at_ i i1 i2 i3
   exact ha.same (hF.block _ ha.lt (fun e'=>e (h.ats.inj i n i1 i2 h1 hn i3 h2 e')))
 ·unfold upA at hv
  split at hv
  ·exact hs k v hv
  ·exact h.ats.short i k v hv
theorem Grl.counted {w1 w2:World} {name:ByteArray} (h:Grl B w gb nb cap N kk tg kd mp σ r A ls) (hG:Gro B w1 gb nb cap N kk tg kd mp σ r) (hA:Ats w1 B N kk mp A') (hL:Lss w1 B r.lv ls) (h1:Held w2 B gb nb cap (N+1) σ.s kd (r.cnt name)) (hF:Fr (fun i=>i=gb) w1 w2) (hcl:(name.toList == [99,108,97,115,115])=false→∀ n,A' n strClass=A n strClass) :
  Grl B w2 gb nb cap N kk tg kd mp σ (r.cnt name) A' ls:=by
 have hgt:∀ i cs t fr,i=gb→w1.heap[i]?=some (.cells cs t fr)→t=72:=by
  rintro i cs t fr rfl e
  rw [hG.held.g] at e
  simp only [Option.some.injEq,Obj.cells.injEq] at e
  exact e.2.1.symm
 refine ⟨⟨h1,hG.wf,hG.kinds,?_,hG.sound,fun k k1 k2 k3=>(hG.els k k1 k2 k3).fr hF (fun i cs fr hi e=>absurd (hgt _ _ _ _ hi e) (by decide))⟩,hA.fr hF (fun i es c hi e=>?_),?_,fun x hx=>(h.ok x hx).att hcl⟩
 ·rw [Re.cnt_iv]
  exact hG.its.fr hF (fun g hg e=>row_apart hG.its.row hG.held.g (by decide) (e ▸ hg))
 ·subst hi;rw [hG.held.g] at e;cases e
 ·rw [Re.cnt_lv]
  exact hL.fr hF (fun i cs t fr hi e=>by rw [hgt _ _ _ _ hi e];decide)
theorem Grl.elem (h:Grl B w gb nb cap N kk tg kd mp σ r A ls) {n eb:Nat} (h1:1≤n) (hn:n≤N) (h2:kk n=2) (hk:kd n=.iface 143 (.pointer (some ⟨eb,0,none⟩))):w.heap[eb]?=some (.cells #[.string (tg n),.map (some (mp n))] 189 (0,0)):=by
 obtain ⟨eb',e1,e2,-⟩:=h.gro.els n h1 hn h2
 rw [hk] at e1
 simp only [Value.iface.injEq,Value.pointer.injEq,Option.some.injEq,Addr.mk.injEq,and_true,true_and] at e1
 rw [e1]
 exact e2
theorem setF (h:Grl B w gb nb cap N kk tg kd mp σ r A ls) (n:Nat) (h1:1≤n) (hn:n≤N) (h2:kk n=2) (name value:ByteArray) (hv:value.size≤40) (h0:0≤r.cl) (h01:r.cl≤1000000) :
  Calls Tryz.prog 147 #[.pointer (some ⟨gb,0,none⟩),.int .i64 n,.string name,.string value] w fun e w'=>e=.returned (.tuple #[])∧Grl B w' gb nb cap N kk tg kd mp σ (r.cnt name) (upA A n (setAtt (A n) name value)) ls∧Fr (fun i=>i=gb∨i=mp n) w w':=by
 have HE:Hid _:=elementF h.gro.held n hn (h.gro.kinds n h1 hn)
 have HH:Hid _:=h
 clear h
 go_enter Tryz.func147, Tryz.ntmps147
 go_wp2_with fail
 refine Calls.mono HE.out ?_
 rintro e w1 ⟨rfl,⟨hk,eb,hkd,rfl⟩ | ⟨hk,rfl⟩⟩
 ·have hel:=HH.out.elem h1 hn h2 hkd
  have c1:w1.cell? ⟨eb,1,none⟩=some (.map (some (mp n))):=cells_of hel 1
  obtain ⟨w2,hup,hat,hfr⟩:=(HH.out.ats.at_ n h1 hn h2).update (P:=Tryz.prog) (mty:=187) Tryz.underlying187 Tryz.underlying9 name value
  obtain ⟨G2,A2,L2⟩:=HH.out.turned h1 hn h2 hfr hat (fun k v hkv=>by
   unfold setAtt at hkv
   split at hkv
   ·cases hkv;exact hv
   ·exact HH.out.ats.short n k v hkv)
  have HG2:Hid _:=G2
  have HA2:Hid _:=A2
  have HL2:Hid _:=L2
  have HF2:Hid _:=hfr
  clear hkd hel hat hfr G2 A2 L2 HE
  go_wp2_with fail
  refine (countCC HG2.out.held name h0 h01).mono ?_
  rintro e w3 ⟨rfl,hH3,hF3⟩
  have HH3:Hid _:=hH3
  have HF3:Hid _:=hF3
  clear hH3 hF3
  go_wp2_with fail
  go_end0
  refine ⟨rfl,HH.out.counted HG2.out HA2.out HL2.out HH3.out HF3.out (fun hc m=>?_),(HF2.out.mono (fun i hi=>.inr hi)).trans (HF3.out.mono (fun i hi=>.inl hi))⟩
  have:=not_class hc
  unfold upA
  split
  ·rename_i e
   show (if strClass=name then some value else A n strClass)=A m strClass
   rw [if_neg (fun e'=>this e'.symm),e]
  ·rfl
 ·exact absurd h2 hk
theorem unsetF (h:Grl B w gb nb cap N kk tg kd mp σ r A ls) (n:Nat) (h1:1≤n) (hn:n≤N) (h2:kk n=2) (name:ByteArray) (h0:0≤r.cl) (h01:r.cl≤1000000) :
  Calls Tryz.prog 152 #[.pointer (some ⟨gb,0,none⟩),.int .i64 n,.string name] w fun e w'=>e=.returned (.tuple #[])∧Grl B w' gb nb cap N kk tg kd mp σ (r.cnt name) (upA A n (unsetAtt (A n) name)) ls∧Fr (fun i=>i=gb∨i=mp n) w w':=by
 have HE:Hid _:=elementF h.gro.held n hn (h.gro.kinds n h1 hn)
 have HH:Hid _:=h
 clear h
 go_enter Tryz.func152, Tryz.ntmps152
 go_wp2_with fail
 refine Calls.mono HE.out ?_
 rintro e w1 ⟨rfl,⟨hk,eb,hkd,rfl⟩ | ⟨hk,rfl⟩⟩
 ·have hel:=HH.out.elem h1 hn h2 hkd
  have c1:w1.cell? ⟨eb,1,none⟩=some (.map (some (mp n))):=cells_of hel 1
  obtain ⟨w2,hup,hat,hfr⟩:=(HH.out.ats.at_ n h1 hn h2).delete (P:=Tryz.prog) (mty:=187) Tryz.underlying187 Tryz.underlying9 name 0 9
  obtain ⟨G2,A2,L2⟩:=HH.out.turned h1 hn h2 hfr hat (fun k v hkv=>by
   unfold unsetAtt at hkv
   split at hkv
   ·cases hkv
   ·exact HH.out.ats.short n k v hkv)
  have HG2:Hid _:=G2
  have HA2:Hid _:=A2
  have HL2:Hid _:=L2
  have HF2:Hid _:=hfr
  clear hkd hel hat hfr G2 A2 L2 HE
  go_wp2_with fail
  refine (countCC HG2.out.held name h0 h01).mono ?_
  rintro e w3 ⟨rfl,hH3,hF3⟩
  have HH3:Hid _:=hH3
  have HF3:Hid _:=hF3
  clear hH3 hF3
  go_wp2_with fail
  go_end0
  refine ⟨rfl,HH.out.counted HG2.out HA2.out HL2.out HH3.out HF3.out (fun hc m=>?_),(HF2.out.mono (fun i hi=>.inr hi)).trans (HF3.out.mono (fun i hi=>.inl hi))⟩
  have:=not_class hc
  unfold upA
  split
  ·rename_i e
   show (if strClass=name then none else A n strClass)=A m strClass
   rw [if_neg (fun e'=>this e'.symm),e]
  ·rfl
 ·exact absurd h2 hk
end
open Go.RowKit Go.Shelf Gv
def haveErr (N:Nat) (kk:Nat→Nat) (n:Int) (name:ByteArray):Int:=if hasB (N+1) n=false then 5 else if kk n.toNat≠2 then 1 else if nameB name.data.toList=false then 2 else 0
section
variable {B:Nat} {w w':World} {gb nb cap N:Nat} {kk:Nat→Nat} {tg:Nat→ByteArray} {kd:Nat→Value} {mp:Nat→Nat} {σ:St} {r:Re} {A A':Nat→ByteArray→Option ByteArray} {ls:List Ls}
theorem mayHaveC (h:Gro B w gb nb cap N kk tg kd mp σ r) (n:Int) (name:ByteArray) (hs:name.size≤maxLen) :
  Calls Tryz.prog 146 #[.pointer (some ⟨gb,0,none⟩),.int .i64 n,.string name] w fun e w'=>e=.returned (.int .i64 (haveErr N kk n name))∧w'=w:=by
 have HH:Hid _:=h
 clear h
 cases hb:hasB (N+1) n with
 | false =>
  have HR:Hid (haveErr N kk n name=5):=by show haveErr N kk n name=5;unfold haveErr;rw [if_pos hb]
  go_enter Tryz.func146, Tryz.ntmps146
  go_wp2_with fail
  refine (hasF HH.out.held n).mono ?_
  rintro e w ⟨rfl,rfl⟩
  rw [hb]
  go_wp2_with fail
  go_ret
  exact ⟨ret_int (by rw [HR.out]),rfl⟩
 | true =>
  obtain ⟨m,rfl,h1,hm⟩:=has_nat hb
  by_cases h2:kk m=2
  ·cases hn:nameB name.data.toList with
   | false =>
    have HR:Hid (haveErr N kk m name=2):=by show haveErr N kk m name=2;unfold haveErr;rw [if_neg (by rw [hb];decide),if_neg (by simp [h2]),if_pos hn]
    go_enter Tryz.func146, Tryz.ntmps146
    go_wp2_with fail
    refine (hasF HH.out.held m).mono ?_
    rintro e w ⟨rfl,rfl⟩
    rw [hb]
    go_wp2_with fail
    refine Calls.mono (elementF HH.out.held m hm (HH.out.kinds m h1 hm)) ?_
    rintro e w1 ⟨rfl,⟨hk,eb,hkd,rfl⟩ | ⟨hk,rfl⟩⟩
    ·go_wp2_with fail
     refine (isName name _ hs).mono ?_
     rintro e w1 ⟨rfl,rfl⟩
     rw [hn]
     go_wp2_with fail
     go_ret
     exact ⟨ret_int (by rw [HR.out]),rfl⟩
    ·exact absurd h2 hk
   | true =>
    have HR:Hid (haveErr N kk m name=0):=by show haveErr N kk m name=0;unfold haveErr;rw [if_neg (by rw [hb];decide),if_neg (by simp [h2]),if_neg (by rw [hn];decide)]
    go_enter Tryz.func146, Tryz.ntmps146
    go_wp2_with fail
    refine (hasF HH.out.held m).mono ?_
    rintro e w ⟨rfl,rfl⟩
    rw [hb]
    go_wp2_with fail
    refine Calls.mono (elementF HH.out.held m hm (HH.out.kinds m h1 hm)) ?_
    rintro e w1 ⟨rfl,⟨hk,eb,hkd,rfl⟩ | ⟨hk,rfl⟩⟩
    ·go_wp2_with fail
     refine (isName name _ hs).mono ?_
     rintro e w1 ⟨rfl,rfl⟩
     rw [hn]
     go_wp2_with fail
     go_ret
     exact ⟨ret_int (by rw [HR.out]),rfl⟩
    ·exact absurd h2 hk
  ·have HR:Hid (haveErr N kk m name=1):=by show haveErr N kk m name=1;unfold haveErr;rw [if_neg (by rw [hb];decide),if_pos (by simpa using h2)]
   go_enter Tryz.func146, Tryz.ntmps146
   go_wp2_with fail
   refine (hasF HH.out.held m).mono ?_
   rintro e w ⟨rfl,rfl⟩
   rw [hb]
   go_wp2_with fail
   refine Calls.mono (elementF HH.out.held m hm (HH.out.kinds m h1 hm)) ?_
   rintro e w1 ⟨rfl,⟨hk,eb,hkd,rfl⟩ | ⟨hk,rfl⟩⟩
   ·exact absurd hk h2
   ·go_wp2_with fail
    go_ret
    exact ⟨ret_int (by rw [HR.out]),rfl⟩
theorem have_zero {n:Int} {name:ByteArray} (h:haveErr N kk n name=0):∃ m:Nat,n=m∧1≤m∧m≤N∧kk m=2∧nameB name.data.toList=true:=by
 unfold haveErr at h
 split at h
 ·omega
 ·rename_i hb
  obtain ⟨m,rfl,h1,hm⟩:=has_nat (by simpa using hb)
  split at h
  ·omega
  ·rename_i h2
   split at h
   ·omega
   ·rename_i h3
    exact ⟨m,rfl,h1,hm,by simpa using h2,by simpa using h3⟩
def setErr (N:Nat) (kk:Nat→Nat) (n:Int) (name value:ByteArray):Int:=if haveErr N kk n name≠0 then haveErr N kk n name else if 40<value.size then 3 else 0
def setA (N:Nat) (kk:Nat→Nat) (A:Nat→ByteArray→Option ByteArray) (n:Int) (name value:ByteArray):Nat→ByteArray→Option ByteArray:=if setErr N kk n name value=0 then upA A n.toNat (setAtt (A n.toNat) name value) else A
def setR (N:Nat) (kk:Nat→Nat) (r:Re) (n:Int) (name value:ByteArray):Re:=if setErr N kk n name value=0 then r.cnt name else r
theorem setS (h:Grl B w gb nb cap N kk tg kd mp σ r A ls) (n:Int) (name value:ByteArray) (hs:name.size≤maxLen) (hv:value.size≤1000000) (h0:0≤r.cl) (h01:r.cl≤1000000) :
  Calls Tryz.prog 97 #[.pointer (some ⟨gb,0,none⟩),.int .i64 n,.string name,.string value] w fun e w'=>e=.returned (.int .i64 (setErr N kk n name value))∧Grl B w' gb nb cap N kk tg kd mp σ (setR N kk r n name value) (setA N kk A n name value) ls∧Fr (fun i=>i=gb∨∃ m,1≤m∧m≤N∧kk m=2∧i=mp m) w w':=by
 have HH:Hid _:=h
 have HM:Hid _:=mayHaveC h.gro n name hs
 clear h
 by_cases he:haveErr N kk n name=0
 ·obtain ⟨m,rfl,h1,hm,h2,h3⟩:=have_zero he
  by_cases hl:40<value.size
  ·have HR:Hid (setErr N kk m name value=3):=by show setErr N kk m name value=3;unfold setErr;rw [if_neg (by simp [he]),if_pos hl]
   rw [he] at HM
   clear h3
   go_enter Tryz.func97, Tryz.ntmps97
   go_wp2_with fail
   refine Calls.mono HM.out ?_
   rintro e w ⟨rfl,rfl⟩
   go_wp2_with fail
   go_ret
   refine ⟨ret_int (by rw [HR.out]),?_,Fr.refl _ _⟩
   unfold setR setA
   rw [HR.out,if_neg (by decide),if_neg (by decide)]
   exact HH.out
  ·have HR:Hid (setErr N kk m name value=0):=by show setErr N kk m name value=0;unfold setErr;rw [if_neg (by simp [he]),if_neg hl]
   rw [he] at HM
   have hl':¬ (40:Int)<((value.size:Nat):Int):=by omega
   clear h3
   go_enter Tryz.func97, Tryz.ntmps97
   go_wp2_with fail
   refine Calls.mono HM.out ?_
   rintro e w ⟨rfl,rfl⟩
   go_wp2_with fail
   refine (setF HH.out m h1 hm h2 name value (by omega) h0 h01).mono ?_
   rintro e w1 ⟨rfl,hG,hF⟩
   have HG:Hid _:=hG
   have HF:Hid _:=hF
   clear hG hF
   go_wp2_with fail
   go_ret
   refine ⟨ret_int (by rw [HR.out]),?_,HF.out.mono (fun i hi=>hi.imp id (fun e=>⟨m,h1,hm,h2,e⟩))⟩
   unfold setR setA
   rw [HR.out,if_pos rfl,if_pos rfl]
   exact HG.out
 ·have HR:Hid (setErr N kk n name value=haveErr N kk n name):=by show setErr N kk n name value=_;unfold setErr;rw [if_pos he]
  have HE:Hid (haveErr N kk n name≠0):=he
  have hne:(haveErr N kk n name != 0)=true:=by simpa using he
  clear he
  generalize haveErr N kk n name=q at *
  go_enter Tryz.func97, Tryz.ntmps97
  go_wp2_with fail
  refine Calls.mono HM.out ?_
  rintro e w ⟨rfl,rfl⟩
  go_wp2_with fail
  go_ret
  refine ⟨ret_int (by rw [HR.out]),?_,Fr.refl _ _⟩
  unfold setR setA
  rw [HR.out,if_neg HE.out,if_neg HE.out]
  exact HH.out
theorem hasAtt (eb mb:Nat) (t:ByteArray) (A:ByteArray→Option ByteArray) (k:ByteArray) (w:World) (he:w.heap[eb]?=some (.cells #[.string t,.map (some mb)] 189 (0,0))) (hA:Att w mb A) :
  Calls Tryz.prog 151 #[.pointer (some ⟨eb,0,none⟩),.string k] w fun e w'=>e=.returned (.bool (A k).isSome)∧Below w.heap.size w w':=by
 have hcell:w.cell? ⟨eb,1,none⟩=some (.map (some mb)):=cells_of he 1
 have hlk:=(hA.lookup (P:=Tryz.prog) (mty:=187) Tryz.underlying187 Tryz.underlying9 Tryz.zeroValue193 k).2
 clear hA he
 generalize (A k).isSome=q at *
 generalize (A k).getD ByteArray.empty=v at *
 go_enter Tryz.func151, Tryz.ntmps151
 go_wp2_with fail
 go_ret
 exact ⟨rfl,(Below.refl _ _).alloc (Nat.le_refl _) _⟩
def unsetErr (N:Nat) (kk:Nat→Nat) (A:Nat→ByteArray→Option ByteArray) (n:Int) (name:ByteArray):Int:=if haveErr N kk n name≠0 then haveErr N kk n name else if (A n.toNat name).isSome=false then 9 else 0
def unsetA (N:Nat) (kk:Nat→Nat) (A:Nat→ByteArray→Option ByteArray) (n:Int) (name:ByteArray):Nat→ByteArray→Option ByteArray:=if unsetErr N kk A n name=0 then upA A n.toNat (unsetAtt (A n.toNat) name) else A
def unsetR (N:Nat) (kk:Nat→Nat) (A:Nat→ByteArray→Option ByteArray) (r:Re) (n:Int) (name:ByteArray):Re:=if unsetErr N kk A n name=0 then r.cnt name else r
theorem unsetS (h:Grl B w gb nb cap N kk tg kd mp σ r A ls) (n:Int) (name:ByteArray) (hs:name.size≤maxLen) (h0:0≤r.cl) (h01:r.cl≤1000000) :
  Calls Tryz.prog 99 #[.pointer (some ⟨gb,0,none⟩),.int .i64 n,.string name] w fun e w'=>e=.returned (.int .i64 (unsetErr N kk A n name))∧Grl B w' gb nb cap N kk tg kd mp σ (unsetR N kk A r n name) (unsetA N kk A n name) ls∧Fr (fun i=>i=gb∨∃ m,1≤m∧m≤N∧kk m=2∧i=mp m) w w':=by
 have HH:Hid _:=h
 have HM:Hid _:=mayHaveC h.gro n name hs
 clear h
 by_cases he:haveErr N kk n name=0
 ·obtain ⟨m,rfl,h1,hm,h2,h3⟩:=have_zero he
  rw [he] at HM
  clear h3
  go_enter Tryz.func99, Tryz.ntmps99
  go_wp2_with fail
  refine Calls.mono HM.out ?_
  rintro e w ⟨rfl,rfl⟩
  go_wp2_with fail
  refine Calls.mono (elementF HH.out.gro.held m hm (HH.out.gro.kinds m h1 hm)) ?_
  rintro e w1 ⟨rfl,⟨hk,eb,hkd,rfl⟩ | ⟨hk,rfl⟩⟩
  ·have HA:Hid _:=hasAtt eb (mp m) (tg m) (A m) name w1 (HH.out.elem h1 hm h2 hkd) (HH.out.ats.at_ m h1 hm h2)
   clear hkd hk
   cases hq:(A m name).isSome with
   | false =>
    have HR:Hid (unsetErr N kk A m name=9):=by show unsetErr N kk A m name=9;unfold unsetErr;rw [if_neg (by simp [he]),if_pos (by exact hq)]
    rw [hq] at HA
    clear he
    go_wp2_with fail
    refine Calls.mono HA.out ?_
    rintro e w2 ⟨rfl,hB⟩
    have HB:Hid _:=hB
    clear hB
    go_wp2_with fail
    go_ret
    refine ⟨ret_int (by rw [HR.out]),?_,Fr.of_below HB.out⟩
    unfold unsetR unsetA
    rw [HR.out,if_neg (by decide),if_neg (by decide)]
    exact HH.out.since HB.out
   | true =>
    have HR:Hid (unsetErr N kk A m name=0):=by show unsetErr N kk A m name=0;unfold unsetErr;rw [if_neg (by simp [he]),if_neg (by intro e';rw [show (A (m:Int).toNat name).isSome=true from hq] at e';cases e')]
    rw [hq] at HA
    clear he
    go_wp2_with fail
    refine Calls.mono HA.out ?_
    rintro e w2 ⟨rfl,hB⟩
    have HB:Hid _:=hB
    clear hB
    go_wp2_with fail
    refine (unsetF (HH.out.since HB.out) m h1 hm h2 name h0 h01).mono ?_
    rintro e w3 ⟨rfl,hG,hF⟩
    have HG:Hid _:=hG
    have HF:Hid _:=hF
    clear hG hF
    go_wp2_with fail
    go_ret
    refine ⟨ret_int (by rw [HR.out]),?_,(Fr.of_below HB.out).trans (HF.out.mono (fun i hi=>hi.imp id (fun e=>⟨m,h1,hm,h2,e⟩)))⟩
    unfold unsetR unsetA
    rw [HR.out,if_pos rfl,if_pos rfl]
    exact HG.out
  ·exact absurd h2 hk
 ·have HR:Hid (unsetErr N kk A n name=haveErr N kk n name):=by show unsetErr N kk A n name=_;unfold unsetErr;rw [if_pos he]
  have HE:Hid (haveErr N kk n name≠0):=he
  have hne:(haveErr N kk n name != 0)=true:=by simpa using he
  clear he
  generalize haveErr N kk n name=q at *
  go_enter Tryz.func99, Tryz.ntmps99
  go_wp2_with fail
  refine Calls.mono HM.out ?_
  rintro e w ⟨rfl,rfl⟩
  go_wp2_with fail
  go_ret
  refine ⟨ret_int (by rw [HR.out]),?_,Fr.refl _ _⟩
  unfold unsetR unsetA
  rw [HR.out,if_neg HE.out,if_neg HE.out]
  exact HH.out
end
end Go.Proofs.YtcedebpoihcbdaaGreatDoor
