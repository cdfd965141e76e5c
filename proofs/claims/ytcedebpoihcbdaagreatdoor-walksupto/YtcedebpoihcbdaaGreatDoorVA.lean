/-
  What a walker's filter says of a node, whatever its rules; the ways beside and down; the moves ToParent and On.
  What a walker's moves On, ToFirst, ToLast find, whatever its filter.
  What a walker's moves ToNext, ToPrevious and Back find, whatever its filter.
-/
import Derived.Test.YtcedebpoihcbdaaGreatDoorY3
set_option maxHeartbeats 4000000
set_option maxRecDepth 100000
namespace Go.Proofs.YtcedebpoihcbdaaGreatDoor
open Go.RowKit Gv
structure Wc (w:World) (wb o root:Nat) (see:Int) (rv:Value) (here:Nat):Prop where
 c0:w.cell? ⟨wb,o,none⟩=some (.int .i64 root)
 c1:w.cell? ⟨wb,o+1,none⟩=some (.int .i64 see)
 c2:w.cell? ⟨wb,o+1+1,none⟩=some rv
 c3:w.cell? ⟨wb,o+3,none⟩=some (.int .i64 here)
 lt:wb<w.heap.size
theorem Wc.since {w w':World} {wb o root here:Nat} {see:Int} {rv:Value} (h:Wc w wb o root see rv here) (hb:Below w.heap.size w w'):Wc w' wb o root see rv here :=
 ⟨(hb.cell (p:=⟨wb,o,none⟩) h.lt).trans h.c0,(hb.cell (p:=⟨wb,o+1,none⟩) h.lt).trans h.c1,(hb.cell (p:=⟨wb,o+1+1,none⟩) h.lt).trans h.c2,(hb.cell (p:=⟨wb,o+3,none⟩) h.lt).trans h.c3,Nat.lt_of_lt_of_le h.lt hb.size⟩
def verd (kk:Nat→Nat) (tg:Nat→ByteArray) (see:Int) (rules:List Rule) (n:Nat):Int:=saysF see rules (kk n) (tg n)
theorem Held.drewN' {w:World} {B gb nb cap L:Nat} {s:Fo} {kd:Nat→Value} {r:Re} (h:Held w B gb nb cap L s kd r) (n:Nat):Held (w.drewN n) B gb nb cap L s kd r:=h.drews (w.drewN n) rfl
structure Wx (B:Nat) (w:World) (gb nb cap N:Nat) (kk:Nat→Nat) (tg:Nat→ByteArray) (kd:Nat→Value) (mp:Nat→Nat) (σ:St) (r:Re) (wb o root:Nat) (see:Int) (rv:Value) (rules:List Rule) (here:Nat):Prop where
 gro:Gro B w gb nb cap N kk tg kd mp σ r
 wc:Wc w wb o root see rv here
 rls:Rls w B rv rules
 lo:Lo N σ.s
 h1:1≤here
 hN:here≤N
 r1:1≤root
 rN:root≤N
section
variable {B:Nat} {w w':World} {gb nb cap N:Nat} {kk:Nat→Nat} {tg:Nat→ByteArray} {kd:Nat→Value} {mp:Nat→Nat} {σ:St} {r:Re} {wb o root here:Nat} {see:Int} {rv:Value} {rules:List Rule}
theorem Wx.since (h:Wx B w gb nb cap N kk tg kd mp σ r wb o root see rv rules here) (hb:Below w.heap.size w w'):Wx B w' gb nb cap N kk tg kd mp σ r wb o root see rv rules here :=
 ⟨h.gro.since hb,h.wc.since hb,h.rls.since hb,h.lo,h.h1,h.hN,h.r1,h.rN⟩
theorem xSays (h:Wx B w gb nb cap N kk tg kd mp σ r wb o root see rv rules here) (n:Nat) (h1:1≤n) (hn:n≤N) :
  Calls Tryz.prog 172 #[.pointer (some ⟨wb,o,none⟩),.pointer (some ⟨gb,0,none⟩),.int .i64 n] w fun e w'=>e=.returned (.int .i64 (verd kk tg see rules n))∧Below w.heap.size w w':=by
 have HG:Hid (Gro B w gb nb cap N kk tg kd mp σ r):=h.gro
 have hN3:=h.gro.N1
 have hKV:=h.gro.kinds n h1 hn
 obtain ⟨ty,vx,hkd⟩:=hKV.form
 have HKD:Hid (kd n=.iface ty vx):=hkd
 have HKV:Hid (KV (kk n) (.iface ty vx)):=by have:=hKV;rw [hkd] at this;exact this
 have HEl:Hid (kk n=2→∃ mb,El w B (.iface ty vx) (tg n) mb):=fun h2=>⟨mp n,by have:=h.gro.els n h1 hn h2;rw [hkd] at this;exact this⟩
 have c1:=h.wc.c1
 have C2:Hid (w.cell? ⟨wb,o+1+1,none⟩=some rv):=h.wc.c2
 have HR:Hid (Rls w B rv rules):=h.rls
 clear h hKV hkd
 go_enter Tryz.func172, Tryz.ntmps172
 go_wp2_with fail
 go_region_with (first
  | (go_at_call 71;refine (kindF HG.out.held.drew n (by omega) HKD.out).mono ?_;rintro e w2 ⟨rfl,rfl⟩)
  | (go_at_call 83;refine (saysC HKV.out (w:=w.drew) (B:=B) (rv:=rv) (rules:=rules) (t:=tg n) wb (o+1) see c1 C2.out ⟨ownsRow_same HR.out.row (fun _ _=>rfl),HR.out.few⟩ (fun h2=>(HEl.out h2).imp fun mb he=>he.drews w.drew rfl)).mono ?_;rintro e w3 ⟨rfl,hb3⟩))
 all_goals
  have HB3:Hid (Below w.heap.size w w3):=⟨hb3.os,hb3.tape,hb3.output,hb3.size,hb3.block⟩
  clear hb3
  go_wp2_with fail
  go_ret
  exact ⟨rfl,HB3.out⟩
theorem xAcc (h:Wx B w gb nb cap N kk tg kd mp σ r wb o root see rv rules here) (n:Nat) (h1:1≤n) (hn:n≤N) :
  Calls Tryz.prog 168 #[.pointer (some ⟨wb,o,none⟩),.pointer (some ⟨gb,0,none⟩),.int .i64 n] w fun e w'=>e=.returned (.bool (verd kk tg see rules n == 1))∧Below w.heap.size w w':=by
 have HX:Hid (Wx B w gb nb cap N kk tg kd mp σ r wb o root see rv rules here):=h
 clear h
 go_enter Tryz.func168, Tryz.ntmps168
 go_wp2_with fail
 refine (xSays HX.out n h1 hn).mono ?_
 rintro e w1 ⟨rfl,hb⟩
 have HB:Hid (Below w.heap.size w w1):=hb
 clear hb
 go_wp2_with fail
 go_ret
 exact ⟨rfl,HB.out⟩
theorem outerX (h:Held w B gb nb cap (N+1) σ.s kd r) (n:Nat) (hn:n≤N) (back:Bool) :
  Calls Tryz.prog 186 #[.pointer (some ⟨gb,0,none⟩),.int .i64 n,.bool back] w fun e w'=>e=.returned (.int .i64 (kidD σ.s n back:Nat))∧w'=w:=by
 have HH:Hid (Held w B gb nb cap (N+1) σ.s kd r):=h
 clear h
 cases back with
 | true =>
  go_enter Tryz.func186, Tryz.ntmps186
  go_wp2_with fail
  refine (lastF HH.out n (by omega)).mono ?_
  rintro e w ⟨rfl,rfl⟩
  go_wp2_with fail
  go_ret
  exact ⟨rfl,rfl⟩
 | false =>
  go_enter Tryz.func186, Tryz.ntmps186
  go_wp2_with fail
  refine (firstF HH.out n (by omega)).mono ?_
  rintro e w ⟨rfl,rfl⟩
  go_wp2_with fail
  go_ret
  exact ⟨rfl,rfl⟩
theorem siblingX (h:Held w B gb nb cap (N+1) σ.s kd r) (n:Nat) (hn:n≤N) (back:Bool) :
  Calls Tryz.prog 189 #[.pointer (some ⟨gb,0,none⟩),.int .i64 n,.bool back] w fun e w'=>e=.returned (.int .i64 (besD σ.s n back:Nat))∧w'=w:=by
 have HH:Hid (Held w B gb nb cap (N+1) σ.s kd r):=h
 clear h
 cases back with
 | true =>
  go_enter Tryz.func189, Tryz.ntmps189
  go_wp2_with fail
  refine (aheadF HH.out n (by omega)).mono ?_
  rintro e w ⟨rfl,rfl⟩
  go_wp2_with fail
  go_ret
  exact ⟨rfl,rfl⟩
 | false =>
  go_enter Tryz.func189, Tryz.ntmps189
  go_wp2_with fail
  refine (behindF HH.out n (by omega)).mono ?_
  rintro e w ⟨rfl,rfl⟩
  go_wp2_with fail
  go_ret
  exact ⟨rfl,rfl⟩
def instF (s:Fo) (v:Int) (n:Nat) (back:Bool):Nat:=if v=3∧kidD s n back≠0 then kidD s n back else besD s n back
theorem insteadX (h:Held w B gb nb cap (N+1) σ.s kd r) (n:Nat) (hn:n≤N) (v:Int) (back:Bool) :
  Calls Tryz.prog 187 #[.pointer (some ⟨gb,0,none⟩),.int .i64 n,.int .i64 v,.bool back] w fun e w'=>e=.returned (.int .i64 (instF σ.s v n back:Nat))∧w'=w:=by
 have HH:Hid (Held w B gb nb cap (N+1) σ.s kd r):=h
 clear h
 obtain ⟨k,hke⟩:∃ k,kidD σ.s n back=k:=⟨_,rfl⟩
 have HK:Hid (kidD σ.s n back=k):=hke
 clear hke
 by_cases hk:k=0
 ·subst hk
  have HI:Hid (instF σ.s v n back=besD σ.s n back):=by show instF σ.s v n back=_;unfold instF;rw [HK.out];simp
  go_enter Tryz.func187, Tryz.ntmps187
  go_wp2_with fail
  refine (outerX HH.out n hn back).mono ?_
  rintro e w ⟨rfl,rfl⟩
  rw [HK.out]
  go_wp2_with fail
  refine (siblingX HH.out n hn back).mono ?_
  rintro e w ⟨rfl,rfl⟩
  go_wp2_with fail
  go_ret
  exact ⟨ret_int (by rw [HI.out]),rfl⟩
 ·have hk':((k:Int) != 0)=true:=by simp;omega
  by_cases hv:v=3
  ·subst hv
   have HI:Hid (instF σ.s 3 n back=k):=by show instF σ.s 3 n back=_;unfold instF;rw [HK.out,if_pos ⟨rfl,hk⟩]
   clear hk
   go_enter Tryz.func187, Tryz.ntmps187
   go_wp2_with fail
   refine (outerX HH.out n hn back).mono ?_
   rintro e w ⟨rfl,rfl⟩
   rw [HK.out]
   go_wp2_with fail
   go_ret
   exact ⟨ret_int (by rw [HI.out]),rfl⟩
  ·have hv':(v == 3)=false:=by simpa using hv
   have HI:Hid (instF σ.s v n back=besD σ.s n back):=by show instF σ.s v n back=_;unfold instF;rw [if_neg (fun h=>hv h.1)]
   clear hk hv
   go_enter Tryz.func187, Tryz.ntmps187
   go_wp2_with fail
   refine (outerX HH.out n hn back).mono ?_
   rintro e w ⟨rfl,rfl⟩
   rw [HK.out]
   go_wp2_with fail
   refine (siblingX HH.out n hn back).mono ?_
   rintro e w ⟨rfl,rfl⟩
   go_wp2_with fail
   go_ret
   exact ⟨ret_int (by rw [HI.out]),rfl⟩
def Found (w:World) (N:Nat) (R:Nat→Prop) (e:Ending) (w':World):Prop:=∃ a:Nat,e=.returned (.int .i64 a)∧a≤N∧R a∧Below w.heap.size w w'
theorem xParent (h:Wx B w gb nb cap N kk tg kd mp σ r wb o root see rv rules here) :
  Calls Tryz.prog 130 #[.pointer (some ⟨wb,o,none⟩),.pointer (some ⟨gb,0,none⟩)] w (Found w N (EvUp σ.s (verd kk tg see rules) root here)):=by
 have HX:Hid (Wx B w gb nb cap N kk tg kd mp σ r wb o root see rv rules here):=h
 have c0:=h.wc.c0
 have c3:=h.wc.c3
 have hN:=h.hN
 have h1:=h.h1
 clear h
 go_enter Tryz.func130, Tryz.ntmps130
 go_wp2_with fail
 go_loopg [5] (dep σ.s N here) (fun m n wr=>∃ x:Nat,n=.int .i64 x∧1≤x∧x≤N∧m=dep σ.s N x∧Hid (∀ a,EvUp σ.s (verd kk tg see rules) root x a→EvUp σ.s (verd kk tg see rules) root here a)∧Hid (Below w.heap.size w wr))
 case atStart=>exact ⟨here,rfl,h1,hN,rfl,fun a ha=>ha,Below.refl _ _⟩
 case round =>
  obtain ⟨x,rfl,hx1,hxN,hm,HE,HB⟩:=hrel
  have HX1:Hid (Wx B wr gb nb cap N kk tg kd mp σ r wb o root see rv rules here):=HX.out.since HB.out
  have d0:wr.cell? ⟨wb,o,none⟩=some (.int .i64 root):=HX1.out.wc.c0
  by_cases er:x=root
  ·subst er
   go_wp2_with fail
   go_ret
   exact ⟨0,rfl,Nat.zero_le _,HE.out 0 (.top rfl),HB.out⟩
  ·have er':((x:Int) != (root:Int))=true:=by simp;omega
   have HER:Hid (x≠root):=er
   have hpN:=HX.out.gro.wf.parLe x hxN
   have hdp:=dep_par HX.out.gro.wf hx1 hxN
   clear er
   go_wp2_with fail
   refine (parentF HX1.out.gro.held x (by omega)).mono ?_
   rintro e wr ⟨rfl,rfl⟩
   obtain ⟨p,hpe⟩:∃ p,σ.s.par x=p:=⟨_,rfl⟩
   have HP:Hid (σ.s.par x=p):=hpe
   rw [hpe] at hpN hdp ⊢
   clear hpe
   by_cases hp0:p=0
   ·subst hp0
    go_wp2_with fail
    go_ret
    exact ⟨0,rfl,Nat.zero_le _,HE.out 0 (.none HER.out HP.out),HB.out⟩
   ·have hp0':((p:Int) == 0)=false:=by simp;omega
    have hp1:1≤p:=by omega
    have HP0:Hid (p≠0):=hp0
    clear hp0
    go_wp2_with fail
    refine (xAcc HX1.out p hp1 hpN).mono ?_
    rintro e w2 ⟨rfl,hb2⟩
    have HB2:Hid (Below w.heap.size w w2):=HB.out.trans (hb2.mono HB.out.size)
    clear hb2
    cases hv:(verd kk tg see rules p == 1) with
    | true =>
     have HV:Hid (verd kk tg see rules p=1):=(by simpa using hv:verd kk tg see rules p=1)
     clear hv
     go_wp2_with fail
     go_ret
     exact ⟨p,rfl,hpN,HE.out p (by have:=EvUp.hit (s:=σ.s) (v:=verd kk tg see rules) (root:=root) (n:=x) HER.out (by rw [HP.out];exact HP0.out) (by rw [HP.out];exact HV.out);rw [HP.out] at this;exact this),HB2.out⟩
    | false =>
     have HV:Hid (verd kk tg see rules p≠1):=(by simpa using hv:verd kk tg see rules p≠1)
     clear hv
     go_wp2_with fail
     go_roundg (dep σ.s N p)
     case measure=>omega
     case rel=>exact ⟨p,rfl,hp1,hpN,rfl,fun a ha=>HE.out a (.go HER.out (by rw [HP.out];exact HP0.out) (by rw [HP.out];exact HV.out) (by rw [HP.out];exact ha)),HB2.out⟩
end
open Go.RowKit Gv
section
variable {B:Nat} {w w':World} {gb nb cap N:Nat} {kk:Nat→Nat} {tg:Nat→ByteArray} {kd:Nat→Value} {mp:Nat→Nat} {σ:St} {r:Re} {wb o root here:Nat} {see:Int} {rv:Value} {rules:List Rule}
theorem past_ok {s:Fo} {K:Nat→List Nat} (h:WF N s K) (hlo:Lo N s) {n t:Nat} (hn:n≤N):pastF s (N+1) n t≤N:=by
 by_cases e:pastF s (N+1) n t=0
 ·omega
 ·exact (past_fact h hlo (N+1) n t hn e).2.1
def look (N:Nat) (s:Fo) (K:Nat→List Nat) (back:Bool) (x:Nat):Nat:=if x=0 then 0 else sz N K x+lies N s K back x
theorem look_past {s:Fo} {K:Nat→List Nat} (h:WF N s K) (hlo:Lo N s) {n t:Nat} (h1:1≤n) (hn:n≤N):look N s K false (pastF s (N+1) n t)<look N s K false n:=by
 have hp:=sz_pos (N:=N) (K:=K) n
 unfold look
 rw [if_neg (show n≠0 by omega)]
 by_cases e:pastF s (N+1) n t=0
 ·rw [if_pos e];omega
 ·rw [if_neg e]
  have:=(past_fact h hlo (N+1) n t hn e).2.2
  omega
theorem look_next {s:Fo} {K:Nat→List Nat} (h:WF N s K) (hlo:Lo N s) {n t:Nat} (h1:1≤n) (hn:n≤N):look N s K false (nextF s (N+1) n t)<look N s K false n∧nextF s (N+1) n t≤N:=by
 unfold nextF
 by_cases e:s.fst n=0
 ·rw [if_pos e]
  exact ⟨look_past h hlo h1 hn,past_ok h hlo hn⟩
 ·rw [if_neg e]
  have hk:kidD s n false=s.fst n:=by simp [kidD]
  have:=kid_fact h h1 hn false (by rw [hk];exact e)
  rw [hk] at this
  refine ⟨?_,(h.kid _ _ this.1).2.2.2.1⟩
  unfold look
  rw [if_neg e,if_neg (show n≠0 by omega)]
  omega
theorem xOn (h:Wx B w gb nb cap N kk tg kd mp σ r wb o root see rv rules here) :
  Calls Tryz.prog 136 #[.pointer (some ⟨wb,o,none⟩),.pointer (some ⟨gb,0,none⟩)] w (Found w N (EvOn σ.s (verd kk tg see rules) root N (nextF σ.s (N+1) here root))):=by
 have HX:Hid (Wx B w gb nb cap N kk tg kd mp σ r wb o root see rv rules here):=h
 have c0:=h.wc.c0
 have c3:=h.wc.c3
 have hN:=h.hN
 have h1:=h.h1
 have hrN:=h.rN
 have hnx:=(look_next h.gro.wf h.lo (t:=root) h1 hN).2
 clear h
 go_enter Tryz.func136, Tryz.ntmps136
 go_wp2_with fail
 go_quiet ((go_at_call 127;exact Calls.quiet_of_same (nextC (HX.out.gro.held.drewN' _) HX.out.gro.wf here root hN hrN)))
 go_wp2_with fail
 go_loopg [5] (look N σ.s σ.K false (nextF σ.s (N+1) here root)) (fun m n wr=>∃ x:Nat,n=.int .i64 x∧x≤N∧m=look N σ.s σ.K false x∧Hid (∀ a,EvOn σ.s (verd kk tg see rules) root N x a→EvOn σ.s (verd kk tg see rules) root N (nextF σ.s (N+1) here root) a)∧Hid (Below w.heap.size w wr))
 case atStart=>exact ⟨_,rfl,hnx,rfl,fun a ha=>ha,⟨rfl,rfl,rfl,Nat.le_refl _,fun _ _=>rfl⟩⟩
 case round =>
  obtain ⟨x,rfl,hxN,hm,HE,HB⟩:=hrel
  have HX1:Hid (Wx B wr gb nb cap N kk tg kd mp σ r wb o root see rv rules here):=HX.out.since HB.out
  by_cases hx0:x=0
  ·subst hx0
   go_wp2_with fail
   go_ret
   exact ⟨0,rfl,Nat.zero_le _,HE.out 0 (.none rfl),HB.out⟩
  ·have hx0':((x:Int) != 0)=true:=by simp;omega
   have hx1:1≤x:=by omega
   have HX0:Hid (x≠0):=hx0
   clear hx0
   go_wp2_with fail
   refine (xSays HX1.out x hx1 hxN).mono ?_
   rintro e w1 ⟨rfl,hb⟩
   have HB1:Hid (Below w.heap.size w w1):=HB.out.trans (hb.mono HB.out.size)
   have HX2:Hid (Wx B w1 gb nb cap N kk tg kd mp σ r wb o root see rv rules here):=HX.out.since HB1.out
   have d0:w1.cell? ⟨wb,o,none⟩=some (.int .i64 root):=HX2.out.wc.c0
   clear hb
   obtain ⟨v,hve⟩:∃ v,verd kk tg see rules x=v:=⟨_,rfl⟩
   have HV:Hid (verd kk tg see rules x=v):=hve
   rw [hve]
   clear hve
   by_cases v1:v=1
   ·subst v1
    go_wp2_with fail
    go_ret
    exact ⟨x,rfl,hxN,HE.out x (.hit HX0.out HV.out),HB1.out⟩
   ·have v1':(v == 1)=false:=by simpa using v1
    have HV1:Hid (v≠1):=v1
    clear v1
    by_cases v2:v=2
    ·subst v2
     have hlk:=look_past HX.out.gro.wf HX.out.lo (t:=root) hx1 hxN
     have hok:=past_ok HX.out.gro.wf HX.out.lo (t:=root) hxN
     go_wp2_with fail
     refine (pastC HX2.out.gro.held HX2.out.gro.wf x root hxN hrN).mono ?_
     rintro e w1 ⟨rfl,rfl⟩
     go_wp2_with fail
     go_roundg (look N σ.s σ.K false (pastF σ.s (N+1) x root))
     case measure=>omega
     case rel=>exact ⟨_,rfl,hok,rfl,fun a ha=>HE.out a (.past HX0.out HV.out ha),HB1.out⟩
    ·have v2':(v == 2)=false:=by simpa using v2
     have HV2:Hid (v≠2):=v2
     have hlk:=look_next HX.out.gro.wf HX.out.lo (t:=root) hx1 hxN
     clear v2
     go_wp2_with fail
     refine (nextC HX2.out.gro.held HX2.out.gro.wf x root hxN hrN).mono ?_
     rintro e w1 ⟨rfl,rfl⟩
     go_wp2_with fail
     go_roundg (look N σ.s σ.K false (nextF σ.s (N+1) x root))
     case measure=>omega
     case rel=>exact ⟨_,rfl,hlk.2,rfl,fun a ha=>HE.out a (.next HX0.out (by rw [HV.out];exact HV1.out) (by rw [HV.out];exact HV2.out) ha),HB1.out⟩
theorem desc_step' {f:Nat→Nat} {x t:Nat} (h:x≠t):Desc f x t↔Desc f (f x) t:=desc_step h
theorem EvPast.fact {s:Fo} {K:Nat→List Nat} {back:Bool} (h:WF N s K) (hlo:Lo N s) {n x:Nat} (h1:1≤n) (hn:n≤N) (hd:Desc s.par n here) (hne:n≠here) (hx:EvPast s root here back n x) :
  x≤N∧look N s K back x<look N s K back n∧(x≠0→Desc s.par x here∧x≠here):=by
 suffices hs:x≤N∧look N s K back x≤lies N s K back n∧(x≠0→Desc s.par x here∧x≠here) by
  have:=sz_pos (N:=N) (K:=K) n
  refine ⟨hs.1,?_,hs.2.2⟩
  have e:look N s K back n=sz N K n+lies N s K back n:=by unfold look;rw [if_neg (by omega)]
  omega
 revert h1 hn hd hne
 refine hx (fun n=>1≤n→n≤N→Desc s.par n here→n≠here→x≤N∧look N s K back x≤lies N s K back n∧(x≠0→Desc s.par x here∧x≠here)) (fun n hd0 h1 hn hd hne=>?_) (fun n m hst ih h1 hn hd hne=>?_)
 ·rcases hd0 with ⟨hb,rfl⟩ | ⟨_,_,rfl⟩
  rotate_left
  ·exact ⟨Nat.zero_le _,by simp [look],fun e=>absurd rfl e⟩
  have hp:s.par n≠0:=by
   intro e
   have:=hlo n h1 hn e
   apply hb
   unfold besD
   split
   ·exact this.1
   ·exact this.2
  have hf:=bes_fact h h1 hn hp back hb
  have hk:=h.kid _ _ hf.1
  refine ⟨hk.2.2.2.1,?_,fun _=>?_⟩
  ·unfold look;rw [if_neg hb];omega
  ·have hdp:Desc s.par (s.par n) here:=(desc_step' hne).1 hd
   refine ⟨?_,fun e=>?_⟩
   ·have:Desc s.par (s.par (besD s n back)) here:=by rw [hk.2.2.2.2];exact hdp
    exact this.head
   ·obtain ⟨m,hm⟩:=hdp
    have hpb:s.par here=s.par n:=by rw [← e];exact hk.2.2.2.2
    have:anc s.par (m+1) (s.par n)=s.par n:=by rw [anc_succ',hm,hpb]
    exact no_loop h.z hp (h.acy _ (h.parLe n hn)) m this
 ·obtain ⟨hb,hp,rfl⟩:=hst
  have hp0:s.par n≠0:=fun e=>hp (.inl e)
  have hph:s.par n≠here:=fun e=>hp (.inr (.inr e))
  have:=ih (by omega) (h.parLe n hn) ((desc_step' hne).1 hd) hph
  rw [bes_none h h1 hn hp0 back hb] at this
  exact this
theorem beyondX (h:Wx B w gb nb cap N kk tg kd mp σ r wb o root see rv rules here) (n:Nat) (hn:n≤N) (hd:Desc σ.s.par n here) (hne:n≠here) (back:Bool) (hb0:besD σ.s n back=0) :
  Calls Tryz.prog 188 #[.pointer (some ⟨wb,o,none⟩),.pointer (some ⟨gb,0,none⟩),.int .i64 n,.bool back] w fun e w'=>∃ x:Nat,e=.returned (.int .i64 x)∧EvPast σ.s root here back n x∧Below w.heap.size w w':=by
 have HX:Hid (Wx B w gb nb cap N kk tg kd mp σ r wb o root see rv rules here):=h
 have c0:=h.wc.c0
 have c3:=h.wc.c3
 have hN:=h.hN
 have hh1:=h.h1
 have hpn:σ.s.par n≠0:=par_of_under h.gro.wf.z hd hh1 hne
 have HD:Hid (Desc σ.s.par (σ.s.par n) here):=(desc_step hne).1 hd
 have hpN:=h.gro.wf.parLe n hn
 have HB0:Hid (besD σ.s n back=0):=hb0
 clear h hd hne hb0
 go_enter Tryz.func188, Tryz.ntmps188
 go_wp2_with fail
 refine (parentF HX.out.gro.held n (by omega)).mono ?_
 rintro e w ⟨rfl,rfl⟩
 go_wp2_with fail
 go_loopg [2] (dep σ.s N (σ.s.par n)) (fun m i wr=>∃ x y:Nat,i=.int .i64 x∧1≤x∧x≤N∧m=dep σ.s N x∧Hid (Desc σ.s.par x here)∧Hid (σ.s.par y=x∧besD σ.s y back=0∧∀ a,EvPast σ.s root here back y a→EvPast σ.s root here back n a)∧wr=w)
 case atStart=>exact ⟨_,n,rfl,by omega,hpN,rfl,HD.out,⟨rfl,HB0.out,fun a ha=>ha⟩,rfl⟩
 case round =>
  obtain ⟨x,y,rfl,hx1,hxN,hm,HDx,HE,rfl⟩:=hrel
  obtain ⟨w,rfl⟩:∃ w:World,w=wr:=⟨_,rfl⟩
  by_cases er:x=root
  ·subst er
   go_wp2_with fail
   go_ret
   exact ⟨0,rfl,HE.out.2.2 0 (.top HE.out.2.1 (.inr (.inl HE.out.1))),Below.refl _ _⟩
  ·have er':((x:Int) != (root:Int))=true:=by simp;omega
   by_cases eh:x=here
   ·subst eh
    clear er
    go_wp2_with fail
    go_ret
    exact ⟨0,rfl,HE.out.2.2 0 (.top HE.out.2.1 (.inr (.inr HE.out.1))),Below.refl _ _⟩
   ·have eh':((x:Int) != (here:Int))=true:=by simp;omega
    have hxp:σ.s.par x≠0:=par_of_under HX.out.gro.wf.z HDx.out hh1 eh
    have HDp:Hid (Desc σ.s.par (σ.s.par x) here):=(desc_step eh).1 HDx.out
    have HU:Hid (∀ a,EvPast σ.s root here back x a→EvPast σ.s root here back n a):=fun a ha=>HE.out.2.2 a (.up HE.out.2.1 (by rw [HE.out.1];omega) (by rw [HE.out.1];exact ha))
    have hxpN:=HX.out.gro.wf.parLe x hxN
    have hdp:=dep_par HX.out.gro.wf hx1 hxN
    clear er eh
    go_wp2_with fail
    refine (siblingX HX.out.gro.held x hxN back).mono ?_
    rintro e w ⟨rfl,rfl⟩
    obtain ⟨b,hbe⟩:∃ b,besD σ.s x back=b:=⟨_,rfl⟩
    have HBE:Hid (besD σ.s x back=b):=hbe
    rw [hbe]
    clear hbe
    by_cases hb0:b=0
    ·subst hb0
     go_wp2_with fail
     refine (parentF HX.out.gro.held x (by omega)).mono ?_
     rintro e w ⟨rfl,rfl⟩
     go_wp2_with fail
     go_roundg (dep σ.s N (σ.s.par x))
     case measure=>omega
     case rel=>exact ⟨σ.s.par x,x,rfl,by omega,hxpN,rfl,HDp.out,⟨rfl,HBE.out,HU.out⟩,rfl⟩
    ·have hb0':((b:Int) != 0)=true:=by simp;omega
     have HB1:Hid (b≠0):=hb0
     clear hb0
     go_wp2_with fail
     go_ret
     exact ⟨b,rfl,HU.out b (by have:=EvPast.bes (s:=σ.s) (root:=root) (here:=here) (back:=back) (n:=x) (by rw [HBE.out];exact HB1.out);rw [HBE.out] at this;exact this),Below.refl _ _⟩
theorem xKid (h:Wx B w gb nb cap N kk tg kd mp σ r wb o root see rv rules here) (back:Bool) :
  Calls Tryz.prog 169 #[.pointer (some ⟨wb,o,none⟩),.pointer (some ⟨gb,0,none⟩),.bool back] w (Found w N (EvKid σ.s (verd kk tg see rules) root here back (kidD σ.s here back))):=by
 have HX:Hid (Wx B w gb nb cap N kk tg kd mp σ r wb o root see rv rules here):=h
 have c3:=h.wc.c3
 have hN:=h.hN
 have h1:=h.h1
 have HK0:Hid (kidD σ.s here back≤N∧(kidD σ.s here back≠0→Desc σ.s.par (kidD σ.s here back) here∧kidD σ.s here back≠here)):=by
  by_cases e:kidD σ.s here back=0
  ·exact ⟨by omega,fun e'=>absurd e e'⟩
  ·have hk:=h.gro.wf.kid _ _ (kid_fact h.gro.wf h1 hN back e).1
   refine ⟨hk.2.2.2.1,fun _=>⟨⟨1,hk.2.2.2.2⟩,fun e'=>?_⟩⟩
   have:=h.gro.wf.par_ne (c:=here) (by omega) hN
   rw [e'] at hk
   exact this hk.2.2.2.2
 clear h
 go_enter Tryz.func169, Tryz.ntmps169
 go_wp2_with fail
 refine (outerX HX.out.gro.held here hN back).mono ?_
 rintro e w ⟨rfl,rfl⟩
 go_wp2_with fail
 go_loopg [7] (look N σ.s σ.K back (kidD σ.s here back)) (fun m n wr=>∃ x:Nat,n=.int .i64 x∧x≤N∧m=look N σ.s σ.K back x∧Hid (x≠0→Desc σ.s.par x here∧x≠here)∧Hid (∀ a,EvKid σ.s (verd kk tg see rules) root here back x a→EvKid σ.s (verd kk tg see rules) root here back (kidD σ.s here back) a)∧Hid (Below w.heap.size w wr))
 case atStart=>exact ⟨_,rfl,HK0.out.1,rfl,HK0.out.2,fun a ha=>ha,Below.refl _ _⟩
 case round =>
  obtain ⟨x,rfl,hxN,hm,HDx,HE,HB⟩:=hrel
  have HX1:Hid (Wx B wr gb nb cap N kk tg kd mp σ r wb o root see rv rules here):=HX.out.since HB.out
  by_cases hx0:x=0
  ·subst hx0
   go_wp2_with fail
   go_ret
   exact ⟨0,rfl,Nat.zero_le _,HE.out 0 (.none rfl),HB.out⟩
  ·have hx0':((x:Int) != 0)=true:=by simp;omega
   have hx1:1≤x:=by omega
   have HX0:Hid (x≠0):=hx0
   have HD:Hid (Desc σ.s.par x here∧x≠here):=HDx.out hx0
   clear hx0
   go_wp2_with fail
   refine (xSays HX1.out x hx1 hxN).mono ?_
   rintro e w1 ⟨rfl,hb⟩
   have HB1:Hid (Below w.heap.size w w1):=HB.out.trans (hb.mono HB.out.size)
   have HX2:Hid (Wx B w1 gb nb cap N kk tg kd mp σ r wb o root see rv rules here):=HX.out.since HB1.out
   clear hb
   obtain ⟨v,hve⟩:∃ v,verd kk tg see rules x=v:=⟨_,rfl⟩
   have HV:Hid (verd kk tg see rules x=v):=hve
   rw [hve]
   clear hve
   by_cases v1:v=1
   ·subst v1
    go_wp2_with fail
    go_ret
    exact ⟨x,rfl,hxN,HE.out x (.hit HX0.out HV.out),HB1.out⟩
   ·have v1':(v == 1)=false:=by simpa using v1
    have HV1:Hid (v≠1):=v1
    clear v1
    go_wp2_with fail
    refine (insteadX HX2.out.gro.held x hxN v back).mono ?_
    rintro e w1 ⟨rfl,rfl⟩
    obtain ⟨y,hye⟩:∃ y,instF σ.s v x back=y:=⟨_,rfl⟩
    have HY:Hid (instF σ.s v x back=y):=hye
    rw [hye]
    clear hye
    by_cases hy0:y=0
    ·subst hy0
     have HK:Hid (¬ (v=3∧kidD σ.s x back≠0)∧besD σ.s x back=0):=by
      have e:=HY.out
      unfold instF at e
      by_cases hc:v=3∧kidD σ.s x back≠0
      ·rw [if_pos hc] at e;exact absurd e hc.2
      ·rw [if_neg hc] at e;exact ⟨hc,e⟩
     go_wp2_with fail
     refine (beyondX HX2.out x hxN HD.out.1 HD.out.2 back HK.out.2).mono ?_
     rintro e w2 ⟨z,rfl,hz,hb2⟩
     have HZ:Hid (EvPast σ.s root here back x z):=hz
     have HB2:Hid (Below w.heap.size w w2):=HB1.out.trans (hb2.mono HB1.out.size)
     have hf:=EvPast.fact HX.out.gro.wf HX.out.lo hx1 hxN HD.out.1 HD.out.2 hz
     have HF:Hid (z≠0→Desc σ.s.par z here∧z≠here):=hf.2.2
     have hf1:=hf.1
     have hf2:=hf.2.1
     clear hz hb2 hf
     go_wp2_with fail
     go_roundg (look N σ.s σ.K back z)
     case measure=>omega
     case rel=>exact ⟨z,rfl,hf1,rfl,HF.out,fun a ha=>HE.out a (.past HX0.out (by rw [HV.out];exact HV1.out) (by rw [HV.out];exact HK.out.1) HZ.out ha),HB2.out⟩
    ·have hy0':((y:Int) == 0)=false:=by simp;omega
     have HN:Hid (y≤N∧look N σ.s σ.K back y<look N σ.s σ.K back x∧(Desc σ.s.par y here∧y≠here)∧∀ a,EvKid σ.s (verd kk tg see rules) root here back y a→EvKid σ.s (verd kk tg see rules) root here back x a):=by
      have e:=HY.out
      unfold instF at e
      by_cases hc:v=3∧kidD σ.s x back≠0
      ·rw [if_pos hc] at e
       have hf:=kid_fact HX.out.gro.wf hx1 hxN back hc.2
       rw [e] at hf
       have hk:=HX.out.gro.wf.kid _ _ hf.1
       refine ⟨hk.2.2.2.1,by unfold look;rw [if_neg hy0,if_neg HX0.out];omega,⟨?_,fun e'=>?_⟩,fun a ha=>.kid HX0.out (by rw [HV.out];exact hc.1) hc.2 (by rw [e];exact ha)⟩
       ·have:Desc σ.s.par (σ.s.par y) here:=by rw [hk.2.2.2.2];exact HD.out.1
        exact this.head
       ·subst e'
        obtain ⟨m,hmm⟩:=HD.out.1
        have:anc σ.s.par (m+1) x=x:=by rw [anc_succ',hmm,hk.2.2.2.2]
        exact no_loop HX.out.gro.wf.z HX0.out (HX.out.gro.wf.acy _ hxN) m this
      ·rw [if_neg hc] at e
       have hp:EvPast σ.s root here back x y:=by have:=EvPast.bes (s:=σ.s) (root:=root) (here:=here) (back:=back) (n:=x) (by rw [e];exact hy0);rw [e] at this;exact this
       have hf:=EvPast.fact HX.out.gro.wf HX.out.lo hx1 hxN HD.out.1 HD.out.2 hp
       exact ⟨hf.1,hf.2.1,hf.2.2 hy0,fun a ha=>.past HX0.out (by rw [HV.out];exact HV1.out) (by rw [HV.out];exact hc) hp ha⟩
     have hn2:=HN.out.2.1
     clear hy0
     go_wp2_with fail
     go_roundg (look N σ.s σ.K back y)
     case measure=>omega
     case rel=>exact ⟨y,rfl,HN.out.1,rfl,fun _=>HN.out.2.2.1,fun a ha=>HE.out a (HN.out.2.2.2 a ha),HB1.out⟩
end
open Go.RowKit Gv
section
variable {B:Nat} {w w':World} {gb nb cap N:Nat} {kk:Nat→Nat} {tg:Nat→ByteArray} {kd:Nat→Value} {mp:Nat→Nat} {σ:St} {r:Re} {wb o root here:Nat} {see:Int} {rv:Value} {rules:List Rule}
def done (N:Nat) (s:Fo) (K:Nat→List Nat) (back:Bool) (x:Nat):Nat:=if x=0 then 0 else lies N s K back x*(N+2)+dep s N x
theorem done_up {s:Fo} {K:Nat→List Nat} {back:Bool} (h:WF N s K) {x y:Nat} (hx1:1≤x) (hxN:x≤N) (hy1:1≤y) (hyN:y≤N) (hxy:y=x∨lies N s K back y<lies N s K back x) (hb:besD s y back=0):done N s K back (s.par y)<done N s K back x:=by
 have hdx:=dep_par h hx1 hxN
 have ex:done N s K back x=lies N s K back x*(N+2)+dep s N x:=by unfold done;rw [if_neg (by omega)]
 rw [ex]
 by_cases hp:s.par y=0
 ·unfold done;rw [if_pos hp];omega
 ·have ey:done N s K back (s.par y)=lies N s K back y*(N+2)+dep s N (s.par y):=by unfold done;rw [if_neg hp,bes_none h hy1 hyN hp back hb]
  rw [ey]
  rcases hxy with rfl | hlt
  ·omega
  ·have hd:=dep_le (s:=s) N (s.par y)
   have hm:(lies N s K back y+1)*(N+2)≤lies N s K back x*(N+2):=Nat.mul_le_mul_right _ hlt
   rw [Nat.add_mul] at hm
   omega
theorem bes_ok {s:Fo} {K:Nat→List Nat} (h:WF N s K) (hlo:Lo N s) (back:Bool) {n:Nat} (h1:1≤n) (hn:n≤N):besD s n back≤N∧look N s K back (besD s n back)≤lies N s K back n:=by
 by_cases hb:besD s n back=0
 ·rw [hb];exact ⟨Nat.zero_le _,by simp [look]⟩
 ·have hp:s.par n≠0:=by
   intro e
   have:=hlo n h1 hn e
   apply hb
   unfold besD
   split
   ·exact this.1
   ·exact this.2
  have hf:=bes_fact h h1 hn hp back hb
  have hk:=h.kid _ _ hf.1
  exact ⟨hk.2.2.2.1,by unfold look;rw [if_neg hb];omega⟩
theorem inst_ok {s:Fo} {K:Nat→List Nat} (h:WF N s K) (hlo:Lo N s) (back:Bool) (v:Int) {n:Nat} (h1:1≤n) (hn:n≤N):instF s v n back≤N∧look N s K back (instF s v n back)<look N s K back n∧(instF s v n back=0→besD s n back=0):=by
 have hz:=sz_pos (N:=N) (K:=K) n
 have e:look N s K back n=sz N K n+lies N s K back n:=by unfold look;rw [if_neg (by omega)]
 unfold instF
 by_cases hc:v=3∧kidD s n back≠0
 ·rw [if_pos hc]
  have hf:=kid_fact h h1 hn back hc.2
  have hk:=h.kid _ _ hf.1
  exact ⟨hk.2.2.2.1,by rw [e];unfold look;rw [if_neg hc.2];omega,fun e=>absurd e hc.2⟩
 ·rw [if_neg hc]
  have:=bes_ok h hlo back h1 hn
  exact ⟨this.1,by omega,fun e=>e⟩
def SibGoal (s:Fo) (v:Nat→Int) (root here:Nat) (back:Bool) (a:Nat):Prop:=(here=root∧a=0)∨(here≠root∧EvSib s v root back here (besD s here back) a)
theorem xSib (h:Wx B w gb nb cap N kk tg kd mp σ r wb o root see rv rules here) (back:Bool) :
  Calls Tryz.prog 170 #[.pointer (some ⟨wb,o,none⟩),.pointer (some ⟨gb,0,none⟩),.bool back] w (Found w N (SibGoal σ.s (verd kk tg see rules) root here back)):=by
 have HX:Hid (Wx B w gb nb cap N kk tg kd mp σ r wb o root see rv rules here):=h
 have c0:=h.wc.c0
 have c3:=h.wc.c3
 have hN:=h.hN
 have h1:=h.h1
 clear h
 go_enter Tryz.func170, Tryz.ntmps170
 go_wp2_with fail
 go_loopg [7] (done N σ.s σ.K back here) (fun m n wr=>∃ x:Nat,n=.int .i64 x∧x≤N∧m=done N σ.s σ.K back x∧Hid (x=0∨x=root→SibGoal σ.s (verd kk tg see rules) root here back 0)∧Hid (x≠0→x≠root→∀ a,EvSib σ.s (verd kk tg see rules) root back x (besD σ.s x back) a→SibGoal σ.s (verd kk tg see rules) root here back a)∧Hid (Below w.heap.size w wr))
 case atStart=>exact ⟨here,rfl,hN,rfl,fun e=>.inl ⟨by omega,rfl⟩,fun _ e a ha=>.inr ⟨e,ha⟩,Below.refl _ _⟩
 case round =>
  obtain ⟨x,rfl,hxN,hm,HZ,HE,HB⟩:=hrel
  have HX1:Hid (Wx B wr gb nb cap N kk tg kd mp σ r wb o root see rv rules here):=HX.out.since HB.out
  have d0:wr.cell? ⟨wb,o,none⟩=some (.int .i64 root):=HX1.out.wc.c0
  by_cases hx0:x=0
  ·have HZ0:Hid (SibGoal σ.s (verd kk tg see rules) root here back 0):=HZ.out (.inl hx0)
   subst hx0
   clear HZ HE
   go_wp2_with fail
   go_ret
   exact ⟨0,rfl,Nat.zero_le _,HZ0.out,HB.out⟩
  ·have hx0':((x:Int) != 0)=true:=by simp;omega
   have hx1:1≤x:=by omega
   by_cases er:x=root
   ·have HZ0:Hid (SibGoal σ.s (verd kk tg see rules) root here back 0):=HZ.out (.inr er)
    subst er
    clear hx0 HZ HE
    go_wp2_with fail
    go_ret
    exact ⟨0,rfl,Nat.zero_le _,HZ0.out,HB.out⟩
   ·have er':((x:Int) != (root:Int))=true:=by simp;omega
    have HG:Hid (∀ a,EvSib σ.s (verd kk tg see rules) root back x (besD σ.s x back) a→SibGoal σ.s (verd kk tg see rules) root here back a):=HE.out hx0 er
    have hbx:=bes_ok HX.out.gro.wf HX.out.lo back hx1 hxN
    clear hx0 er HE HZ
    go_wp2_with fail
    refine (siblingX HX1.out.gro.held x hxN back).mono ?_
    rintro e wr ⟨rfl,rfl⟩
    go_wp2_with fail
    go_loopg [7,8] (look N σ.s σ.K back (besD σ.s x back)) (fun m n s2 wr=>∃ y t:Nat,n=.int .i64 y∧s2=.int .i64 t∧1≤y∧y≤N∧t≤N∧m=look N σ.s σ.K back t∧Hid (y=x∨lies N σ.s σ.K back y<lies N σ.s σ.K back x)∧look N σ.s σ.K back t≤lies N σ.s σ.K back x∧Hid (t=0→besD σ.s y back=0)∧Hid (∀ a,EvSib σ.s (verd kk tg see rules) root back y t a→SibGoal σ.s (verd kk tg see rules) root here back a)∧Hid (Below w.heap.size w wr))
    case atStart=>exact ⟨x,_,rfl,rfl,hx1,hxN,hbx.1,rfl,.inl rfl,hbx.2,fun e=>e,HG.out,HB.out⟩
    case round =>
     obtain ⟨y,t,rfl,rfl,hy1,hyN,htN,hm2,HXY,hlk,HT,HGy,HBi⟩:=hrel
     have HX2:Hid (Wx B wr gb nb cap N kk tg kd mp σ r wb o root see rv rules here):=HX.out.since HBi.out
     by_cases ht0:t=0
     ·subst ht0
      have hup:=done_up HX.out.gro.wf hx1 hxN hy1 hyN HXY.out (HT.out rfl)
      have hpN:=HX.out.gro.wf.parLe y hyN
      go_wp2_with fail
      refine (parentF HX2.out.gro.held y (by omega)).mono ?_
      rintro e wr ⟨rfl,rfl⟩
      obtain ⟨p,hpe⟩:∃ p,σ.s.par y=p:=⟨_,rfl⟩
      have HP:Hid (σ.s.par y=p):=hpe
      rw [hpe] at hpN hup ⊢
      clear hpe
      by_cases hp0:p=0
      ·subst hp0
       go_wp2_with fail
       go_roundg (done N σ.s σ.K back 0)
       case measure=>omega
       case rel=>exact ⟨0,rfl,Nat.zero_le _,rfl,fun _=>HGy.out 0 (.stop rfl (.inl HP.out)),fun e=>absurd rfl e,HBi.out⟩
      ·have hp0':((p:Int) != 0)=true:=by simp;omega
       have hp1:1≤p:=by omega
       have HP0:Hid (p≠0):=hp0
       clear hp0
       go_wp2_with fail
       refine (xAcc HX2.out p hp1 hpN).mono ?_
       rintro e w2 ⟨rfl,hb2⟩
       have HB2:Hid (Below w.heap.size w w2):=HBi.out.trans (hb2.mono HBi.out.size)
       clear hb2
       cases hv:(verd kk tg see rules p == 1) with
       | true =>
        have HV:Hid (verd kk tg see rules p=1):=(by simpa using hv:verd kk tg see rules p=1)
        clear hv
        go_wp2_with fail
        go_ret
        exact ⟨0,rfl,Nat.zero_le _,HGy.out 0 (.stop rfl (.inr (.inr (by rw [HP.out];exact HV.out)))),HB2.out⟩
       | false =>
        have HV:Hid (verd kk tg see rules p≠1):=(by simpa using hv:verd kk tg see rules p≠1)
        clear hv
        go_wp2_with fail
        go_roundg (done N σ.s σ.K back p)
        case measure=>omega
        case rel=>exact ⟨p,rfl,hpN,rfl,fun e=>HGy.out 0 (.stop rfl (.inr (.inl (by rw [HP.out];exact e.resolve_left HP0.out)))),fun _ er a ha=>HGy.out a (.up rfl (by rw [HP.out];rintro (e | e | e) <;> first | exact HP0.out e | exact er e | exact HV.out e) (by rw [HP.out];exact ha)),HB2.out⟩
     ·have ht0':((t:Int) != 0)=true:=by simp;omega
      have ht1:1≤t:=by omega
      have HT0:Hid (t≠0):=ht0
      clear ht0
      go_wp2_with fail
      refine (xSays HX2.out t ht1 htN).mono ?_
      rintro e w1 ⟨rfl,hb⟩
      have HB1:Hid (Below w.heap.size w w1):=HBi.out.trans (hb.mono HBi.out.size)
      have HX3:Hid (Wx B w1 gb nb cap N kk tg kd mp σ r wb o root see rv rules here):=HX.out.since HB1.out
      clear hb
      obtain ⟨v,hve⟩:∃ v,verd kk tg see rules t=v:=⟨_,rfl⟩
      have HV:Hid (verd kk tg see rules t=v):=hve
      rw [hve]
      clear hve
      by_cases v1:v=1
      ·subst v1
       go_wp2_with fail
       go_ret
       exact ⟨t,rfl,htN,HGy.out t (.hit HT0.out HV.out),HB1.out⟩
      ·have v1':(v == 1)=false:=by simpa using v1
       have HV1:Hid (v≠1):=v1
       have hin:=inst_ok HX.out.gro.wf HX.out.lo back v ht1 htN
       have hin1:=hin.1
       have hin2:=hin.2.1
       have HIN:Hid (instF σ.s v t back=0→besD σ.s t back=0):=hin.2.2
       have HLT:Hid (lies N σ.s σ.K back t<lies N σ.s σ.K back x):=by
        have e:look N σ.s σ.K back t=sz N σ.K t+lies N σ.s σ.K back t:=by unfold look;rw [if_neg HT0.out]
        have:=sz_pos (N:=N) (K:=σ.K) t
        show _<_
        omega
       have HGt:Hid (∀ a,EvSib σ.s (verd kk tg see rules) root back t (instF σ.s v t back) a→SibGoal σ.s (verd kk tg see rules) root here back a):=by
        intro a ha
        unfold instF at ha
        by_cases hc:v=3∧kidD σ.s t back≠0
        ·rw [if_pos hc] at ha
         exact HGy.out a (.kid HT0.out (by rw [HV.out];exact hc.1) hc.2 ha)
        ·rw [if_neg hc] at ha
         exact HGy.out a (.bes HT0.out (by rw [HV.out];exact v1) (by rw [HV.out];exact hc) ha)
       clear v1 hin
       go_wp2_with fail
       refine (insteadX HX3.out.gro.held t htN v back).mono ?_
       rintro e w1 ⟨rfl,rfl⟩
       go_wp2_with fail
       go_roundg (look N σ.s σ.K back (instF σ.s v t back))
       case measure=>omega
       case rel=>exact ⟨t,_,rfl,rfl,ht1,htN,hin1,rfl,.inr HLT.out,by omega,HIN.out,HGt.out,HB1.out⟩
theorem xInmost (h:Wx B w gb nb cap N kk tg kd mp σ r wb o root see rv rules here) (n:Nat) (h1:1≤n) (hn:n≤N) :
  Calls Tryz.prog 171 #[.pointer (some ⟨wb,o,none⟩),.pointer (some ⟨gb,0,none⟩),.int .i64 n] w fun e w'=>∃ x:Nat,e=.returned (.int .i64 x)∧1≤x∧x≤N∧EvIn σ.s (verd kk tg see rules) n x∧look N σ.s σ.K true x≤look N σ.s σ.K true n∧Below w.heap.size w w':=by
 have HX:Hid (Wx B w gb nb cap N kk tg kd mp σ r wb o root see rv rules here):=h
 have hN3:=h.gro.N1
 clear h
 go_enter Tryz.func171, Tryz.ntmps171
 go_wp2_with fail
 go_loopg [2] (look N σ.s σ.K true n) (fun m i wr=>∃ x:Nat,i=.int .i64 x∧1≤x∧x≤N∧m=look N σ.s σ.K true x∧look N σ.s σ.K true x≤look N σ.s σ.K true n∧Hid (∀ a,EvIn σ.s (verd kk tg see rules) x a→EvIn σ.s (verd kk tg see rules) n a)∧Hid (Below w.heap.size w wr))
 case atStart=>exact ⟨n,rfl,h1,hn,rfl,Nat.le_refl _,fun a ha=>ha,Below.refl _ _⟩
 case round =>
  obtain ⟨x,rfl,hx1,hxN,hm,hle,HE,HB⟩:=hrel
  have HX1:Hid (Wx B wr gb nb cap N kk tg kd mp σ r wb o root see rv rules here):=HX.out.since HB.out
  go_wp2_with fail
  refine (lastF HX1.out.gro.held x (by omega)).mono ?_
  rintro e wr ⟨rfl,rfl⟩
  by_cases hl:σ.s.lst x=0
  ·have hl':(((σ.s.lst x:Nat):Int) != 0)=false:=by simp [hl]
   have HL:Hid (σ.s.lst x=0):=hl
   clear hl
   go_wp2_with fail
   go_ret
   exact ⟨x,rfl,hx1,hxN,HE.out x (.stop (.inl HL.out)),hle,HB.out⟩
  ·have hl':(((σ.s.lst x:Nat):Int) != 0)=true:=by simp;omega
   have HL:Hid (σ.s.lst x≠0):=hl
   have hkd:kidD σ.s x true=σ.s.lst x:=by simp [kidD]
   have hf:=kid_fact HX.out.gro.wf hx1 hxN true (by rw [hkd];exact hl)
   rw [hkd] at hf
   have hk:=HX.out.gro.wf.kid _ _ hf.1
   have hl1:=hk.2.2.1
   have hlN:=hk.2.2.2.1
   have hlk:look N σ.s σ.K true (σ.s.lst x)<look N σ.s σ.K true x:=by unfold look;rw [if_neg hl,if_neg (show x≠0 by omega)];omega
   clear hl hkd hf hk
   go_wp2_with fail
   refine (xSays HX1.out x hx1 hxN).mono ?_
   rintro e w1 ⟨rfl,hb⟩
   have HB1:Hid (Below w.heap.size w w1):=HB.out.trans (hb.mono HB.out.size)
   have HX2:Hid (Wx B w1 gb nb cap N kk tg kd mp σ r wb o root see rv rules here):=HX.out.since HB1.out
   clear hb
   obtain ⟨v,hve⟩:∃ v,verd kk tg see rules x=v:=⟨_,rfl⟩
   have HV:Hid (verd kk tg see rules x=v):=hve
   rw [hve]
   clear hve
   by_cases v2:v=2
   ·subst v2
    go_wp2_with fail
    go_ret
    exact ⟨x,rfl,hx1,hxN,HE.out x (.stop (.inr HV.out)),hle,HB1.out⟩
   ·have v2':(v != 2)=true:=by simpa using v2
    have HV2:Hid (v≠2):=v2
    clear v2
    go_wp2_with fail
    refine (lastF HX2.out.gro.held x (by omega)).mono ?_
    rintro e w1 ⟨rfl,rfl⟩
    go_wp2_with fail
    go_roundg (look N σ.s σ.K true (σ.s.lst x))
    case measure=>omega
    case rel=>exact ⟨_,rfl,hl1,hlN,rfl,by omega,fun a ha=>HE.out a (.go HL.out (by rw [HV.out];exact HV2.out) ha),HB1.out⟩
def BackGoal (s:Fo) (v:Nat→Int) (root here:Nat) (a:Nat):Prop:=(here=root∧a=0)∨(here≠root∧EvBack s v root here a)
theorem xBack (h:Wx B w gb nb cap N kk tg kd mp σ r wb o root see rv rules here) :
  Calls Tryz.prog 135 #[.pointer (some ⟨wb,o,none⟩),.pointer (some ⟨gb,0,none⟩)] w (Found w N (BackGoal σ.s (verd kk tg see rules) root here)):=by
 have HX:Hid (Wx B w gb nb cap N kk tg kd mp σ r wb o root see rv rules here):=h
 have c0:=h.wc.c0
 have c3:=h.wc.c3
 have hN:=h.hN
 have h1:=h.h1
 clear h
 go_enter Tryz.func135, Tryz.ntmps135
 go_wp2_with fail
 go_loopg [5] (done N σ.s σ.K true here) (fun m n wr=>∃ x:Nat,n=.int .i64 x∧1≤x∧x≤N∧m=done N σ.s σ.K true x∧Hid (x=root→BackGoal σ.s (verd kk tg see rules) root here 0)∧Hid (x≠root→∀ a,EvBack σ.s (verd kk tg see rules) root x a→BackGoal σ.s (verd kk tg see rules) root here a)∧Hid (Below w.heap.size w wr))
 case atStart=>exact ⟨here,rfl,h1,hN,rfl,fun e=>.inl ⟨e,rfl⟩,fun e a ha=>.inr ⟨e,ha⟩,Below.refl _ _⟩
 case round =>
  obtain ⟨x,rfl,hx1,hxN,hm,HZ,HE,HB⟩:=hrel
  have HX1:Hid (Wx B wr gb nb cap N kk tg kd mp σ r wb o root see rv rules here):=HX.out.since HB.out
  have d0:wr.cell? ⟨wb,o,none⟩=some (.int .i64 root):=HX1.out.wc.c0
  by_cases er:x=root
  ·have HZ0:Hid (BackGoal σ.s (verd kk tg see rules) root here 0):=HZ.out er
   subst er
   clear HZ HE
   go_wp2_with fail
   go_ret
   exact ⟨0,rfl,Nat.zero_le _,HZ0.out,HB.out⟩
  ·have er':((x:Int) != (root:Int))=true:=by simp;omega
   have HG:Hid (∀ a,EvBack σ.s (verd kk tg see rules) root x a→BackGoal σ.s (verd kk tg see rules) root here a):=HE.out er
   clear er HE HZ
   go_wp2_with fail
   refine (aheadF HX1.out.gro.held x (by omega)).mono ?_
   rintro e wr ⟨rfl,rfl⟩
   go_wp2_with fail
   go_loopg [5,6] (lies N σ.s σ.K true x) (fun m n s2 wr=>∃ y:Nat,n=.int .i64 y∧s2=.int .i64 (σ.s.ahd y)∧1≤y∧y≤N∧m=lies N σ.s σ.K true y∧Hid (y=x∨lies N σ.s σ.K true y<lies N σ.s σ.K true x)∧lies N σ.s σ.K true y≤lies N σ.s σ.K true x∧Hid (∀ a,EvBack σ.s (verd kk tg see rules) root y a→BackGoal σ.s (verd kk tg see rules) root here a)∧Hid (Below w.heap.size w wr))
   case atStart=>exact ⟨x,rfl,rfl,hx1,hxN,rfl,.inl rfl,Nat.le_refl _,HG.out,HB.out⟩
   case round =>
    obtain ⟨y,rfl,rfl,hy1,hyN,hm2,HXY,hly,HGy,HBi⟩:=hrel
    have HX2:Hid (Wx B wr gb nb cap N kk tg kd mp σ r wb o root see rv rules here):=HX.out.since HBi.out
    have d1:wr.cell? ⟨wb,o,none⟩=some (.int .i64 root):=HX2.out.wc.c0
    obtain ⟨t,hte⟩:∃ t,σ.s.ahd y=t:=⟨_,rfl⟩
    have HTE:Hid (σ.s.ahd y=t):=hte
    rw [hte]
    clear hte
    by_cases ht0:t=0
    ·subst ht0
     have hup:=done_up (back:=true) HX.out.gro.wf hx1 hxN hy1 hyN HXY.out (by simp [besD];exact HTE.out)
     have hpN:=HX.out.gro.wf.parLe y hyN
     by_cases ery:y=root
     ·subst ery
      go_wp2_with fail
      go_ret
      exact ⟨0,rfl,Nat.zero_le _,HGy.out 0 (.top HTE.out (.inl rfl)),HBi.out⟩
     ·have ery':((y:Int) == (root:Int))=false:=by simp;omega
      have HER:Hid (y≠root):=ery
      clear ery
      go_wp2_with fail
      refine (parentF HX2.out.gro.held y (by omega)).mono ?_
      rintro e wr ⟨rfl,rfl⟩
      obtain ⟨p,hpe⟩:∃ p,σ.s.par y=p:=⟨_,rfl⟩
      have HP:Hid (σ.s.par y=p):=hpe
      rw [hpe] at hpN hup ⊢
      clear hpe
      by_cases hp0:p=0
      ·subst hp0
       go_wp2_with fail
       go_ret
       exact ⟨0,rfl,Nat.zero_le _,HGy.out 0 (.top HTE.out (.inr HP.out)),HBi.out⟩
      ·have hp0':((p:Int) == 0)=false:=by simp;omega
       have hp1:1≤p:=by omega
       have HP0:Hid (p≠0):=hp0
       clear hp0
       go_wp2_with fail
       refine (xAcc HX2.out p hp1 hpN).mono ?_
       rintro e w2 ⟨rfl,hb2⟩
       have HB2:Hid (Below w.heap.size w w2):=HBi.out.trans (hb2.mono HBi.out.size)
       clear hb2
       cases hv:(verd kk tg see rules p == 1) with
       | true =>
        have HV:Hid (verd kk tg see rules p=1):=(by simpa using hv:verd kk tg see rules p=1)
        clear hv
        go_wp2_with fail
        go_ret
        exact ⟨p,rfl,hpN,HGy.out p (by have:=EvBack.par (s:=σ.s) (v:=verd kk tg see rules) (root:=root) (n:=y) HTE.out HER.out (by rw [HP.out];exact HP0.out) (by rw [HP.out];exact HV.out);rw [HP.out] at this;exact this),HB2.out⟩
       | false =>
        have HV:Hid (verd kk tg see rules p≠1):=(by simpa using hv:verd kk tg see rules p≠1)
        clear hv
        go_wp2_with fail
        go_roundg (done N σ.s σ.K true p)
        case measure=>omega
        case rel=>exact ⟨p,rfl,hp1,hpN,rfl,fun e=>HGy.out 0 (.end_ HTE.out HER.out (by rw [HP.out];exact HP0.out) (by rw [HP.out];exact HV.out) (by rw [HP.out];exact e)),fun e a ha=>HGy.out a (.up HTE.out HER.out (by rw [HP.out];exact HP0.out) (by rw [HP.out];exact HV.out) (by rw [HP.out];exact e) (by rw [HP.out];exact ha)),HB2.out⟩
    ·have ht0':((t:Int) != 0)=true:=by simp;omega
     have ht1:1≤t:=by omega
     have HT0:Hid (t≠0):=ht0
     have hbe:besD σ.s y true=t:=by simp [besD];exact HTE.out
     have hbk:=bes_ok HX.out.gro.wf HX.out.lo true hy1 hyN
     rw [hbe] at hbk
     have htN:=hbk.1
     have htl:=hbk.2
     clear ht0 hbe hbk
     go_wp2_with fail
     refine (xInmost HX2.out t ht1 htN).mono ?_
     rintro e w1 ⟨z,rfl,hz1,hzN,hzE,hzl,hb⟩
     have HB1:Hid (Below w.heap.size w w1):=HBi.out.trans (hb.mono HBi.out.size)
     have HX3:Hid (Wx B w1 gb nb cap N kk tg kd mp σ r wb o root see rv rules here):=HX.out.since HB1.out
     have HZE:Hid (EvIn σ.s (verd kk tg see rules) t z):=hzE
     have hzs:lies N σ.s σ.K true z<lies N σ.s σ.K true y:=by
      have e:look N σ.s σ.K true z=sz N σ.K z+lies N σ.s σ.K true z:=by unfold look;rw [if_neg (by omega)]
      have:=sz_pos (N:=N) (K:=σ.K) z
      omega
     have HLT:Hid (lies N σ.s σ.K true z<lies N σ.s σ.K true x):=by show _<_;omega
     clear hb hzE
     go_wp2_with fail
     refine (xAcc HX3.out z hz1 hzN).mono ?_
     rintro e w2 ⟨rfl,hb2⟩
     have HB2:Hid (Below w.heap.size w w2):=HB1.out.trans (hb2.mono HB1.out.size)
     have HX4:Hid (Wx B w2 gb nb cap N kk tg kd mp σ r wb o root see rv rules here):=HX.out.since HB2.out
     clear hb2
     cases hv:(verd kk tg see rules z == 1) with
     | true =>
      have HV:Hid (verd kk tg see rules z=1):=(by simpa using hv:verd kk tg see rules z=1)
      clear hv
      go_wp2_with fail
      go_ret
      exact ⟨z,rfl,hzN,HGy.out z (.hit (by rw [HTE.out];exact HT0.out) (by rw [HTE.out];exact HZE.out) HV.out),HB2.out⟩
     | false =>
      have HV:Hid (verd kk tg see rules z≠1):=(by simpa using hv:verd kk tg see rules z≠1)
      clear hv
      go_wp2_with fail
      refine (aheadF HX4.out.gro.held z (by omega)).mono ?_
      rintro e w2 ⟨rfl,rfl⟩
      go_wp2_with fail
      go_roundg (lies N σ.s σ.K true z)
      case measure=>omega
      case rel=>exact ⟨z,rfl,rfl,hz1,hzN,rfl,.inr HLT.out,by omega,fun a ha=>HGy.out a (.go (by rw [HTE.out];exact HT0.out) (by rw [HTE.out];exact HZE.out) HV.out ha),HB2.out⟩
end
end Go.Proofs.YtcedebpoihcbdaaGreatDoor
