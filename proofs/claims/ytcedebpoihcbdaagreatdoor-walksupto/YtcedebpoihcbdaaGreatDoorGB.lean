/-
  A grove as one thing: its lists: ById, Watch, Len, Item, Named, whatever is asked.
  A grove as one thing: Len, Item, Named, whatever is asked.
-/
import Derived.Test.YtcedebpoihcbdaaGreatDoorGA
import Derived.Test.YtcedebpoihcbdaaGreatDoorBA
set_option linter.unusedVariables false
set_option maxHeartbeats 2000000
set_option maxRecDepth 100000
namespace Go.Proofs.YtcedebpoihcbdaaGreatDoor
open Go.RowKit Go.Shelf Gv
theorem numNilL (w:World) (ao:Option Addr) (len cap:Nat) (n:Int) (hl:len≤50) (h:n<1∨(len:Int)<n) :
  Calls Tryz.prog 51 #[.slice ao len cap,.int .i64 n] w fun e w'=>e=.returned (.pointer none)∧w'=w:=by
 by_cases h1:n<1
 ·have d:decide (n<1)=true:=by simpa using h1
  go_enter Tryz.func51, Tryz.ntmps51
  go_wp2
  go_ret
  exact ⟨rfl,rfl⟩
 ·have h2:(len:Int)<n:=by omega
  have d:decide (n<1)=false:=by simpa using h1
  go_enter Tryz.func51, Tryz.ntmps51
  go_wp2
  go_ret
  exact ⟨rfl,rfl⟩
theorem numNilI (w:World) (ao:Option Addr) (len cap:Nat) (n:Int) (hl:len≤50) (h:n<1∨(len:Int)<n) :
  Calls Tryz.prog 45 #[.slice ao len cap,.int .i64 n] w fun e w'=>e=.returned (.pointer none)∧w'=w:=by
 by_cases h1:n<1
 ·have d:decide (n<1)=true:=by simpa using h1
  go_enter Tryz.func45, Tryz.ntmps45
  go_wp2
  go_ret
  exact ⟨rfl,rfl⟩
 ·have h2:(len:Int)<n:=by omega
  have d:decide (n<1)=false:=by simpa using h1
  go_enter Tryz.func45, Tryz.ntmps45
  go_wp2
  go_ret
  exact ⟨rfl,rfl⟩
theorem numNilW (w:World) (ao:Option Addr) (len cap:Nat) (n:Int) (hl:len≤50) (h:n<1∨(len:Int)<n) :
  Calls Tryz.prog 47 #[.slice ao len cap,.int .i64 n] w fun e w'=>e=.returned (.pointer none)∧w'=w:=by
 by_cases h1:n<1
 ·have d:decide (n<1)=true:=by simpa using h1
  go_enter Tryz.func47, Tryz.ntmps47
  go_wp2
  go_ret
  exact ⟨rfl,rfl⟩
 ·have h2:(len:Int)<n:=by omega
  have d:decide (n<1)=false:=by simpa using h1
  go_enter Tryz.func47, Tryz.ntmps47
  go_wp2
  go_ret
  exact ⟨rfl,rfl⟩
theorem numAtW (w:World) (ib n icap k:Nat) (hn:n≤50) (h1:1≤k) (hk:k≤n) :
  Calls Tryz.prog 47 #[.slice (some ⟨ib,0,none⟩) n icap,.int .i64 k] w fun e w'=>e=.returned (.pointer (some ⟨ib,(k-1)*4,none⟩))∧w'=w:=by
 obtain ⟨k,rfl⟩:∃ j,k=j+1:=⟨k-1,by omega⟩
 go_enter Tryz.func47, Tryz.ntmps47
 go_wp2
 go_ret
 exact ⟨by simp,rfl⟩
theorem row_any {w:World} {base:Nat} {e:TypeId} {size:Nat} {v:Value} {n:Nat} {xs:List Value} (h:w.ownsRow base e size v n xs):∃ ao c,v=.slice ao n c:=by
 rcases row_form h with ⟨rfl,rfl⟩ | ⟨g,c,rfl,_⟩
 ·exact ⟨none,0,rfl⟩
 ·exact ⟨_,c,rfl⟩
theorem thing_cases (n:Int) (len:Nat):(n<1∨(len:Int)<n)∨∃ i,i<len∧n=((i+1:Nat):Int):=by
 by_cases h:n<1∨(len:Int)<n
 ·exact .inl h
 ·right
  obtain ⟨m,rfl⟩:=Int.eq_ofNat_of_zero_le (show 0≤n by omega)
  exact ⟨m-1,by omega,by omega⟩
section
variable {B:Nat} {w w':World} {g g':Gx}
theorem GOK.lvForm (h:GOK B w g):∃ ao c,g.r.lv=.slice ao g.ls.length c:=row_any h.grl.lss.row
theorem GOK.ivForm' (h:GOK B w g):∃ ao c,g.r.iv=.slice ao g.σ.its.length c:=row_any h.gro.its.row
theorem GOK.wvForm (h:GOK B w g):∃ ao c,g.r.wv=.slice ao g.ws.length c:=row_any h.wks.row
theorem byIdX (h:GOK B w g) (n:Int) (id:ByteArray) :
  Calls Tryz.prog 21 #[.pointer (some ⟨g.gb,0,none⟩),.int .i64 n,.string id] w fun e w'=>Below w.heap.size w w' ∧
   ((hasB (g.N+1) n=false∧e=.returned (.tuple #[.int .i64 0,.int .i64 5]))∨∃ m:Nat,n=m∧1≤m∧m≤g.N∧e=.returned (.tuple #[.int .i64 (byIdF g.N g.kk g.A g.σ.K m id:Nat),.int .i64 0])):=by
 have HH:Hid (Held w B g.gb g.nb g.cap (g.N+1) g.σ.s g.kd g.r):=h.held
 have HG:Hid (GOK B w g):=h
 clear h
 cases hb:hasB (g.N+1) n with
 | false =>
  go_enter Tryz.func21, Tryz.ntmps21
  go_wp2_with fail
  refine (hasF HH.out n).mono ?_
  rintro e w ⟨rfl,rfl⟩
  rw [hb]
  go_wp2_with fail
  go_ret2
  exact ⟨Below.refl _ _,.inl ⟨trivial,rfl⟩⟩
 | true =>
  obtain ⟨m,rfl,h1,hN⟩:=has_nat hb
  have HI:Hid (Calls Tryz.prog 55 #[.pointer (some ⟨g.gb,0,none⟩),.int .i64 m,.string id] w fun e w'=>e=.returned (.int .i64 (byIdF g.N g.kk g.A g.σ.K m id:Nat))∧Below w.heap.size w w'):=by
   show Calls _ _ _ _ _
   cases he:id.toList.isEmpty with
   | false=>exact callsIn_wide.1 (byIdIn HG.out.gro HG.out.grl.ats (by omega) m h1 hN id he)
   | true =>
    have HR:Hid (byIdF g.N g.kk g.A g.σ.K m id=0):=by show byIdF g.N g.kk g.A g.σ.K m id=0;unfold byIdF;rw [if_pos he]
    go_enter Tryz.func55, Tryz.ntmps55
    go_wp2_with fail
    refine bodyPost_ret (v:=.int .i64 0) (by simp [results,Tryz.results55,go_sem]) rfl ⟨ret_int (by rw [HR.out];rfl),?_⟩
    exact (((Below.refl _ _).alloc (Nat.le_refl _) _).alloc (by simp) _).alloc (by simp;omega) _
  go_enter Tryz.func21, Tryz.ntmps21
  go_wp2_with fail
  refine (hasF HH.out m).mono ?_
  rintro e w ⟨rfl,rfl⟩
  rw [hb]
  go_wp2_with fail
  refine Calls.mono HI.out ?_
  rintro e w1 ⟨rfl,hb1⟩
  have HB1:Hid _:=hb1
  clear hb1
  go_wp2_with fail
  go_ret2
  exact ⟨HB1.out,.inr ⟨m,rfl,h1,hN,rfl⟩⟩
def watchErr (N:Nat) (root how:Int) (what:ByteArray) (cnt:Nat):Int:=if hasB (N+1) root=false then 5 else if listErr how what≠0 then listErr how what else if 50≤cnt then 4 else 0
theorem newOK (h:GOK B w g) {root how:Nat} {what:ByteArray} (hm:mayAsk how what) (h1:1≤root) (hN:root≤g.N):(Ls.new root how what).OK g.N g.kk g.tg g.A g.σ.K g.r:=by
 have hp:=h.pl0
 by_cases h0:g.r.pl=0
 ·have h4:1≤how∧how≤4:=by
   rcases hm.2 with ⟨rfl,_⟩ | ⟨rfl,_⟩ | rfl | rfl <;> omega
  refine ⟨⟨h1,hN⟩,h4,by show (0:Int)≤g.r.pl;omega,fun _=>h.cl0,fun _ _=>?_⟩
  show []=lookF g.N g.kk g.tg g.A g.σ.K root how what
  have hK:=h.zero h0
  have e:(P g.N g.σ.K root).tail=[]:=by rw [P_eq h.wf h1 (by omega),hK];rfl
  unfold lookF
  split
  ·rw [e];rfl
  ·rw [hK];rfl
 ·exact new_ok hm h1 hN (by omega) h.cl0
theorem watchX (h:GOK B w g) (root how:Int) (what:ByteArray) (hs:what.size≤maxLen) :
  Calls Tryz.prog 12 #[.pointer (some ⟨g.gb,0,none⟩),.int .i64 root,.int .i64 how,.string what] w fun e w' =>
   (watchErr g.N root how what g.ls.length≠0∧e=.returned (.tuple #[.int .i64 0,.int .i64 (watchErr g.N root how what g.ls.length)])∧Below w.heap.size w w') ∨
   (watchErr g.N root how what g.ls.length=0∧∃ (m k:Nat) (v:Value),root=m∧how=k∧1≤m∧m≤g.N∧mayAsk k what∧g.ls.length<50∧e=.returned (.tuple #[.int .i64 (g.ls.length+1:Nat),.int .i64 0])∧Post B w w' g { g with r:=g.r.setLv v,ls:=g.ls++[Ls.new m k what] }):=by
 have HH:Hid (Held w B g.gb g.nb g.cap (g.N+1) g.σ.s g.kd g.r):=h.held
 have HG:Hid (GOK B w g):=h
 obtain ⟨lo,lc,hlv⟩:=h.lvForm
 have hfew:=h.grl.lss.few
 have hltg:=h.held.ltg
 have glv:w.cell? ⟨g.gb,3,none⟩=some (.slice lo g.ls.length lc):=by rw [← hlv];exact h.held.glv
 clear h hlv
 cases hb:hasB (g.N+1) root with
 | false =>
  have HE:Hid (watchErr g.N root how what g.ls.length=5):=by show watchErr g.N root how what g.ls.length=5;unfold watchErr;rw [if_pos hb]
  go_enter Tryz.func12, Tryz.ntmps12
  go_wp2_with fail
  refine (hasF HH.out root).mono ?_
  rintro e w ⟨rfl,rfl⟩
  rw [hb]
  go_wp2_with fail
  go_ret2
  exact .inl ⟨by rw [HE.out];decide,by rw [HE.out];rfl,Below.refl _ _⟩
 | true =>
  have HBt:Hid (hasB (g.N+1) root=true):=hb
  by_cases hle:listErr how what=0
  ·obtain ⟨m,rfl,h1,hN⟩:=has_nat hb
   obtain ⟨k,rfl,hm⟩:=list_ask hle
   by_cases h50:50≤g.ls.length
   ·have HE:Hid (watchErr g.N m k what g.ls.length=4):=by show watchErr g.N m k what g.ls.length=4;unfold watchErr;rw [if_neg (by rw [hb];simp),if_neg (by rw [hle];simp),if_pos h50]
    have h50':(50:Int)≤((g.ls.length:Nat):Int):=by omega
    have HM:Hid (mayAsk k what):=hm
    clear hm hle
    go_enter Tryz.func12, Tryz.ntmps12
    go_wp2_with fail
    refine (hasF HH.out m).mono ?_
    rintro e w ⟨rfl,rfl⟩
    rw [hb]
    go_wp2_with fail
    refine (newListC m k what w HM.out).mono ?_
    rintro e w1 ⟨rfl,hb1⟩
    have HB1:Hid (Below w.heap.size w w1):=hb1
    have glv1:w1.cell? ⟨g.gb,3,none⟩=some (.slice lo g.ls.length lc):=(hb1.cell (p:=⟨g.gb,3,none⟩) hltg).trans glv
    have s1:=hb1.size
    have lt1:g.gb<w1.heap.size:=by omega
    clear hb1
    go_wp2_with fail
    go_ret2
    exact .inl ⟨by rw [HE.out];decide,by rw [HE.out];rfl,HB1.out.alloc HB1.out.size _⟩
   ·have HE:Hid (watchErr g.N m k what g.ls.length=0):=by show watchErr g.N m k what g.ls.length=0;unfold watchErr;rw [if_neg (by rw [hb];simp),if_neg (by rw [hle];simp),if_neg h50]
    refine (watchS2 HG.out.grl (by omega) m k what hm h1 hN (newOK HG.out hm h1 hN)).mono ?_
    rintro e w' ⟨rfl,v,hG,hF,hNw⟩
    right
    refine ⟨HE.out,m,k,v,rfl,rfl,h1,hN,hm,by omega,rfl,?_⟩
    have hty:∀ i cs t fr,(i=g.gb∨g.r.lv.ownBlock=some i)→w.heap[i]?=some (.cells cs t fr)→t≠88∧t≠32:=by
     rintro i cs t fr (rfl | hi) e
     ·rw [HG.out.tyG e];decide
     ·rw [row_ty HG.out.grl.lss.row hi e];decide
    have hR:=HG.out.rest hF hty
    refine ⟨⟨hG,hR.1,HG.out.lo,hR.2.1,hR.2.2,HG.out.wok,HG.out.pl0,HG.out.cl0,HG.out.zero⟩,hF.mono (fun i hi=>?_),fun i hi=>?_,rfl⟩
    ·rcases hi with rfl | hi
     ·exact Gx.own_g
     ·exact Gx.own_lv hi
    ·rcases hi with hi | hi | hi | hi | hi | hi | ⟨x,hx,hi⟩ | hi | hi
     ·exact .inl (.inl hi)
     ·exact .inl (.inr (.inl hi))
     ·exact (hNw i hi).imp Gx.own_lv id
     ·exact .inl (Gx.own_iv hi)
     ·exact .inl (Gx.own_wv hi)
     ·exact .inl (.inr (.inr (.inr (.inr (.inr (.inl hi))))))
     ·rcases List.mem_append.1 hx with hx | hx
      ·exact .inl (Gx.own_fv hx hi)
      ·simp only [List.mem_singleton] at hx
       subst hx
       simp [Ls.new,Value.ownBlock] at hi
     ·exact .inl (.inr (.inr (.inr (.inr (.inr (.inr (.inr (.inl hi))))))))
     ·exact .inl (.inr (.inr (.inr (.inr (.inr (.inr (.inr (.inr hi))))))))
  ·have HE:Hid (watchErr g.N root how what g.ls.length=listErr how what):=by show watchErr g.N root how what g.ls.length=_;unfold watchErr;rw [if_neg (by rw [hb];simp),if_pos hle]
   have HNE:Hid (listErr how what≠0):=hle
   have q0':(listErr how what != 0)=true:=by simp [hle]
   clear hle
   go_enter Tryz.func12, Tryz.ntmps12
   go_wp2_with fail
   refine (hasF HH.out root).mono ?_
   rintro e w ⟨rfl,rfl⟩
   rw [HBt.out]
   go_wp2_with fail
   refine (newListE root how what w hs HNE.out).mono ?_
   rintro e w1 ⟨rfl,hb1⟩
   have HB1:Hid (Below w.heap.size w w1):=hb1
   have s1:=hb1.size
   clear hb1
   go_wp2_with fail
   go_ret2
   exact .inl ⟨by rw [HE.out];exact HNE.out,by rw [HE.out];rfl,HB1.out.alloc HB1.out.size _⟩
end
open Go.RowKit Go.Shelf Gv
def strName:ByteArray:=⟨#[110,97,109,101]⟩
def namB (kk:Nat→Nat) (A:Nat→ByteArray→Option ByteArray) (name:ByteArray) (n:Nat):Bool:=decide (kk n=2) && (isB (A n strId) name || isB (A n strName) name)
def namedF (kk:Nat→Nat) (A:Nat→ByteArray→Option ByteArray) (name:ByteArray) (l:List Nat):Nat:=if name.toList.isEmpty=true then 0 else (l.find? (namB kk A name)).getD 0
theorem take_find {p:Nat→Bool} {l:List Nat} {k:Nat} (hk:k<l.length) (h:∀ y,y∈l.take k→p y=false) (hx:p (l.getD k 0)=true):l.find? p=some (l.getD k 0):=by
 refine find_at (pre:=l.take k) ?_ h hx
 rw [← take_snocN hk]
 exact List.take_prefix _ _
section
variable {B:Nat} {w w':World} {gb nb cap N:Nat} {kk:Nat→Nat} {tg:Nat→ByteArray} {kd:Nat→Value} {mp:Nat→Nat} {σ:St} {r:Re} {A:Nat→ByteArray→Option ByteArray} {ls:List Ls}
theorem lookF_in (hwf:WF N σ.s σ.K) {root how:Nat} {what:ByteArray} (h1:1≤root) (hn:root≤N) {y:Nat} (hy:y∈lookF N kk tg A σ.K root how what):1≤y∧y≤N:=by
 unfold lookF at hy
 have:=List.mem_filter.1 hy
 have hm:=this.1
 split at hm
 ·exact tail_in hwf h1 hn hm
 ·exact kids_in hwf hm
theorem listNamed (h:Gro B w gb nb cap N kk tg kd mp σ r) (hA:Ats w B N kk mp A) (hN:1≤N) {lb n c i:Nat} {x:Ls} (hL:Lss w B (.slice (some ⟨lb,0,none⟩) n c) ls) (hi:ls[i]?=some x) (hx:x.OK N kk tg A σ.K r) (hlb:lb≠gb∧lb≠nb) (hG:∀ w',Fr (fun k=>k=lb) w w'→Gro B w' gb nb cap N kk tg kd mp σ r∧Ats w' B N kk mp A) (name:ByteArray) :
  Calls Tryz.prog 54 #[.pointer (some ⟨lb,i*6,none⟩),.pointer (some ⟨gb,0,none⟩),.string name] w fun e w'=>e=.returned (.int .i64 (namedF kk A name (lookF N kk tg A σ.K x.root x.how x.what):Nat)) ∧
   ((name.toList.isEmpty=true∧w'=w)∨∃ v,Lss w' B (.slice (some ⟨lb,0,none⟩) n c) (ls.set i (x.fresh v (lookF N kk tg A σ.K x.root x.how x.what) r))∧Fr (fun k=>k=lb) w w'∧NewOr w x.fv v):=by
 cases he:name.toList.isEmpty with
 | true =>
  have HR:Hid (namedF kk A name (lookF N kk tg A σ.K x.root x.how x.what)=0):=by show namedF _ _ _ _=0;unfold namedF;rw [if_pos he]
  go_enter Tryz.func54, Tryz.ntmps54
  go_wp2_with fail
  go_ret
  exact ⟨ret_int (by rw [HR.out];rfl),.inl ⟨trivial,rfl⟩⟩
 | false =>
  have HNd:Hid _:=nodesC h hA hN hL hi hx
  have HI:Hid _:=hi
  have HLen:Hid ((lookF N kk tg A σ.K x.root x.how x.what).length≤300):=Nat.le_trans (lookF_len h.wf hx.root.1 hx.root.2) h.N1
  have HIn:Hid (∀ y,y∈lookF N kk tg A σ.K x.root x.how x.what→1≤y∧y≤N):=fun y hy=>lookF_in h.wf hx.root.1 hx.root.2 hy
  have HG:Hid _:=hG
  have HF0:Hid (∀ l,namedF kk A name l=(l.find? (namB kk A name)).getD 0):=fun l=>by unfold namedF;rw [if_neg (by rw [he];simp)]
  have HKd:Hid (∀ y,1≤y→y≤N→kk y=2→∃ eb,kd y=.iface 143 (.pointer (some ⟨eb,0,none⟩))):=fun y y1 yN h2=>by
   obtain ⟨eb,e1,_⟩:=h.els y y1 yN h2
   exact ⟨eb,e1⟩
  clear h hA hL hi hx hG
  generalize lookF N kk tg A σ.K x.root x.how x.what=lf at *
  have hlen:=HLen.out
  go_enter Tryz.func54, Tryz.ntmps54
  go_wp2_with fail
  refine Calls.mono HNd.out ?_
  rintro e w1 ⟨v,rfl,hL1,hF1,hN1⟩
  obtain ⟨ao,cp,rfl,hnum⟩:=fresh_form HI.out hL1
  have HL1:Hid _:=hL1
  have HF1:Hid (Fr (fun k=>k=lb) w w1):=hF1
  have HN1:Hid _:=hN1
  have HNm:Hid (Nums w1 ao lf.length lf):=hnum
  clear hL1 hF1 hN1 HNd hnum
  go_wp2_with fail
  go_loopg [16] lf.length (fun m j wr=>∃ k:Nat,j=.int .i64 k∧m+k=lf.length∧Hid (∀ y,y∈lf.take k→namB kk A name y=false)∧Hid (Below w1.heap.size w1 wr))
  case atStart=>exact ⟨0,rfl,by omega,fun y hy=>by simp at hy,Below.refl _ _⟩
  case round =>
   obtain ⟨k,rfl,hk,HNo,HB⟩:=hrel
   have HFr:Hid (Fr (fun k=>k=lb) w wr):=HF1.out.trans (Fr.of_below HB.out)
   have HEnd:Hid (Lss wr B (.slice (some ⟨lb,0,none⟩) n c) (ls.set i (x.fresh (.slice ao lf.length cp) lf r))):=HL1.out.since HB.out
   by_cases hlt:k<lf.length
   ·have hlt':(k:Int)<((lf.length:Nat):Int):=by omega
    rcases HNm.out with h0 | ⟨gg,rfl,hgg,hcc⟩
    ·omega
    have hcell:wr.cell? ⟨gg,k,none⟩=some (.int .i64 (lf.getD k 0:Nat)):=(HB.out.cell (p:=⟨gg,k,none⟩) hgg).trans (hcc k hlt)
    have hy:=HIn.out _ (getD_mem hlt)
    have HTk:Hid (lf.take (k+1)=lf.take k++[lf.getD k 0]):=take_snocN hlt
    have HFnd:Hid (namB kk A name (lf.getD k 0)=true→lf.find? (namB kk A name)=some (lf.getD k 0)):=fun hp=>take_find hlt HNo.out hp
    clear hcc
    generalize lf.getD k 0=y at *
    have HGr:Hid _:=HG.out wr HFr.out
    go_wp2_with fail
    refine (elementF HGr.out.1.held y hy.2 (HGr.out.1.kinds y hy.1 hy.2)).mono ?_
    rintro e wr2 ⟨rfl,hcase⟩
    obtain ⟨wr,rfl⟩:∃ wr:World,wr=wr2:=⟨_,rfl⟩
    rcases hcase with ⟨h2,eb,hkd,rfl⟩ | ⟨h2,rfl⟩
    ·have HI1:Hid _:=elemId HGr.out.1 HGr.out.2 y hy.1 hy.2 strId name h2 hkd
     have HI2:Hid (∀ W,Below wr.heap.size wr W→Calls Tryz.prog 88 #[.pointer (some ⟨eb,0,none⟩),.string ⟨#[110,97,109,101]⟩,.string name] W fun e w'=>e=.returned (.bool (isB (A y strName) name))∧Below W.heap.size W w'):=fun W hW=>elemId (HGr.out.1.since hW) (HGr.out.2.since hW) y hy.1 hy.2 strName name h2 hkd
     have HID:Hid (namB kk A name y=(isB (A y strId) name || isB (A y strName) name)):=by show namB kk A name y=_;unfold namB;simp [h2]
     clear h2 hkd
     generalize isB (A y strId) name=q1 at *
     go_wp2_with fail
     refine Calls.mono HI1.out ?_
     rintro e w4 ⟨rfl,hb4⟩
     have HB4:Hid (Below wr.heap.size wr w4):=hb4
     have HI2':Hid _:=HI2.out w4 hb4
     clear hb4 HI1 HI2
     cases q1 with
     | true =>
      have HV:Hid (namedF kk A name lf=y):=by show namedF kk A name lf=y;rw [HF0.out,HFnd.out (by rw [HID.out];rfl)];rfl
      go_wp2_with fail
      go_ret
      exact ⟨ret_int (by rw [HV.out]),.inr ⟨_,HEnd.out.since HB4.out,HFr.out.trans (Fr.of_below HB4.out),HN1.out⟩⟩
     | false =>
      generalize isB (A y strName) name=q2 at *
      go_wp2_with fail
      refine Calls.mono HI2'.out ?_
      rintro e w5 ⟨rfl,hb5⟩
      have HB5:Hid (Below wr.heap.size wr w5):=HB4.out.trans (hb5.mono HB4.out.size)
      clear hb5 HI2'
      cases q2 with
      | true =>
       have HV:Hid (namedF kk A name lf=y):=by show namedF kk A name lf=y;rw [HF0.out,HFnd.out (by rw [HID.out];rfl)];rfl
       go_wp2_with fail
       go_ret
       exact ⟨ret_int (by rw [HV.out]),.inr ⟨_,HEnd.out.since HB5.out,HFr.out.trans (Fr.of_below HB5.out),HN1.out⟩⟩
      | false =>
       go_wp2_with fail
       go_roundg (gk-1)
       case measure=>omega
       case rel =>
        refine ⟨k+1,by go_num,by omega,fun z hz=>?_,HB.out.trans (HB5.out.mono HB.out.size)⟩
        rw [HTk.out] at hz
        rcases List.mem_append.1 hz with hz | hz
        ·exact HNo.out z hz
        ·simp only [List.mem_singleton] at hz;subst hz;rw [HID.out];rfl
    ·have HID:Hid (namB kk A name y=false):=by show namB kk A name y=false;unfold namB;simp [h2]
     clear h2
     go_wp2_with fail
     go_roundg (gk-1)
     case measure=>omega
     case rel =>
      refine ⟨k+1,by go_num,by omega,fun z hz=>?_,HB.out⟩
      rw [HTk.out] at hz
      rcases List.mem_append.1 hz with hz | hz
      ·exact HNo.out z hz
      ·simp only [List.mem_singleton] at hz;subst hz;exact HID.out
   ·have hlt':¬ (k:Int)<((lf.length:Nat):Int):=by omega
    have HV:Hid (namedF kk A name lf=0):=by
     show namedF kk A name lf=0
     have hno:=HNo.out
     rw [List.take_of_length_le (by omega)] at hno
     rw [HF0.out,find_not hno];rfl
    go_wp2_with fail
    go_ret
    first | exact ⟨ret_int (by rw [HV.out];rfl),.inr ⟨_,HEnd.out,HFr.out,HN1.out⟩⟩ | exact ⟨ret_int (by rw [HV.out];rfl),⟨_,HEnd.out,HFr.out,HN1.out⟩⟩
end
section
variable {B:Nat} {w w':World} {g g':Gx}
def Gx.looked (g:Gx) (i:Nat) (x:Ls) (v:Value):Gx:={ g with ls:=g.ls.set i (x.fresh v (lookF g.N g.kk g.tg g.A g.σ.K x.root x.how x.what) g.r) }
theorem GOK.lv_ty (h:GOK B w g):∀ i cs t fr,lvSet g.r i→w.heap[i]?=some (.cells cs t fr)→t≠88∧t≠32:=by
 intro i cs t fr hi e
 rw [row_ty h.grl.lss.row hi e];decide
theorem GOK.lookedAt (h:GOK B w g) {i:Nat} {x:Ls} {v:Value} (hi:g.ls[i]?=some x) (hG:Grl B w' g.gb g.nb g.cap g.N g.kk g.tg g.kd g.mp g.σ g.r g.A (g.looked i x v).ls) (hF:Fr (lvSet g.r) w w') (hN:NewOr w x.fv v):Post B w w' g (g.looked i x v):=by
 have hR:=h.rest hF h.lv_ty
 refine ⟨⟨hG,hR.1,h.lo,hR.2.1,hR.2.2,h.wok,h.pl0,h.cl0,h.zero⟩,hF.mono (fun i hi=>Gx.own_lv hi),fun j hj=>?_,rfl⟩
 rcases hj with hj | hj | hj | hj | hj | hj | ⟨y,hy,hj⟩ | hj | hj
 ·exact .inl (.inl hj)
 ·exact .inl (.inr (.inl hj))
 ·exact .inl (Gx.own_lv hj)
 ·exact .inl (Gx.own_iv hj)
 ·exact .inl (Gx.own_wv hj)
 ·exact .inl (.inr (.inr (.inr (.inr (.inr (.inl hj))))))
 ·rcases List.mem_or_eq_of_mem_set hy with hy | hy
  ·exact .inl (Gx.own_fv hy hj)
  ·subst hy
   exact (hN j hj).imp (Gx.own_fv (List.mem_of_getElem? hi)) id
 ·exact .inl (.inr (.inr (.inr (.inr (.inr (.inr (.inr (.inl hj))))))))
 ·exact .inl (.inr (.inr (.inr (.inr (.inr (.inr (.inr (.inr hj))))))))
theorem N_of_list (h:GOK B w g) {i:Nat} {x:Ls} (hi:g.ls[i]?=some x):1≤g.N:=by
 have:=(h.grl.ok x (List.mem_of_getElem? hi)).root
 omega
def Gx.list (g:Gx) (x:Ls):List Nat:=lookF g.N g.kk g.tg g.A g.σ.K x.root x.how x.what
theorem lenX (h:GOK B w g) (n:Int) :
  Calls Tryz.prog 18 #[.pointer (some ⟨g.gb,0,none⟩),.int .i64 n] w fun e w' =>
   ((n<1∨((g.ls.length:Nat):Int)<n)∧e=.returned (.tuple #[.int .i64 0,.int .i64 10])∧w'=w)∨∃ (i:Nat) (x:Ls) (v:Value),n=((i+1:Nat):Int)∧g.ls[i]?=some x∧e=.returned (.tuple #[.int .i64 ((g.list x).length:Nat),.int .i64 0])∧Post B w w' g (g.looked i x v):=by
 rcases thing_cases n g.ls.length with hn | ⟨i,hi,rfl⟩
 ·obtain ⟨ao,c,hv⟩:=h.lvForm
  have glv:w.cell? ⟨g.gb,3,none⟩=some (.slice ao g.ls.length c):=by rw [← hv];exact h.held.glv
  have hfew:=h.grl.lss.few
  have HN:Hid (n<1∨((g.ls.length:Nat):Int)<n):=hn
  clear h hv hn
  go_enter Tryz.func18, Tryz.ntmps18
  go_wp2_with fail
  refine (numNilL w ao g.ls.length c n hfew HN.out).mono ?_
  rintro e w ⟨rfl,rfl⟩
  go_wp2_with fail
  go_ret2
  exact .inl ⟨HN.out,rfl,rfl⟩
 ·have hx:g.ls[i]?=some g.ls[i]:=List.getElem?_eq_getElem hi
  refine (lenS2 h.grl (N_of_list h hx) hx).mono ?_
  rintro e w' ⟨rfl,v,hG,hF,hN⟩
  exact .inr ⟨i,_,v,rfl,hx,rfl,h.lookedAt hx hG hF hN⟩
theorem itemX (h:GOK B w g) (n j:Int) :
  Calls Tryz.prog 19 #[.pointer (some ⟨g.gb,0,none⟩),.int .i64 n,.int .i64 j] w fun e w' =>
   ((n<1∨((g.ls.length:Nat):Int)<n)∧e=.returned (.tuple #[.int .i64 0,.int .i64 10])∧w'=w)∨∃ (i:Nat) (x:Ls) (v:Value),n=((i+1:Nat):Int)∧g.ls[i]?=some x∧e=.returned (.tuple #[.int .i64 (itemF (g.list x) j:Nat),.int .i64 0])∧Post B w w' g (g.looked i x v):=by
 rcases thing_cases n g.ls.length with hn | ⟨i,hi,rfl⟩
 ·obtain ⟨ao,c,hv⟩:=h.lvForm
  have glv:w.cell? ⟨g.gb,3,none⟩=some (.slice ao g.ls.length c):=by rw [← hv];exact h.held.glv
  have hfew:=h.grl.lss.few
  have HN:Hid (n<1∨((g.ls.length:Nat):Int)<n):=hn
  clear h hv hn
  go_enter Tryz.func19, Tryz.ntmps19
  go_wp2_with fail
  refine (numNilL w ao g.ls.length c n hfew HN.out).mono ?_
  rintro e w ⟨rfl,rfl⟩
  go_wp2_with fail
  go_ret2
  exact .inl ⟨HN.out,rfl,rfl⟩
 ·have hx:g.ls[i]?=some g.ls[i]:=List.getElem?_eq_getElem hi
  refine (itemS2 h.grl (N_of_list h hx) hx j).mono ?_
  rintro e w' ⟨rfl,v,hG,hF,hN⟩
  exact .inr ⟨i,_,v,rfl,hx,rfl,h.lookedAt hx hG hF hN⟩
theorem namedX (h:GOK B w g) (n:Int) (name:ByteArray) :
  Calls Tryz.prog 20 #[.pointer (some ⟨g.gb,0,none⟩),.int .i64 n,.string name] w fun e w' =>
   ((n<1∨((g.ls.length:Nat):Int)<n)∧e=.returned (.tuple #[.int .i64 0,.int .i64 10])∧w'=w)∨∃ (i:Nat) (x:Ls),n=((i+1:Nat):Int)∧g.ls[i]?=some x∧e=.returned (.tuple #[.int .i64 (namedF g.kk g.A name (g.list x):Nat),.int .i64 0])∧(Post B w w' g g∨∃ v,Post B w w' g (g.looked i x v)):=by
 rcases thing_cases n g.ls.length with hn | ⟨i,hi,rfl⟩
 ·obtain ⟨ao,c,hv⟩:=h.lvForm
  have glv:w.cell? ⟨g.gb,3,none⟩=some (.slice ao g.ls.length c):=by rw [← hv];exact h.held.glv
  have hfew:=h.grl.lss.few
  have HN:Hid (n<1∨((g.ls.length:Nat):Int)<n):=hn
  clear h hv hn
  go_enter Tryz.func20, Tryz.ntmps20
  go_wp2_with fail
  refine (numNilL w ao g.ls.length c n hfew HN.out).mono ?_
  rintro e w ⟨rfl,rfl⟩
  go_wp2_with fail
  go_ret2
  exact .inl ⟨HN.out,rfl,rfl⟩
 ·have hx:g.ls[i]?=some g.ls[i]:=List.getElem?_eq_getElem hi
  have hfew:=h.grl.lss.few
  obtain ⟨lb,lc,hlv⟩:=h.grl.form hx
  have hlvc:w.cell? ⟨g.gb,3,none⟩=some (.slice (some ⟨lb,0,none⟩) g.ls.length lc):=by rw [← hlv];exact h.held.glv
  have hLs:Lss w B (.slice (some ⟨lb,0,none⟩) g.ls.length lc) g.ls:=by rw [← hlv];exact h.grl.lss
  have hbl:g.r.lv.ownBlock=some lb:=by rw [hlv];rfl
  have hlw:∀ w',Fr (fun k=>k=lb) w w'→Fr (lvSet g.r) w w':=fun w' hF=>hF.mono (fun k hk=>by show g.r.lv.ownBlock=some k;rw [hbl,hk])
  have ha:lb≠g.gb∧lb≠g.nb:=by
   obtain ⟨cur,hn,_⟩:=h.held.block
   exact ⟨fun e=>row_apart h.grl.lss.row h.held.g (by decide) (by rw [hbl,e]),fun e=>row_apart h.grl.lss.row hn (by decide) (by rw [hbl,e])⟩
  have hstay:∀ w',Fr (fun k=>k=lb) w w'→Gro B w' g.gb g.nb g.cap g.N g.kk g.tg g.kd g.mp g.σ g.r∧Ats w' B g.N g.kk g.mp g.A:=fun w' hF=>by
   obtain ⟨cur,hc⟩:∃ cur,w.heap[lb]?=some (.cells cur 77 (0,0)):=by
    rcases row_form hLs.row with ⟨e,_⟩ | ⟨g',c',e,_,_,hcur,_⟩
    ·simp at e
    ·simp only [Value.slice.injEq,Option.some.injEq,Addr.mk.injEq,and_true,true_and] at e
     rw [e.1];exact hcur
   refine ⟨⟨h.held.fr hF (fun e=>ha.1 e.symm) (fun e=>ha.2 e.symm),h.wf,h.gro.kinds,h.gro.its.fr hF (fun k hk e=>row_apart h.gro.its.row hc (by decide) (by rw [hk,e])),h.gro.sound,fun m h1 h2 h3=>(h.gro.els m h1 h2 h3).fr hF (fun k cs fr hk e=>by rw [hk,hc] at e;simp at e)⟩,h.grl.ats.fr hF (fun k es c hk e=>by rw [hk,hc] at e;cases e)⟩
  have HNm:Hid _:=listNamed h.gro h.grl.ats (N_of_list h hx) hLs hx (h.grl.ok _ (List.mem_of_getElem? hx)) ha hstay name
  have HG:Hid (GOK B w g):=h
  have HX:Hid (g.ls[i]?=some g.ls[i]):=hx
  have HW:Hid (∀ w',Fr (fun k=>k=lb) w w'→Fr (lvSet g.r) w w'):=hlw
  have HLV:Hid (g.r.lv=.slice (some ⟨lb,0,none⟩) g.ls.length lc):=hlv
  clear h hx hLs hlv hbl hlw ha hstay
  generalize g.ls[i]=x at *
  go_enter Tryz.func20, Tryz.ntmps20
  go_wp2_with fail
  refine (numberedL w lb g.ls.length lc (i+1) hfew (by omega) (by omega)).mono ?_
  rintro e w ⟨rfl,rfl⟩
  rw [Nat.add_sub_cancel]
  go_wp2_with fail
  refine Calls.mono HNm.out ?_
  rintro e w1 ⟨rfl,hc1⟩
  have HC1:Hid _:=hc1
  clear hc1 HNm
  go_wp2_with fail
  go_ret2
  refine .inr ⟨i,x,rfl,HX.out,rfl,?_⟩
  rcases HC1.out with ⟨_,rfl⟩ | ⟨v,hL,hF,hN⟩
  ·exact .inl (Post.refl HG.out)
  ·exact .inr ⟨v,HG.out.lookedAt HX.out (HG.out.grl.looked HX.out (HW.out _ hF) (by rw [HLV.out];exact hL)) (HW.out _ hF) hN⟩
end
end Go.Proofs.YtcedebpoihcbdaaGreatDoor
