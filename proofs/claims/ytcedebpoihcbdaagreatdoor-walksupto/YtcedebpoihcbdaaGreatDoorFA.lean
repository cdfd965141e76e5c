/-
  What makes a filter, whatever its rules: mayNotBe, IndexFunc, ContainsFunc, Clone, NewFilter, mayFilter.
  Iter and Walker at the grove, whatever is handed in.
-/
import Derived.Test.YtcedebpoihcbdaaGreatDoorY3
set_option maxHeartbeats 2000000
set_option maxRecDepth 100000
namespace Go.Proofs.YtcedebpoihcbdaaGreatDoor
open Go.RowKit Gv
structure RulesIn (w:World) (ao:Option Addr) (rs:List Rule):Prop where
 at_:rs.length=0∨∃ b off,ao=some ⟨b,off,none⟩∧b<w.heap.size∧∀ (k:Nat) (x:Rule),rs[k]?=some x→w.cell? ⟨b,off+k*2,none⟩=some (.string x.1)∧w.cell? ⟨b,off+(k*2+1),none⟩=some (.int .i64 x.2)
 short:∀ x:Rule,x∈rs→x.1.size≤maxLen
theorem RulesIn.since {w w':World} {ao:Option Addr} {rs:List Rule} (h:RulesIn w ao rs) (hb:Below w.heap.size w w'):RulesIn w' ao rs:=by
 refine ⟨?_,h.short⟩
 rcases h.at_ with h | ⟨b,off,e,hl,hc⟩
 ·exact .inl h
 ·exact .inr ⟨b,off,e,Nat.lt_of_lt_of_le hl hb.size,fun k x hx=>⟨(hb.cell (p:=⟨b,off+k*2,none⟩) hl).trans (hc k x hx).1,(hb.cell (p:=⟨b,off+(k*2+1),none⟩) hl).trans (hc k x hx).2⟩⟩
def badR (x:Rule):Bool:=!nameB x.1.data.toList || decide (x.2<1) || decide (3<x.2)
def anyBad (rs:List Rule):Bool:=rs.any badR
theorem res_cells {w w1:World} {a b:Value} {t:TypeId} (hb:Below (w.alloc (.cells #[a,b] t)).heap.size (w.alloc (.cells #[a,b] t)) w1):w1.cell? ⟨w.heap.size,0,none⟩=some a∧w1.cell? ⟨w.heap.size,1,none⟩=some b∧(∀ j,w1.frozen? ⟨w.heap.size,j,none⟩=false)∧w.heap.size<w1.heap.size:=by
 have h1:w1.heap[w.heap.size]?=some (.cells #[a,b] t (0,0)):=(hb.block _ (by simp)).trans (heap_alloc_new w _)
 exact ⟨cells_of h1 0,cells_of h1 1,fun j=>frees_of h1 j,lt_of_block h1⟩
theorem res_more {w1 w2:World} {g:Nat} {a b:Value} (h:w1.cell? ⟨g,0,none⟩=some a∧w1.cell? ⟨g,1,none⟩=some b∧(∀ j,w1.frozen? ⟨g,j,none⟩=false)∧g<w1.heap.size) (hb:Below w1.heap.size w1 w2):w2.cell? ⟨g,0,none⟩=some a∧w2.cell? ⟨g,1,none⟩=some b∧(∀ j,w2.frozen? ⟨g,j,none⟩=false)∧g<w2.heap.size :=
 ⟨(hb.cell (p:=⟨g,0,none⟩) h.2.2.2).trans h.1,(hb.cell (p:=⟨g,1,none⟩) h.2.2.2).trans h.2.1,fun j=>(hb.frozen (p:=⟨g,j,none⟩) h.2.2.2).trans (h.2.2.1 j),Nat.lt_of_lt_of_le h.2.2.2 hb.size⟩
theorem mayNotC (n:ByteArray) (v:Int) (hs:n.size≤maxLen) (w:World) :
  Calls Tryz.prog 125 #[.agg #[.string n,.int .i64 v]] w fun e w'=>e=.returned (.bool (badR (n,v)))∧Below w.heap.size w w':=by
 have HS:Hid (n.size≤maxLen):=hs
 clear hs
 cases hn:nameB n.data.toList with
 | false =>
  have HR:Hid (badR (n,v)=true):=by show badR (n,v)=true;unfold badR;simp only [hn];rfl
  have HN:Hid (nameB n.data.toList=false):=hn
  clear hn
  go_enter Tryz.func125, Tryz.ntmps125
  go_wp2_with fail
  refine (isName n _ HS.out).mono ?_
  rintro e w1 ⟨rfl,rfl⟩
  rw [HN.out]
  go_wp2_with fail
  go_ret
  exact ⟨ret_bool (by rw [HR.out]),(Below.refl _ _).alloc (Nat.le_refl _) _⟩
 | true =>
  have HN:Hid (nameB n.data.toList=true):=hn
  have HR:Hid (badR (n,v)=(decide (v<1) || decide (3<v))):=by show badR (n,v)=_;unfold badR;simp only [hn];rfl
  clear hn
  cases h1:decide (v<1) with
  | true =>
   have HV:Hid (decide (v<1)=true):=h1
   go_enter Tryz.func125, Tryz.ntmps125
   go_wp2_with fail
   refine (isName n _ HS.out).mono ?_
   rintro e w1 ⟨rfl,rfl⟩
   rw [HN.out]
   go_wp2_with fail
   go_ret
   exact ⟨ret_bool (by rw [HR.out,HV.out];rfl),(Below.refl _ _).alloc (Nat.le_refl _) _⟩
  | false =>
   have HV:Hid (decide (v<1)=false):=h1
   go_enter Tryz.func125, Tryz.ntmps125
   go_wp2_with fail
   refine (isName n _ HS.out).mono ?_
   rintro e w1 ⟨rfl,rfl⟩
   rw [HN.out]
   go_wp2_with fail
   go_ret
   exact ⟨ret_bool (by rw [HR.out,HV.out];rfl),(Below.refl _ _).alloc (Nat.le_refl _) _⟩
theorem indexR (rs:List Rule) (ao:Option Addr) (c:Nat) (w:World) (hl:rs.length≤10) (hn:RulesIn w ao rs) :
  Calls Tryz.prog 167 #[.slice ao rs.length c,.func (.func 125) #[] #[]] w fun e w'=>Below w.heap.size w w' ∧
   ((e=.returned (.int .i64 (-1))∧anyBad rs=false)∨∃ k:Nat,e=.returned (.int .i64 k)∧anyBad rs=true):=by
 have HN:Hid (RulesIn w ao rs):=hn
 clear hn
 go_enter Tryz.func167, Tryz.ntmps167
 go_wp2_with fail
 go_loopg [8] rs.length (fun m i wr=>∃ k:Nat,i=.int .i64 k∧m+k=rs.length∧Hid (Below w.heap.size w wr)∧Hid ((rs.take k).any badR=false))
 case atStart=>exact ⟨0,rfl,by omega,Below.refl _ _,rfl⟩
 case round =>
  obtain ⟨k,rfl,hk,HB,HNo⟩:=hrel
  by_cases hlt:k<rs.length
  ·have hlt':(k:Int)<((rs.length:Nat):Int):=by omega
   rcases HN.out.at_ with h0 | ⟨g,off,rfl,hg,hc⟩
   ·omega
   have hget:rs[k]?=some rs[k]:=List.getElem?_eq_getElem hlt
   have q0:wr.cell? ⟨g,off+k*2,none⟩=some (.string rs[k].1):=(HB.out.cell (p:=⟨g,off+k*2,none⟩) hg).trans (hc k _ hget).1
   have q1:wr.cell? ⟨g,off+(k*2+1),none⟩=some (.int .i64 rs[k].2):=(HB.out.cell (p:=⟨g,off+(k*2+1),none⟩) hg).trans (hc k _ hget).2
   have q1':wr.cell? ⟨g,off+k*2+1,none⟩=some (.int .i64 rs[k].2):=q1
   have HT:Hid (rs.take (k+1)=rs.take k++[rs[k]]):=List.take_succ_eq_append_getElem hlt
   have HM:Hid (rs[k]∈rs):=List.getElem_mem hlt
   have HSz:Hid (rs[k].1.size≤maxLen):=HN.out.short _ (List.getElem_mem hlt)
   clear hget hc
   generalize rs[k]=x at *
   obtain ⟨xn,xv⟩:=x
   go_wp2_with fail
   refine (mayNotC xn xv HSz.out _).mono ?_
   rintro e w2 ⟨rfl,hB2⟩
   have HB2:Hid (Below w.heap.size w w2):=HB.out.trans (hB2.mono HB.out.size)
   clear hB2
   cases hpx:badR (xn,xv) with
   | true =>
    have HBd:Hid (badR (xn,xv)=true):=hpx
    go_wp2_with fail
    go_ret
    exact ⟨HB2.out,.inr ⟨k,rfl,by unfold anyBad;exact List.any_eq_true.2 ⟨_,HM.out,HBd.out⟩⟩⟩
   | false =>
    have HBd:Hid (badR (xn,xv)=false):=hpx
    go_wp2_with fail
    go_roundg (gk-1)
    case measure=>omega
    case rel=>exact ⟨k+1,by go_num,by omega,HB2.out,by show _=false;rw [HT.out,List.any_append,HNo.out];simp [HBd.out]⟩
  ·have hlt':¬ (k:Int)<((rs.length:Nat):Int):=by omega
   go_wp2_with fail
   go_ret
   refine ⟨HB.out,.inl ⟨rfl,?_⟩⟩
   have:=HNo.out
   rw [List.take_of_length_le (by omega)] at this
   exact this
theorem containsR (rs:List Rule) (ao:Option Addr) (c:Nat) (w:World) (hl:rs.length≤10) (hn:RulesIn w ao rs) :
  Calls Tryz.prog 124 #[.slice ao rs.length c,.func (.func 125) #[] #[]] w fun e w'=>Below w.heap.size w w'∧e=.returned (.bool (anyBad rs)):=by
 go_enter Tryz.func124, Tryz.ntmps124
 go_wp2_with fail
 refine (indexR rs ao c w hl hn).mono ?_
 rintro e w1 ⟨hb,⟨rfl,h⟩ | ⟨k,rfl,h⟩⟩
 ·have HB:Hid (Below w.heap.size w w1):=hb
  have HA:Hid (anyBad rs=false):=h
  clear hb h
  go_wp2_with fail
  go_ret
  exact ⟨HB.out,ret_bool (by rw [HA.out])⟩
 ·have HB:Hid (Below w.heap.size w w1):=hb
  have HA:Hid (anyBad rs=true):=h
  clear hb h
  go_wp2_with fail
  go_ret
  exact ⟨HB.out,ret_bool (by rw [HA.out])⟩
theorem Tryz.info32:(Tryz.prog.info? 32).map (fun i=>(i.zero,i.size,i.bytes))=some (some (.agg #[.string ByteArray.empty,.int .i64 0]),2,24):=by kernel_rfl
theorem rrow_one (rs:List Rule):∀ u∈rs.flatMap rrow,u.oneCell'=true:=by
 intro u hu
 obtain ⟨x,_,hx⟩:=List.mem_flatMap.1 hu
 simp only [rrow,List.mem_cons,List.not_mem_nil,or_false] at hx
 rcases hx with rfl | rfl <;> rfl
theorem owns_empty (w:World) (e:TypeId) (size:Nat):(w.alloc (.cells #[] e)).ownsRow w.heap.size e size (.slice (some ⟨w.heap.size,0,none⟩) 0 0) 0 [] :=
 ⟨by simp,.inr ⟨w.heap.size,0,#[],rfl,Nat.le_refl _,heap_alloc_new w _,Nat.le_refl _,Nat.zero_le _,by simp,by simp⟩⟩
theorem flat_get {rs:List Rule} {j:Nat} {u:Value} (h:(rs.flatMap rrow)[j]?=some u):∃ (k:Nat) (x:Rule),rs[k]?=some x∧((j=k*2∧u=.string x.1)∨(j=k*2+1∧u=.int .i64 x.2)):=by
 induction rs generalizing j with
 | nil=>simp at h
 | cons x l ih =>
  rw [List.flatMap_cons] at h
  match j,h with
  | 0,h=>simp [rrow] at h;exact ⟨0,x,rfl,.inl ⟨rfl,h.symm⟩⟩
  | 1,h=>simp [rrow] at h;exact ⟨0,x,rfl,.inr ⟨rfl,h.symm⟩⟩
  | j+2,h =>
   have h':(l.flatMap rrow)[j]?=some u:=by simpa [rrow] using h
   obtain ⟨k,y,hy,hc⟩:=ih h'
   exact ⟨k+1,y,hy,hc.imp (fun h=>⟨by omega,h.2⟩) (fun h=>⟨by omega,h.2⟩)⟩
theorem cloneR (rs:List Rule) (ao:Option Addr) (c:Nat) (w:World) (hl:rs.length≤10) (hn:RulesIn w ao rs) (hz:ao=none→rs=[]∧c=0) :
  Calls Tryz.prog 126 #[.slice ao rs.length c] w fun e w'=>∃ ro rn rc,e=.returned (.slice ro rn rc)∧w'.ownsRow w.heap.size 32 2 (.slice ro rn rc) rs.length (rs.flatMap rrow)∧Below w.heap.size w w':=by
 cases ao with
 | none =>
  obtain ⟨rfl,rfl⟩:=hz rfl
  refine (cloneNil w).mono ?_
  rintro e w' ⟨rfl,rfl⟩
  exact ⟨none,0,0,rfl,World.ownsRow_nil _ _ _ _,Below.refl _ _⟩
 | some ad =>
  obtain ⟨i0,hi,hz0,hz1,hz2⟩:=info_parts Tryz.info32
  have he:∀ w:World,(binOp BinOp.eql 33 (.slice (some ad) rs.length c) (.slice none 0 0)).run Tryz.prog w=.ok (.bool false) w:=fun _=>by kernel_rfl
  have HC:Hid (∀ j u,(rs.flatMap rrow)[j]?=some u→(w.alloc (.cells #[] 32)).cell? (ad.add j)=some u):=by
   intro j u hj
   obtain ⟨k,x,hk,hc⟩:=flat_get hj
   have hkl:=(List.getElem?_eq_some_iff.1 hk).1
   rcases hn.at_ with h0 | ⟨b,off,e,hlt,hcell⟩
   ·omega
   ·simp only [Option.some.injEq] at e
    subst e
    have e2:(⟨b,off,none⟩:Addr).add j=⟨b,off+j,none⟩:=by unfold Addr.add;split <;> simp_all
    rw [e2]
    have hb:(w.alloc (.cells #[] 32)).cell? ⟨b,off+j,none⟩=w.cell? ⟨b,off+j,none⟩:=((Below.refl w.heap.size w).alloc (Nat.le_refl _) (.cells #[] 32)).cell (p:=⟨b,off+j,none⟩) hlt
    rw [hb]
    rcases hc with ⟨rfl,rfl⟩ | ⟨rfl,rfl⟩
    ·exact (hcell k x hk).1
    ·exact (hcell k x hk).2
  have hfl:(rs.flatMap rrow).length=rs.length*2:=flat_length rrow_len rs
  have HFL:Hid ((rs.flatMap rrow).length=rs.length*2):=hfl
  clear hn hz hfl
  go_enter Tryz.func126, Tryz.ntmps126
  go_wp2_with (at_builtin;refine wpList_append_own _ rfl _ _ 33 rfl w.heap.size 32 i0 _ 2 24 Tryz.underlying33 hi hz0 hz1 hz2 rfl (by decide) _ 0 [] rfl (owns_empty w 32 2) ad rs.length c (rs.flatMap rrow) rfl HFL.out HC.out (rrow_one rs) ?c3 ?c4 ?c5 ?_)
  case c3=>unfold maxLen;omega
  case c4=>omega
  case c5=>simp
  intro v' w' hown hgrow _
  have HB:Hid (Below w.heap.size w w'):=by
   refine ⟨hgrow.os,hgrow.tape,hgrow.output,Nat.le_trans (by simp) hgrow.size,fun k hk=>?_⟩
   rw [hgrow.block k (by simp;omega) (by simp [Value.ownBlock];omega)]
   exact Below.heap_alloc _ _ _ hk
  have HO:Hid (w'.ownsRow w.heap.size 32 2 v' rs.length (rs.flatMap rrow)):=(by simpa using hown:w'.ownsRow w.heap.size 32 2 v' rs.length (rs.flatMap rrow))
  clear hown hgrow
  obtain ⟨ro,rn,rc,hv⟩:∃ ro rn rc,v'=.slice ro rn rc:=by
   rcases row_form HO.out with ⟨e,_⟩ | ⟨g,cp,e,_⟩
   ·exact ⟨_,_,_,e⟩
   ·exact ⟨_,_,_,e⟩
  subst hv
  go_wp2_with fail
  go_ret
  exact ⟨ro,rn,rc,rfl,HO.out,HB.out⟩
theorem rowB {w:World} {D D' e size n:Nat} {v:Value} {xs:List Value} (h:w.ownsRow D e size v n xs) (hD:D'≤D):w.ownsRow D' e size v n xs:=by
 obtain ⟨h1,h2 | ⟨g,c,cur,h3,h4,h5⟩⟩:=h
 ·exact ⟨h1,.inl h2⟩
 ·exact ⟨h1,.inr ⟨g,c,cur,h3,by omega,h5⟩⟩
def filtErr (see:Int) (rs:List Rule):Int:=if see<0∨30<see then 1 else if 10<rs.length then 3 else if anyBad rs=true then 11 else 0
def MadeFilter (w:World) (see:Int) (rs:List Rule) (q:Int) (e:Ending) (w':World):Prop :=
 Below w.heap.size w w'∧((q≠0∧e=.returned (.tuple #[.agg #[.int .i64 0,.slice none 0 0],.int .i64 q])) ∨
  (q=0∧∃ ro rn rc,e=.returned (.tuple #[.agg #[.int .i64 see,.slice ro rn rc],.int .i64 0])∧w'.ownsRow w.heap.size 32 2 (.slice ro rn rc) rs.length (rs.flatMap rrow)))
theorem newFilterC (see:Int) (rs:List Rule) (ao:Option Addr) (c:Nat) (w:World) (hl:rs.length≤10000000) (hn:RulesIn w ao rs) (hz:ao=none→rs=[]∧c=0) :
  Calls Tryz.prog 81 #[.int .i64 see,.slice ao rs.length c] w (MadeFilter w see rs (filtErr see rs)):=by
 have HN:Hid (RulesIn w ao rs):=hn
 have HZ:Hid (ao=none→rs=[]∧c=0):=hz
 clear hn hz
 by_cases h0:see<0
 ·have HE:Hid (filtErr see rs=1):=by show filtErr see rs=1;unfold filtErr;rw [if_pos (.inl h0)]
  have d1:decide (see<0)=true:=by simpa using h0
  go_enter Tryz.func81, Tryz.ntmps81
  go_wp2_with fail
  rw [HE.out]
  exact bodyPost_ret (v:=.tuple #[.agg #[.int .i64 0,.slice none 0 0],.int .i64 1]) (by simp [results,Tryz.results81,go_sem]) rfl ⟨(Below.refl _ _).alloc (Nat.le_refl _) _,.inl ⟨by decide,rfl⟩⟩
 by_cases h30:30<see
 ·have HE:Hid (filtErr see rs=1):=by show filtErr see rs=1;unfold filtErr;rw [if_pos (.inr h30)]
  have d1:decide (see<0)=false:=by simpa using h0
  have d2:decide (30<see)=true:=by simpa using h30
  go_enter Tryz.func81, Tryz.ntmps81
  go_wp2_with fail
  rw [HE.out]
  exact bodyPost_ret (v:=.tuple #[.agg #[.int .i64 0,.slice none 0 0],.int .i64 1]) (by simp [results,Tryz.results81,go_sem]) rfl ⟨(Below.refl _ _).alloc (Nat.le_refl _) _,.inl ⟨by decide,rfl⟩⟩
 have d1:decide (see<0)=false:=by simpa using h0
 have d2:decide (30<see)=false:=by simpa using h30
 have HS:Hid (¬ (see<0∨30<see)):=by rintro (h | h) <;> contradiction
 by_cases h10:10<rs.length
 ·have HE:Hid (filtErr see rs=3):=by show filtErr see rs=3;unfold filtErr;rw [if_neg HS.out,if_pos h10]
  have d3:(10:Int)<((rs.length:Nat):Int):=by omega
  clear h0 h30
  go_enter Tryz.func81, Tryz.ntmps81
  go_wp2_with fail
  rw [HE.out]
  exact bodyPost_ret (v:=.tuple #[.agg #[.int .i64 0,.slice none 0 0],.int .i64 3]) (by simp [results,Tryz.results81,go_sem]) rfl ⟨(Below.refl _ _).alloc (Nat.le_refl _) _,.inl ⟨by decide,rfl⟩⟩
 have hl10:rs.length≤10:=by omega
 have d3:¬ (10:Int)<((rs.length:Nat):Int):=by omega
 have HL:Hid (¬ 10<rs.length):=h10
 clear h0 h30 h10 hl
 have hba:Below w.heap.size w (w.alloc (.cells #[.int .i64 0,.slice none 0 0] 81)):=(Below.refl _ _).alloc (Nat.le_refl _) _
 have HBA:Hid _:=hba
 clear hba
 go_enter Tryz.func81, Tryz.ntmps81
 go_wp2_with fail
 refine (containsR rs ao c _ hl10 (HN.out.since HBA.out)).mono ?_
 rintro e w1 ⟨hb,rfl⟩
 have HB:Hid (Below w.heap.size w w1):=HBA.out.trans (hb.mono (by simp))
 have HRC:Hid _:=res_cells hb
 obtain ⟨k0,k1,kf,kz⟩:=res_cells hb
 clear hb
 cases ha:anyBad rs with
 | true =>
  have HE:Hid (filtErr see rs=11):=by show filtErr see rs=11;unfold filtErr;rw [if_neg HS.out,if_neg HL.out,if_pos ha]
  clear ha
  go_wp2_with fail
  rw [HE.out]
  exact bodyPost_ret (v:=.tuple #[.agg #[.int .i64 0,.slice none 0 0],.int .i64 11]) (by simp [results,Tryz.results81,go_sem,k0,k1]) rfl ⟨(HB.out.setCell (Nat.le_refl _) _).setCell (Nat.le_refl _) _,.inl ⟨by decide,rfl⟩⟩
 | false =>
  have HE:Hid (filtErr see rs=0):=by show filtErr see rs=0;unfold filtErr;rw [if_neg HS.out,if_neg HL.out,if_neg (by rw [ha];simp)]
  clear ha
  go_wp2_with fail
  refine (cloneR rs ao c _ hl10 (HN.out.since HB.out) HZ.out).mono ?_
  rintro e w2 ⟨ro,rn,rc,rfl,ho,hb2⟩
  have HO1:Hid (w2.ownsRow w1.heap.size 32 2 (.slice ro rn rc) rs.length (rs.flatMap rrow)):=ho
  have HB2:Hid (Below w.heap.size w w2):=HB.out.trans (hb2.mono HB.out.size)
  clear k0 k1 kf
  obtain ⟨k0,k1,kf,kz2⟩:=res_more HRC.out hb2
  clear ho hb2
  go_wp2_with fail
  rw [HE.out]
  refine bodyPost_ret (v:=.tuple #[.agg #[.int .i64 see,.slice ro rn rc],.int .i64 0]) (by simp [results,Tryz.results81,go_sem,k0,k1]) rfl ⟨?_,.inr ⟨rfl,ro,rn,rc,rfl,?_⟩⟩
  ·exact (HB2.out.setCell (Nat.le_refl _) _).setCell (Nat.le_refl _) _
  ·have hne:∀ g,(Value.slice ro rn rc).ownBlock=some g→g≠w.heap.size:=fun g hg e=>by have:=(HO1.out.lt g hg).1;omega
   refine rowB (ownsRow_same HO1.out (fun g hg=>?_)) (Nat.le_of_lt kz)
   rw [Below.heap_setCell _ _ _ _ (hne g hg),Below.heap_setCell _ _ _ _ (hne g hg)]
theorem set2_alloc {w w1:World} (h:Below w.heap.size w w1) (hz:w.heap.size<w1.heap.size) (a b:Value) (o:Obj):Below w.heap.size w (((w1.setCell ⟨w.heap.size,0,none⟩ a).setCell ⟨w.heap.size,1,none⟩ b).alloc o) :=
 ((h.setCell (Nat.le_refl _) a).setCell (Nat.le_refl _) b).alloc (by simp [World.setCell];omega) o
def mayErr (N:Nat) (root see:Int) (rs:List Rule) (cnt:Nat):Int:=if hasB (N+1) root=false then 5 else if filtErr see rs≠0 then filtErr see rs else if 50≤cnt then 4 else 0
section
variable {w:World} {B gb nb cap N:Nat} {s:Fo} {kd:Nat→Value} {r:Re}
theorem mayFilterC (h:Held w B gb nb cap (N+1) s kd r) (root see:Int) (rs:List Rule) (ao:Option Addr) (c cnt:Nat) (hc:cnt≤50) (hl:rs.length≤10000000) (hn:RulesIn w ao rs) (hz:ao=none→rs=[]∧c=0) :
  Calls Tryz.prog 42 #[.pointer (some ⟨gb,0,none⟩),.int .i64 root,.int .i64 see,.slice ao rs.length c,.int .i64 cnt] w (MadeFilter w see rs (mayErr N root see rs cnt)):=by
 have HH:Hid (Held w B gb nb cap (N+1) s kd r):=h
 have HN:Hid (RulesIn w ao rs):=hn
 have HZ:Hid (ao=none→rs=[]∧c=0):=hz
 clear h hn hz
 have ba:∀ (w:World) (o:Obj),Below w.heap.size w (w.alloc o):=fun w o=>(Below.refl _ _).alloc (Nat.le_refl _) o
 have BA:Hid (∀ (w:World) (o:Obj),Below w.heap.size w (w.alloc o)):=ba
 clear ba
 cases hb:hasB (N+1) root with
 | false =>
  have HE:Hid (mayErr N root see rs cnt=5):=by show mayErr N root see rs cnt=5;unfold mayErr;rw [if_pos hb]
  go_enter Tryz.func42, Tryz.ntmps42
  go_wp2_with fail
  refine (hasF (HH.out.alloc _) root).mono ?_
  rintro e w1 ⟨rfl,rfl⟩
  rw [hb]
  go_wp2_with fail
  rw [HE.out]
  exact bodyPost_ret (v:=.tuple #[.agg #[.int .i64 0,.slice none 0 0],.int .i64 5]) (by simp [results,Tryz.results42,go_sem]) rfl ⟨BA.out _ _,.inl ⟨by decide,rfl⟩⟩
 | true =>
  have HBt:Hid (hasB (N+1) root=true):=hb
  clear hb
  go_enter Tryz.func42, Tryz.ntmps42
  go_wp2_with fail
  refine (hasF (HH.out.alloc _) root).mono ?_
  rintro e w1 ⟨rfl,rfl⟩
  rw [HBt.out]
  go_wp2_with fail
  refine (newFilterC see rs ao c _ hl (HN.out.since (BA.out _ _)) HZ.out).mono ?_
  rintro e w1 ⟨hb1,hcase⟩
  obtain ⟨k0,k1,kf,kz⟩:=res_cells hb1
  have HB1:Hid (Below w.heap.size w w1):=(BA.out w _).trans (hb1.mono (by simp))
  clear hb1
  rcases hcase with ⟨hne,rfl⟩ | ⟨hz0,ro,rn,rc,rfl,ho⟩
  ·have HE:Hid (mayErr N root see rs cnt=filtErr see rs):=by show mayErr N root see rs cnt=_;unfold mayErr;rw [if_neg (by rw [HBt.out];simp),if_pos hne]
   have HNE:Hid (filtErr see rs≠0):=hne
   have q0':(filtErr see rs != 0)=true:=by simp [hne]
   clear hne
   generalize filtErr see rs=q at *
   go_wp2_with fail
   rw [HE.out]
   refine bodyPost_ret (v:=.tuple #[.agg #[.int .i64 0,.slice none 0 0],.int .i64 q]) (by simp [results,Tryz.results42,go_sem,k0,k1,kz]) rfl ⟨?_,.inl ⟨HNE.out,rfl⟩⟩
   exact set2_alloc HB1.out kz _ _ _
  ·have HO:Hid (w1.ownsRow w.heap.size 32 2 (.slice ro rn rc) rs.length (rs.flatMap rrow)):=rowB ho (by simp)
   have HO1:Hid (w1.ownsRow (w.heap.size+1) 32 2 (.slice ro rn rc) rs.length (rs.flatMap rrow)):=rowB ho (by simp)
   clear ho
   by_cases h50:50≤cnt
   ·have HE:Hid (mayErr N root see rs cnt=4):=by show mayErr N root see rs cnt=_;unfold mayErr;rw [if_neg (by rw [HBt.out];simp),if_neg (by rw [hz0];simp),if_pos h50]
    have h50':(50:Int)≤(cnt:Int):=by omega
    clear hz0
    go_wp2_with fail
    rw [HE.out]
    refine bodyPost_ret (v:=.tuple #[.agg #[.int .i64 0,.slice none 0 0],.int .i64 4]) (by simp [results,Tryz.results42,go_sem,k0,k1,kz]) rfl ⟨?_,.inl ⟨by decide,rfl⟩⟩
    exact set2_alloc HB1.out kz _ _ _
   ·have HE:Hid (mayErr N root see rs cnt=0):=by show mayErr N root see rs cnt=_;unfold mayErr;rw [if_neg (by rw [HBt.out];simp),if_neg (by rw [hz0];simp),if_neg h50]
    have h50':¬ (50:Int)≤(cnt:Int):=by omega
    clear hz0
    go_wp2_with fail
    rw [HE.out]
    refine bodyPost_ret (v:=.tuple #[.agg #[.int .i64 see,.slice ro rn rc],.int .i64 0]) (by simp [results,Tryz.results42,go_sem,k0,k1,kz]) rfl ⟨?_,.inr ⟨rfl,ro,rn,rc,rfl,?_⟩⟩
    ·exact set2_alloc HB1.out kz _ _ _
    ·have hne:∀ g,(Value.slice ro rn rc).ownBlock=some g→g≠w.heap.size:=fun g hg e=>by have:=(HO1.out.lt g hg).1;omega
     refine ownsRow_same HO.out (fun g hg=>?_)
     rw [Below.heap_alloc _ _ _ (by simp [World.setCell];exact (HO.out.lt g hg).2),Below.heap_setCell _ _ _ _ (hne g hg),Below.heap_setCell _ _ _ _ (hne g hg)]
end
open Go.RowKit Gv
theorem row_stays {S:Nat→Prop} {w w':World} {D n t size:Nat} {v:Value} {xs:List Value} (hv:w.ownsRow D t size v n xs) (hF:Fr S w w') (hS:∀ i cs fr,S i→w.heap[i]?≠some (.cells cs t fr)):w'.ownsRow D t size v n xs:=by
 refine ownsRow_fr hv hF (fun g hg e=>?_)
 rcases row_form hv with ⟨e',_⟩ | ⟨g',c',e',_,_,⟨cur,hc⟩,_⟩
 ·rw [e'] at hg;simp [Value.ownBlock] at hg
 ·rw [e'] at hg
  simp only [Value.ownBlock,Option.some.injEq] at hg
  subst hg
  exact hS _ _ _ e hc
theorem may_zero {N:Nat} {root see:Int} {rs:List Rule} {cnt:Nat} (h:mayErr N root see rs cnt=0):∃ m:Nat,root=m∧1≤m∧m≤N∧cnt<50:=by
 unfold mayErr at h
 split at h
 ·cases h
 ·rename_i hb
  split at h
  ·rename_i h2;exact absurd h h2
  ·split at h
   ·cases h
   ·rename_i h50
    simp [hasB] at hb
    obtain ⟨m,rfl⟩:=Int.eq_ofNat_of_zero_le (show 0≤root by omega)
    exact ⟨m,rfl,by omega,by omega,by omega⟩
theorem newWalkC (root:Nat) (see:Int) (ro:Option Addr) (rn rc:Nat) (w:World):Calls Tryz.prog 44 #[.int .i64 root,.agg #[.int .i64 see,.slice ro rn rc]] w fun e w'=>e=.returned (.agg #[.int .i64 root,.int .i64 see,.slice ro rn rc,.int .i64 root])∧w'=(w.alloc (.cells #[.int .i64 see,.slice ro rn rc] 81)).alloc (.cells #[.int .i64 root,.int .i64 see,.slice ro rn rc,.int .i64 root] 88):=by
 go_enter Tryz.func44, Tryz.ntmps44
 go_wp2_with fail
 refine bodyPost_ret (v:=.agg #[.int .i64 root,.int .i64 see,.slice ro rn rc,.int .i64 root]) (by simp [results,Tryz.results44,go_sem]) rfl ⟨rfl,rfl⟩
theorem Tryz.info88:(Tryz.prog.info? 88).map (fun i=>(i.zero,i.size,i.bytes))=some (some (.agg #[.int .i64 0,.int .i64 0,.slice none 0 0,.int .i64 0]),4,48):=by kernel_rfl
def Wk.new (root:Nat) (see:Int) (rv:Value):Wk:={ root:=root,see:=see,rules:=rv,here:=root }
def Re.setWv (r:Re) (v:Value):Re:={ r with wv:=v }
theorem walk_end {w w1 w2:World} {B gb nb cap L g ic:Nat} {s:Fo} {kd:Nat→Value} {r:Re} {ws:List Wk} {it:Wk}
  (h:Held w B gb nb cap L s kd r) (hI:Wks w B r.wv ws) (h50:ws.length<50) (hw1:Fr (fun _=>False) w w1)
  (hown:w2.ownsRow B 88 4 (.slice (some ⟨g,0,none⟩) (ws.length+1) ic) (ws.length+1) (ws.flatMap Wk.row++it.row))
  (hgrow:w1.grownBy w2 r.wv.ownBlock) (hat:r.wv.ownBlock=some g∨g=w1.heap.size) :
  Held (w2.setCell ⟨gb,5,none⟩ (.slice (some ⟨g,0,none⟩) (ws.length+1) ic)) B gb nb cap L s kd (r.setWv (.slice (some ⟨g,0,none⟩) (ws.length+1) ic)) ∧
  Wks (w2.setCell ⟨gb,5,none⟩ (.slice (some ⟨g,0,none⟩) (ws.length+1) ic)) B (.slice (some ⟨g,0,none⟩) (ws.length+1) ic) (ws++[it]) ∧
  Fr (fun i=>i=gb∨r.wv.ownBlock=some i) w (w2.setCell ⟨gb,5,none⟩ (.slice (some ⟨g,0,none⟩) (ws.length+1) ic)):=by
 have f2:Fr (fun i=>r.wv.ownBlock=some i) w w2:=(hw1.mono (fun _ h=>h.elim)).trans (Fr.of_grown hgrow (fun k hk=>hk))
 obtain ⟨cur,hn,_⟩:=h.block
 have n1:r.wv.ownBlock≠some gb:=row_apart hI.row h.g (by decide)
 have n2:r.wv.ownBlock≠some nb:=row_apart hI.row hn (by decide)
 have h2:=h.fr f2 n1 n2
 have hne:g≠gb:=by
  rintro rfl
  rcases hat with e | e
  ·exact n1 e
  ·have:=h.ltg;have:=hw1.size;omega
 refine ⟨⟨cells_setCell h2.g,?_,h.hB,h.hL⟩,⟨?_,by simp;omega⟩,?_⟩
 ·exact ownsRow_setCell_other h2.row (by simp [Value.ownBlock];exact fun e=>h.ne e.symm) _
 ·have:=ownsRow_setCell_other hown (a:=⟨gb,5,none⟩) (by simp [Value.ownBlock];exact hne) (.slice (some ⟨g,0,none⟩) (ws.length+1) ic)
  simpa using this
 ·exact (f2.mono (fun i hi=>.inr hi)).setCell (.inl rfl) _
theorem step_walk_append {ops:Array Oper} {o:Oper} {a:Act} {w:World} {K:Act→World→Prop} {Q:Exit→Act→World→Prop} {E:Prop} {A C:Obj} {B n icap:Nat} {iao:Option Addr} {ws:List Wk} {i:Wk}
  (hgd:o.guard=none) (s x:Operand) (ho:o.op=.call { callee:=.builtin .append,args:=#[s,x],argTypes:=#[70,70] })
  (hs:a.eval s=.slice iao n icap) (hx:a.eval x=.slice (some ⟨w.heap.size+1+1,0,none⟩) 1 1) (hrv:i.rules.oneCell'=true)
  (hown:w.ownsRow B 88 4 (.slice iao n icap) n (ws.flatMap Wk.row)) (h50:n<50) (hB:B≤w.heap.size)
  (hK:∀ g cap w',w'.ownsRow B 88 4 (.slice (some ⟨g,0,none⟩) (n+1) cap) (n+1) (ws.flatMap Wk.row++i.row) →
    World.grownBy (((w.alloc A).alloc C).alloc (.cells i.row.toArray 88)).drew w' (Value.slice iao n icap).ownBlock→((Value.slice iao n icap).ownBlock=some g∨g=w.heap.size+1+1+1)→g<w'.heap.size→K (a.put o.dst (.slice (some ⟨g,0,none⟩) (n+1) cap)) w') :
  if Region.wanted o (yielded ops a.tmps)=true then Oper.wp Tryz.prog o a (((w.alloc A).alloc C).alloc (.cells i.row.toArray 88)).drew K Q else E:=by
 obtain ⟨i0,hi,hz0,hz1,hz2⟩:=info_parts Tryz.info88
 refine step_append_lies _ hgd s x 70 ho B 88 i0 _ 4 48 Tryz.underlying70 hi hz0 hz1 hz2 rfl (by decide) (.slice iao n icap) n (ws.flatMap Wk.row) hs (ownsRow_since hown (al3 w A C _)) ⟨w.heap.size+1+1,0,none⟩ 1 1 i.row hx rfl ?_ ?_ (by omega) (by unfold maxLen;omega) (by omega) (by simp;omega) (w.heap.size+1+1+1) (by simp) hK
 ·intro j u hj
  have e:(⟨w.heap.size+1+1,0,none⟩:Addr).add j=⟨w.heap.size+1+1,j,none⟩:=by unfold Addr.add;split <;> simp_all
  rw [e]
  have hb:(((w.alloc A).alloc C).alloc (.cells i.row.toArray 88)).drew.heap[w.heap.size+1+1]?=some (.cells i.row.toArray 88 (0,0)):=by
   have:=heap_alloc_new ((w.alloc A).alloc C) (.cells i.row.toArray 88)
   rw [World.size_alloc,World.size_alloc] at this
   exact this
  rw [cells_of hb j]
  simpa using hj
 ·intro u hu
  simp only [Wk.row,List.mem_cons,List.not_mem_nil,or_false] at hu
  rcases hu with rfl | rfl | rfl | rfl
  ·rfl
  ·rfl
  ·exact hrv
  ·rfl
section
variable {B:Nat} {w:World} {gb nb cap N:Nat} {kk:Nat→Nat} {tg:Nat→ByteArray} {kd:Nat→Value} {mp:Nat→Nat} {σ:St} {r:Re}
theorem iterC (h:Gro B w gb nb cap N kk tg kd mp σ r) (rooti see:Int) (rs:List Rule) (ao:Option Addr) (ac:Nat) (hl:rs.length≤10000000) (hn:RulesIn w ao rs) (hz:ao=none→rs=[]∧ac=0) :
  Calls Tryz.prog 13 #[.pointer (some ⟨gb,0,none⟩),.int .i64 rooti,.int .i64 see,.slice ao rs.length ac] w fun e w' =>
   (mayErr N rooti see rs σ.its.length≠0∧e=.returned (.tuple #[.int .i64 0,.int .i64 (mayErr N rooti see rs σ.its.length)])∧Below w.heap.size w w') ∨
   (mayErr N rooti see rs σ.its.length=0∧∃ (root:Nat) (v rv:Value),rooti=root∧1≤root∧root≤N∧σ.its.length<50∧e=.returned (.tuple #[.int .i64 (σ.its.length+1:Nat),.int .i64 0])∧Gro B w' gb nb cap N kk tg kd mp { σ with its:=σ.its++[It.new root see rv] } (r.setIv v)∧Fr (fun i=>i=gb∨r.iv.ownBlock=some i) w w'∧w'.ownsRow w.heap.size 32 2 rv rs.length (rs.flatMap rrow)∧(∀ g,v.ownBlock=some g→r.iv.ownBlock=some g∨w.heap.size≤g)):=by
 obtain ⟨i0,hi,hz0,hz1,hz2⟩:=info_parts Tryz.info85
 have HG:Hid (Gro B w gb nb cap N kk tg kd mp σ r):=h
 have hBs:B≤w.heap.size:=by have:=h.held.hB;have:=h.held.ltg;omega
 have giv:=h.held.giv
 have hltg:=h.held.ltg
 obtain ⟨iao,icap,hiv⟩:∃ iao icap,r.iv=.slice iao σ.its.length icap:=by
  rcases row_form h.its.row with ⟨hv,hn⟩ | ⟨g,c,hv,_⟩
  ·exact ⟨none,0,by rw [hv,hn]⟩
  ·exact ⟨_,_,hv⟩
 have HV:Hid (r.iv=.slice iao σ.its.length icap):=hiv
 rw [hiv] at giv
 have hfew:=h.its.few
 have HN:Hid (RulesIn w ao rs):=hn
 have HZ:Hid (ao=none→rs=[]∧ac=0):=hz
 clear h hiv hn hz
 go_enter Tryz.func13, Tryz.ntmps13
 go_wp2_with fail
 refine (mayFilterC HG.out.held rooti see rs ao ac σ.its.length hfew hl HN.out HZ.out).mono ?_
 rintro e w1 ⟨hb1,hcase⟩
 rcases hcase with ⟨hq,rfl⟩ | ⟨hq,ro,rn,rc,rfl,ho⟩
 ·have HQ:Hid (mayErr N rooti see rs σ.its.length≠0):=hq
  have HB:Hid (Below w.heap.size w w1):=hb1
  have hq':(mayErr N rooti see rs σ.its.length != 0)=true:=by simp [hq]
  clear hq hb1
  go_wp2_with fail
  go_ret2
  exact .inl ⟨HQ.out,rfl,HB.out.alloc HB.out.size _⟩
 obtain ⟨root,rfl,h1,hN,h50⟩:=may_zero hq
 have HQ:Hid (mayErr N root see rs σ.its.length=0):=hq
 have HO1:Hid (w1.ownsRow w.heap.size 32 2 (.slice ro rn rc) rs.length (rs.flatMap rrow)):=ho
 clear hq ho
 have G1:Hid (Gro B w1 gb nb cap N kk tg kd mp σ r):=HG.out.since hb1
 have B1:Hid (Below w.heap.size w w1):=hb1
 have s1:=hb1.size
 have giv1:w1.cell? ⟨gb,4,none⟩=some (.slice iao σ.its.length icap):=(hb1.cell (p:=⟨gb,4,none⟩) hltg).trans giv
 clear hb1 giv
 go_wp2_with fail
 have hb2:Below w1.heap.size w1 (w1.alloc (.cells #[.int .i64 see,.slice ro rn rc] 81)):=(Below.refl _ _).alloc (Nat.le_refl _) _
 have G2:Hid (Gro B (w1.alloc (.cells #[.int .i64 see,.slice ro rn rc] 81)) gb nb cap N kk tg kd mp σ r):=G1.out.since hb2
 have B2:Hid (Below w.heap.size w (w1.alloc (.cells #[.int .i64 see,.slice ro rn rc] 81))):=B1.out.trans (hb2.mono s1)
 have giv2:(w1.alloc (.cells #[.int .i64 see,.slice ro rn rc] 81)).cell? ⟨gb,4,none⟩=some (.slice iao σ.its.length icap):=(hb2.cell (p:=⟨gb,4,none⟩) (by show gb<_;omega)).trans giv1
 have f0:(w1.alloc (.cells #[.int .i64 see,.slice ro rn rc] 81)).cell? ⟨w1.heap.size,0,none⟩=some (.int .i64 see):=by simp [World.cell?_alloc_at]
 have f1:(w1.alloc (.cells #[.int .i64 see,.slice ro rn rc] 81)).cell? ⟨w1.heap.size,1,none⟩=some (.slice ro rn rc):=by simp [World.cell?_alloc_at]
 have lt2:w1.heap.size<(w1.alloc (.cells #[.int .i64 see,.slice ro rn rc] 81)).heap.size:=by simp
 have HO2:Hid ((w1.alloc (.cells #[.int .i64 see,.slice ro rn rc] 81)).ownsRow w.heap.size 32 2 (.slice ro rn rc) rs.length (rs.flatMap rrow)):=ownsRow_since HO1.out hb2
 have SZ2:Hid (w.heap.size≤(w1.alloc (.cells #[.int .i64 see,.slice ro rn rc] 81)).heap.size):=Nat.le_trans s1 (by simp)
 clear giv1 G1 B1 hb2 HO1
 generalize w1.alloc (.cells #[.int .i64 see,.slice ro rn rc] 81)=w2 at *
 have hz:=G2.out.its.row
 rw [HV.out] at hz
 have HZ:Hid (w2.ownsRow B 85 5 (.slice iao σ.its.length icap) σ.its.length (σ.its.flatMap It.row)):=hz
 have ltg2:gb<w2.heap.size:=G2.out.held.ltg
 clear hz
 have ltg3:gb<w2.heap.size+1:=by omega
 have ltg4:gb<w2.heap.size+1+1:=by omega
 have ltg5:gb<w2.heap.size+1+1+1:=by omega
 have gne:gb≠w2.heap.size+1+1:=by omega
 have hfr2:∀ j,w2.frozen? ⟨gb,j,none⟩=false:=fun j=>G2.out.held.gfree j
 go_region_law (first
  | (refine step_calls rfl 43 _ _ rfl #[.int .i64 root,.agg #[.int .i64 see,.slice ro rn rc]] (by kernel_rfl) _ _ (newIterC root see ro rn rc _) ?_;rintro w3 rfl)
  | (refine step_iter_append (w:=w2) (B:=B) (n:=σ.its.length) (icap:=icap) (iao:=iao) (its:=σ.its) (i:=It.new root see (.slice ro rn rc)) rfl (.tmp 32) (.tmp 36) rfl (by simp [Act.eval]) (by simp [Act.eval]) rfl HZ.out h50 (by omega) ?_
     intro g ic w3 hown3 hgrow3 hat3 hlt3
     have RR:=iter_end G2.out.held (G2.out.its) h50 (Fr.of_below (al3 w2 _ _ _)) (by exact hown3) (by rw [HV.out];exact hgrow3) (by rw [HV.out];exact hat3.imp id (fun e=>by simpa using e))
     have q0:w3.heap[gb]?=w2.heap[gb]?:=(hgrow3.block gb (by simp;omega) (by intro e;exact row_apart G2.out.its.row G2.out.held.g (by decide) (by rw [HV.out];exact e.symm))).trans ((al3 w2 _ _ _).block gb ltg2)
     have q1:w3.cell? ⟨gb,4,none⟩=some (.slice iao σ.its.length icap):=(cell_same q0 4).trans giv2
     have q2:w3.frozen? ⟨gb,4,none⟩=false:=(frozen_same q0 4).trans (hfr2 4)
     have R3:Hid _:=RR
     have AT:Hid (r.iv.ownBlock=some g∨w.heap.size≤g):=by
      rw [HV.out]
      rcases hat3 with e | e
      ·exact .inl e
      ·exact .inr (by have:=SZ2.out;omega)
     clear RR q0 hown3 hgrow3 hat3 hlt3))
 all_goals
  go_wp2_with fail
  go_ret2
  have hsub:∀ i,(i=gb∨r.iv.ownBlock=some i)→gset gb nb r.iv i:=fun i hi=>hi.imp id .inr
  refine .inr ⟨HQ.out,root,.slice (some ⟨g,0,none⟩) (σ.its.length+1) ic,.slice ro rn rc,rfl,h1,hN,h50,rfl,⟨R3.out.1,HG.out.wf,HG.out.kinds,R3.out.2.1,fun it hit=>?_,fun i i1 iN i2=>(G2.out.els i i1 iN i2).fr R3.out.2.2 (fun i cs fr hi=>G2.out.noEl i cs fr (hsub i hi))⟩,(Fr.of_below B2.out).trans R3.out.2.2,row_stays HO2.out R3.out.2.2 (fun i cs fr hi e=>?_),fun g' hg'=>by simp only [Value.ownBlock,Option.some.injEq] at hg';subst hg';exact AT.out⟩
  rotate_left
  ·rcases hi with rfl | hi
   ·rw [G2.out.held.g] at e;simp at e
   ·exact row_apart G2.out.its.row e (by decide) hi
  rcases List.mem_append.1 hit with hit | hit
  ·exact HG.out.sound it hit
  ·simp at hit
   subst hit
   exact ⟨h1,hN,h1,hN,Desc.refl _ _⟩
theorem walkerC (h:Gro B w gb nb cap N kk tg kd mp σ r) {ws:List Wk} (hws:Wks w B r.wv ws) (rooti see:Int) (rs:List Rule) (ao:Option Addr) (ac:Nat) (hl:rs.length≤10000000) (hn:RulesIn w ao rs) (hz:ao=none→rs=[]∧ac=0) :
  Calls Tryz.prog 14 #[.pointer (some ⟨gb,0,none⟩),.int .i64 rooti,.int .i64 see,.slice ao rs.length ac] w fun e w' =>
   (mayErr N rooti see rs ws.length≠0∧e=.returned (.tuple #[.int .i64 0,.int .i64 (mayErr N rooti see rs ws.length)])∧Below w.heap.size w w') ∨
   (mayErr N rooti see rs ws.length=0∧∃ (root:Nat) (v rv:Value),rooti=root∧1≤root∧root≤N∧ws.length<50∧e=.returned (.tuple #[.int .i64 (ws.length+1:Nat),.int .i64 0])∧Gro B w' gb nb cap N kk tg kd mp σ (r.setWv v)∧Wks w' B v (ws++[Wk.new root see rv])∧Fr (fun i=>i=gb∨r.wv.ownBlock=some i) w w'∧w'.ownsRow w.heap.size 32 2 rv rs.length (rs.flatMap rrow)∧(∀ g,v.ownBlock=some g→r.wv.ownBlock=some g∨w.heap.size≤g)):=by
 obtain ⟨i0,hi,hz0,hz1,hz2⟩:=info_parts Tryz.info88
 have HG:Hid (Gro B w gb nb cap N kk tg kd mp σ r):=h
 have HWs:Hid (Wks w B r.wv ws):=hws
 have hBs:B≤w.heap.size:=by have:=h.held.hB;have:=h.held.ltg;omega
 have gwv:=h.held.gwv
 have hltg:=h.held.ltg
 obtain ⟨iao,icap,hwv⟩:∃ iao icap,r.wv=.slice iao ws.length icap:=by
  rcases row_form hws.row with ⟨hv,hn⟩ | ⟨g,c,hv,_⟩
  ·exact ⟨none,0,by rw [hv,hn]⟩
  ·exact ⟨_,_,hv⟩
 have HV:Hid (r.wv=.slice iao ws.length icap):=hwv
 rw [hwv] at gwv
 have hfew:=hws.few
 have HN:Hid (RulesIn w ao rs):=hn
 have HZ:Hid (ao=none→rs=[]∧ac=0):=hz
 clear h hwv hws hn hz
 go_enter Tryz.func14, Tryz.ntmps14
 go_wp2_with fail
 refine (mayFilterC HG.out.held rooti see rs ao ac ws.length hfew hl HN.out HZ.out).mono ?_
 rintro e w1 ⟨hb1,hcase⟩
 rcases hcase with ⟨hq,rfl⟩ | ⟨hq,ro,rn,rc,rfl,ho⟩
 ·have HQ:Hid (mayErr N rooti see rs ws.length≠0):=hq
  have HB:Hid (Below w.heap.size w w1):=hb1
  have hq':(mayErr N rooti see rs ws.length != 0)=true:=by simp [hq]
  clear hq hb1
  go_wp2_with fail
  go_ret2
  exact .inl ⟨HQ.out,rfl,HB.out.alloc HB.out.size _⟩
 obtain ⟨root,rfl,h1,hN,h50⟩:=may_zero hq
 have HQ:Hid (mayErr N root see rs ws.length=0):=hq
 have HO1:Hid (w1.ownsRow w.heap.size 32 2 (.slice ro rn rc) rs.length (rs.flatMap rrow)):=ho
 clear hq ho
 have G1:Hid (Gro B w1 gb nb cap N kk tg kd mp σ r):=HG.out.since hb1
 have W1:Hid (Wks w1 B r.wv ws):=HWs.out.since hb1
 have B1:Hid (Below w.heap.size w w1):=hb1
 have s1:=hb1.size
 have gwv1:w1.cell? ⟨gb,5,none⟩=some (.slice iao ws.length icap):=(hb1.cell (p:=⟨gb,5,none⟩) hltg).trans gwv
 clear hb1 gwv
 go_wp2_with fail
 have hb2:Below w1.heap.size w1 (w1.alloc (.cells #[.int .i64 see,.slice ro rn rc] 81)):=(Below.refl _ _).alloc (Nat.le_refl _) _
 have G2:Hid (Gro B (w1.alloc (.cells #[.int .i64 see,.slice ro rn rc] 81)) gb nb cap N kk tg kd mp σ r):=G1.out.since hb2
 have W2:Hid (Wks (w1.alloc (.cells #[.int .i64 see,.slice ro rn rc] 81)) B r.wv ws):=W1.out.since hb2
 have B2:Hid (Below w.heap.size w (w1.alloc (.cells #[.int .i64 see,.slice ro rn rc] 81))):=B1.out.trans (hb2.mono s1)
 have gwv2:(w1.alloc (.cells #[.int .i64 see,.slice ro rn rc] 81)).cell? ⟨gb,5,none⟩=some (.slice iao ws.length icap):=(hb2.cell (p:=⟨gb,5,none⟩) (by show gb<_;omega)).trans gwv1
 have f0:(w1.alloc (.cells #[.int .i64 see,.slice ro rn rc] 81)).cell? ⟨w1.heap.size,0,none⟩=some (.int .i64 see):=by simp [World.cell?_alloc_at]
 have f1:(w1.alloc (.cells #[.int .i64 see,.slice ro rn rc] 81)).cell? ⟨w1.heap.size,1,none⟩=some (.slice ro rn rc):=by simp [World.cell?_alloc_at]
 have lt2:w1.heap.size<(w1.alloc (.cells #[.int .i64 see,.slice ro rn rc] 81)).heap.size:=by simp
 have HO2:Hid ((w1.alloc (.cells #[.int .i64 see,.slice ro rn rc] 81)).ownsRow w.heap.size 32 2 (.slice ro rn rc) rs.length (rs.flatMap rrow)):=ownsRow_since HO1.out hb2
 have SZ2:Hid (w.heap.size≤(w1.alloc (.cells #[.int .i64 see,.slice ro rn rc] 81)).heap.size):=Nat.le_trans s1 (by simp)
 clear gwv1 G1 B1 hb2 W1 HO1
 generalize w1.alloc (.cells #[.int .i64 see,.slice ro rn rc] 81)=w2 at *
 have hz:=W2.out.row
 rw [HV.out] at hz
 have HZ:Hid (w2.ownsRow B 88 4 (.slice iao ws.length icap) ws.length (ws.flatMap Wk.row)):=hz
 have ltg2:gb<w2.heap.size:=G2.out.held.ltg
 clear hz
 have ltg3:gb<w2.heap.size+1:=by omega
 have ltg4:gb<w2.heap.size+1+1:=by omega
 have ltg5:gb<w2.heap.size+1+1+1:=by omega
 have gne:gb≠w2.heap.size+1+1:=by omega
 have hfr2:∀ j,w2.frozen? ⟨gb,j,none⟩=false:=fun j=>G2.out.held.gfree j
 go_region_law (first
  | (refine step_calls rfl 44 _ _ rfl #[.int .i64 root,.agg #[.int .i64 see,.slice ro rn rc]] (by kernel_rfl) _ _ (newWalkC root see ro rn rc _) ?_;rintro w3 rfl)
  | (refine step_walk_append (w:=w2) (B:=B) (n:=ws.length) (icap:=icap) (iao:=iao) (ws:=ws) (i:=Wk.new root see (.slice ro rn rc)) rfl (.tmp 32) (.tmp 36) rfl (by simp [Act.eval]) (by simp [Act.eval]) rfl HZ.out h50 (by omega) ?_
     intro g ic w3 hown3 hgrow3 hat3 hlt3
     have RR:=walk_end G2.out.held W2.out h50 (Fr.of_below (al3 w2 _ _ _)) (by exact hown3) (by rw [HV.out];exact hgrow3) (by rw [HV.out];exact hat3.imp id (fun e=>by simpa using e))
     have q0:w3.heap[gb]?=w2.heap[gb]?:=(hgrow3.block gb (by simp;omega) (by intro e;exact row_apart W2.out.row G2.out.held.g (by decide) (by rw [HV.out];exact e.symm))).trans ((al3 w2 _ _ _).block gb ltg2)
     have q1:w3.cell? ⟨gb,5,none⟩=some (.slice iao ws.length icap):=(cell_same q0 5).trans gwv2
     have q2:w3.frozen? ⟨gb,5,none⟩=false:=(frozen_same q0 5).trans (hfr2 5)
     have R3:Hid _:=RR
     have AT:Hid (r.wv.ownBlock=some g∨w.heap.size≤g):=by
      rw [HV.out]
      rcases hat3 with e | e
      ·exact .inl e
      ·exact .inr (by have:=SZ2.out;omega)
     clear RR q0 hown3 hgrow3 hat3 hlt3))
 all_goals
  go_wp2_with fail
  go_ret2
  have hiv:∀ i,(i=gb∨r.wv.ownBlock=some i)→∀ cs fr,w2.heap[i]?≠some (.cells cs 189 fr):=by
   rintro i (hi | hi) cs fr e
   ·exact G2.out.held.noEl i cs fr (.inl hi) e
   ·exact row_apart W2.out.row e (by decide) hi
  have hits:Its (w3.setCell ⟨gb,5,none⟩ (.slice (some ⟨g,0,none⟩) (ws.length+1) ic)) B r.iv σ.its:=G2.out.its.fr R3.out.2.2 (by
   rintro g' hg' (e | e)
   ·exact row_apart G2.out.its.row G2.out.held.g (by decide) (e ▸ hg')
   ·rcases W2.out.row.2 with ⟨h',_⟩ | ⟨g2,cap2,cur2,h',_,hg2,_⟩
    ·rw [h'] at e;simp [Value.ownBlock] at e
    ·rw [h'] at e
     simp [Value.ownBlock] at e
     subst e
     exact row_apart G2.out.its.row hg2 (by decide) hg')
  refine .inr ⟨HQ.out,root,.slice (some ⟨g,0,none⟩) (ws.length+1) ic,.slice ro rn rc,rfl,h1,hN,h50,rfl,⟨R3.out.1,HG.out.wf,HG.out.kinds,hits,HG.out.sound,fun i i1 iN i2=>(G2.out.els i i1 iN i2).fr R3.out.2.2 (fun i cs fr hi=>hiv i hi cs fr)⟩,R3.out.2.1,(Fr.of_below B2.out).trans R3.out.2.2,row_stays HO2.out R3.out.2.2 (fun i cs fr hi e=>?_),fun g' hg'=>by simp only [Value.ownBlock,Option.some.injEq] at hg';subst hg';exact AT.out⟩
  rcases hi with rfl | hi
  ·rw [G2.out.held.g] at e;simp at e
  ·exact row_apart W2.out.row e (by decide) hi
end
end Go.Proofs.YtcedebpoihcbdaaGreatDoor
