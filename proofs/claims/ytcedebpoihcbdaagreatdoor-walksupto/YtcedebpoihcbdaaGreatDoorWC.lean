/-
  What the law's own helpers do: pick, at, within.
  What New, Make and what they call do.
  What the law's 'tag' and 'made' do: a grove of so many nodes, none of which stands anywhere, the first an element, none a root.
  Put where no node is a root and the mark is a kid of the parent, or none; and where there are no iterators.
-/
import Derived.Test.YtcedebpoihcbdaaGreatDoorXA
import Derived.Deep.AppendLies
import Derived.OpenShut
set_option maxHeartbeats 4000000
set_option maxRecDepth 100000
namespace Go.Proofs.YtcedebpoihcbdaaGreatDoor
open Go.RowKit Gv
def pickF (c:Int) (n:Nat):Nat:=(if c<0 then -(c+1) else c).toNat % n
theorem pickF_lt (c:Int) {n:Nat} (h:1≤n):pickF c n<n:=Nat.mod_lt _ h
theorem pickX (c:Int) (n:Nat) (w:World) (h1:1≤n) (h2:n≤1000) (hlo:-9223372036854775808≤c) (hhi:c≤9223372036854775807) :
  Calls Tryz.prog 9 #[.int .i64 c,.int .i64 n] w fun e w'=>e=.returned (.int .i64 (pickF c n:Nat))∧w'=w:=by
 have hn0:((n:Int) == 0)=false:=by simp;omega
 by_cases hc:c<0
 ·go_enter Tryz.func9, Tryz.ntmps9
  go_wp2
  go_ret
  have e0:-((c+1).tmod (n:Int))=-(c+1) % (n:Int):=by rw [← Int.neg_tmod,Int.tmod_eq_emod_of_nonneg (by omega)]
  refine ⟨ret_int ?_,rfl⟩
  rw [e0]
  unfold pickF
  rw [if_pos hc,Int.natCast_emod,Int.toNat_of_nonneg (by omega)]
 ·have hc':0≤c:=by omega
  go_enter Tryz.func9, Tryz.ntmps9
  go_wp2
  go_ret
  refine ⟨ret_int ?_,rfl⟩
  unfold pickF
  rw [if_neg (by omega),Int.natCast_emod,Int.toNat_of_nonneg (by omega)]
theorem pickL (c:Int) (n:Nat) (w:World) (h1:1≤n) (h2:n≤1000) (hlo:-9223372036854775808≤c) (hhi:c≤9223372036854775807) :
  Calls Tryz.prog 9 #[.int .i64 c,.int .i64 n] w fun e w'=>∃ r:Nat,r<n∧e=.returned (.int .i64 r)∧w'=w :=
 (pickX c n w h1 h2 hlo hhi).mono fun _ _ ⟨h,h'⟩=>⟨pickF c n,pickF_lt c h1,h,h'⟩
def Nums (w:World) (ao:Option Addr) (n:Nat) (l:List Nat):Prop :=
 n=0∨∃ g,ao=some ⟨g,0,none⟩∧g<w.heap.size∧∀ i,i<n→w.cell? ⟨g,i,none⟩=some (.int .i64 (l.getD i 0:Nat))
theorem nums_of {w:World} {D n:Nat} {v:Value} {l:List Nat} (h:w.ownsRow D 3 1 v n (ints l)) :
  n=l.length∧∃ ao cap,v=.slice ao n cap∧n≤cap∧Nums w ao n l:=by
 obtain ⟨h1,ao,cap,h2,h3,h4⟩:=ints_shape h
 refine ⟨h1,ao,cap,h2,h3,?_⟩
 rcases h4 with h4 | ⟨g,a,_,b,c⟩
 ·exact .inl h4
 ·exact .inr ⟨g,a,b,c⟩
theorem ints_cells {w:World} {g n:Nat} {l:List Nat} (hc:∀ i,i<n→w.cell? ⟨g,i,none⟩=some (.int .i64 (l.getD i 0:Nat))) (hn:n=l.length):∀ j u,(ints l)[j]?=some u→w.cell? ((⟨g,0,none⟩:Addr).add j)=some u:=by
 intro j u hj
 simp only [ints,List.getElem?_map] at hj
 by_cases hjl:j<l.length
 ·have e:(⟨g,0,none⟩:Addr).add j=⟨g,j,none⟩:=by unfold Addr.add;split <;> simp_all
  rw [e,hc j (by omega)]
  rw [List.getElem?_eq_getElem hjl] at hj
  rw [List.getD_eq_getElem?_getD,List.getElem?_eq_getElem hjl]
  simpa using hj
 ·rw [List.getElem?_eq_none (by omega)] at hj
  simp at hj
theorem ints_one (l:List Nat):∀ u∈ints l,u.oneCell'=true:=by
 intro u hu
 simp only [ints,List.mem_map] at hu
 obtain ⟨k,_,rfl⟩:=hu
 rfl
section
variable {B gb nb cap N:Nat} {s:Fo} {kd:Nat→Value} {K:Nat→List Nat} {r:Re}
def WithinSays (B gb nb cap N:Nat) (s:Fo) (kd:Nat→Value) (r:Re) (K:Nat→List Nat) (f:Nat):Prop :=
 ∀ (w:World) (n most:Nat),Held w B gb nb cap (N+1) s kd r→1≤n→n≤N→most≤f+1→most≤1000 →
  Calls Tryz.prog 24 #[.pointer (some ⟨gb,0,none⟩),.int .i64 n,.int .i64 most] w fun e w'=>∃ v,e=.returned v∧w'.ownsRow w.heap.size 3 1 v (wi K (f+1) n most).length (ints (wi K (f+1) n most))∧Below w.heap.size w w'
theorem withinStep (hwf:WF N s K) (f:Nat) (ih:∀ f',f=f'+1→WithinSays B gb nb cap N s kd r K f'):WithinSays B gb nb cap N s kd r K f:=by
 intro w n most h h1 hn hm hmm
 have HW:Hid (WF N s K):=hwf
 have HI:Hid (∀ f',f=f'+1→WithinSays B gb nb cap N s kd r K f'):=ih
 have hfew:(K n).length≤N:=hwf.few n
 obtain ⟨i0,hi,hz0,hz1,hz2⟩:=info_parts Tryz.info3
 have HH:Hid (Held w B gb nb cap (N+1) s kd r):=h
 have hL:=h.hL
 clear hwf ih h
 go_enter Tryz.func24, Tryz.ntmps24
 go_wp2_with fail
 refine (kidsG (HH.out.alloc _) HW.out n h1 hn).mono ?_
 rintro e w1 ⟨kv,rfl,hkown,hkbel⟩
 have hl0:w1.ownsRow w.heap.size 3 1 (.slice (some ⟨w.heap.size,0,none⟩) 1 1) 1 (ints [n]):=by
  have:=(World.ownsRow_lit (e:=3) (size:=1) (base:=w.heap.size) w #[.int .i64 (n:Int)] 1 (Nat.le_refl _) (by decide) rfl)
  exact this.kept (below_grownBy hkbel none) (by simp [Value.ownBlock])
 have hb0:Below w.heap.size w w1:=((Below.refl _ _).alloc (Nat.le_refl _) _).trans (hkbel.mono (by simp))
 obtain ⟨_,kao,kcap,hkv,hkc,hkn⟩:=nums_of hkown
 have hkne:kv.ownBlock≠some w.heap.size:=by
  intro e
  have:=(hkown.lt _ e).1
  simp at this
  omega
 subst hkv
 have HK0:Hid (w1.ownsRow w.heap.size 3 1 (.slice kao (K n).length kcap) (K n).length (ints (K n))):=by
  refine ⟨hkown.1,?_⟩
  rcases hkown.2 with h | ⟨g,c,cur,a,b,r⟩
  ·exact .inl h
  ·exact .inr ⟨g,c,cur,a,by simp at b;omega,r⟩
 have HL0:Hid _:=hl0
 have HB0:Hid _:=hb0
 have HKN:Hid _:=hkne
 clear hkown hkbel hl0 hb0 hkn hkne
 go_wp2_with fail
 go_loopw [7,10] (fun v i wr=>∃ (k g vc:Nat),k≤(K n).length∧i=.int .i64 k∧v=.slice (some ⟨g,0,none⟩) (wiTo K f n most k).length vc∧wr.ownsRow w.heap.size 3 1 v (wiTo K f n most k).length (ints (wiTo K f n most k))∧Below w.heap.size w wr ∧
   wr.ownsRow w.heap.size 3 1 (.slice kao (K n).length kcap) (K n).length (ints (K n))∧(Value.slice kao (K n).length kcap).ownBlock≠some g) (fun _ i _=>(K n).length-(intOf i).toNat)
 case atStart=>exact ⟨0,w.heap.size,1,Nat.zero_le _,rfl,by rw [wiTo_zero];rfl,by rw [wiTo_zero];exact HL0.out,HB0.out,HK0.out,HKN.out⟩
 case round =>
  obtain ⟨k,g,vc,hk,rfl,rfl,hown,hbel,hkown,hkne⟩:=hrel
  have hTl:=wiTo_len K f n most k
  have HT:Hid (k<(K n).length→wiTo K f n most (k+1)=if (wiTo K f n most k).length<most then wiTo K f n most k++wi K f ((K n).getD k 0) (most-(wiTo K f n most k).length) else wiTo K f n most k):=wiTo_succ K f n most k
  have HF:Hid (most≤(wiTo K f n most k).length→wi K (f+1) n most=wiTo K f n most k):=wiTo_full K f n most k
  have HA:Hid (k=(K n).length→wi K (f+1) n most=wiTo K f n most k):=by rintro rfl;exact (wiTo_all K f n most).symm
  generalize wiTo K f n most k=T at *
  by_cases hkl:k<(K n).length
  ·by_cases hTm:T.length<most
   ·obtain ⟨f',rfl⟩:∃ f',f=f'+1:=⟨f-1,by omega⟩
    obtain ⟨_,kao',kcap',hkv',_,hkN⟩:=nums_of hkown
    simp only [Value.slice.injEq,true_and] at hkv'
    obtain ⟨rfl,rfl⟩:=hkv'
    rcases hkN with h0 | ⟨kg,rfl,hkgs,hkc'⟩
    ·omega
    have hcell:=hkc' k hkl
    have hmem:(K n).getD k 0∈K n:=by rw [List.getD_eq_getElem?_getD,List.getElem?_eq_getElem hkl];exact List.getElem_mem _
    have hyk:=HW.out.kid n _ hmem
    have hN:=HH.out.since hbel
    have HO:Hid _:=hown
    have HKO:Hid _:=hkown
    have HKN':Hid _:=hkne
    have HB:Hid (Below w.heap.size w wr):=hbel
    have HHr:Hid (Held wr B gb nb cap (N+1) s kd r):=hN
    clear hown hkown hkne hbel hN hkc' hmem
    generalize (K n).getD k 0=y at *
    have hyp:1≤y∧y≤N:=⟨hyk.2.2.1,hyk.2.2.2.1⟩
    clear hyk
    have hsub:((most:Int)-(T.length:Int))=((most-T.length:Nat):Int):=by omega
    have HS:Hid (((most:Int)-(T.length:Int))=((most-T.length:Nat):Int)):=hsub
    clear hsub
    go_wp2_with fail
    rw [HS.out]
    refine (HI.out f' rfl wr y (most-T.length) HHr.out hyp.1 hyp.2 (by omega) (by omega)).mono ?_
    rintro e w2 ⟨v2,rfl,hown2,hbel2⟩
    have hRl:=wi_len K (f'+1) y (most-T.length)
    obtain ⟨_,ao2,cap2,hv2,_,hN2⟩:=nums_of hown2
    have HT2:Hid (wiTo K (f'+1) n most (k+1)=T++wi K (f'+1) y (most-T.length)):=by
     show wiTo K (f'+1) n most (k+1)=_
     rw [HT.out hkl,if_pos hTm]
    clear HT HF HA HI HK0 HL0 HB0 HKN
    generalize wi K (f'+1) y (most-T.length)=R at *
    have hT2:w2.ownsRow w.heap.size 3 1 (.slice (some ⟨g,0,none⟩) T.length vc) T.length (ints T):=World.ownsRow.kept HO.out (below_grownBy hbel2 none) (by simp [Value.ownBlock])
    have hK2:w2.ownsRow w.heap.size 3 1 (.slice (some ⟨kg,0,none⟩) (K n).length kcap) (K n).length (ints (K n)):=World.ownsRow.kept HKO.out (below_grownBy hbel2 none) (by simp [Value.ownBlock])
    have hB2:Below w.heap.size w w2:=HB.out.trans (hbel2.mono HB.out.size)
    rcases hN2 with h0 | ⟨g2,hg2,hg2s,hc2⟩
    ·omega
    rw [hg2] at hv2
    rw [hv2]
    have HC2:=ints_cells hc2 rfl
    have HHC:Hid _:=HC2
    have HHT:Hid (w2.ownsRow w.heap.size 3 1 (.slice (some ⟨g,0,none⟩) T.length vc) T.length (ints T)):=hT2
    have HHK:Hid (w2.ownsRow w.heap.size 3 1 (.slice (some ⟨kg,0,none⟩) (K n).length kcap) (K n).length (ints (K n))):=hK2
    have HHB:Hid (Below w.heap.size w w2):=hB2
    clear hT2 hK2 hB2 HC2 hc2 hown2 hbel2 hv2 hg2 HO HKO HB
    go_wp2_with (at_builtin;refine wpList_append_lies _ rfl _ _ 25 rfl w.heap.size 3 i0 (.int .i64 0) 1 8 Tryz.underlying25 hi hz0 hz1 hz2 rfl (by decide) _ _ _ rfl HHT.out ⟨g2,0,none⟩ R.length cap2 (ints R) rfl ?c0 ?c1 ?c2 ?cm ?c3 ?c4 ?c5 _ rfl ?_)
    case c0=>simp [ints]
    case c1=>exact HHC.out
    case c2=>exact ints_one R
    case cm=>omega
    case c3=>unfold maxLen;omega
    case c4=>omega
    case c5=>exact HHB.out.size
    intro g3 cap3 w3 hown3 hgrow3 hat3 hlt3
    have hK3:w3.ownsRow w.heap.size 3 1 (.slice (some ⟨kg,0,none⟩) (K n).length kcap) (K n).length (ints (K n)):=World.ownsRow.kept HHK.out hgrow3 (.inr HKN'.out)
    have hne3:(Value.slice (some ⟨kg,0,none⟩) (K n).length kcap).ownBlock≠some g3:=by
     intro e
     rcases hat3 with h | h
     ·exact HKN'.out (by rw [e,← h];rfl)
     ·have:=(World.ownsRow.lt HHK.out g3 e).2
      omega
    have hB3:Below w.heap.size w w3:=HHB.out.grown hgrow3 HHB.out.size (fun q hq=>(World.ownsRow.lt HHT.out q hq).1)
    have hO3:w3.ownsRow w.heap.size 3 1 (.slice (some ⟨g3,0,none⟩) (T++R).length cap3) (T++R).length (ints (T++R)):=by
     rw [List.length_append]
     have e:ints (T++R)=ints T++ints R:=by simp [ints]
     rw [e];exact hown3
    have W1:Hid _:=hK3
    have W2:Hid _:=hne3
    have W3:Hid (Below w.heap.size w w3):=hB3
    have W4:Hid (w3.ownsRow w.heap.size 3 1 (.slice (some ⟨g3,0,none⟩) (T++R).length cap3) (T++R).length (ints (T++R))):=hO3
    clear hK3 hne3 hB3 hO3 hown3 hgrow3 hat3
    go_wp2_with fail
    go_roundw
    case rel=>exact ⟨k+1,g3,cap3,by omega,by go_num,by rw [HT2.out,List.length_append],by rw [HT2.out,← List.length_append];exact W4.out,W3.out,W1.out,W2.out⟩
    case measure=>simp [intOf];omega
   ·have e:=HF.out (by omega)
    have HE:Hid (wi K (f+1) n most=T):=e
    clear e HF HA HT
    have HO:Hid _:=hown
    have HB:Hid (Below w.heap.size w wr):=hbel
    clear hown hbel hkown hkne
    go_wp2_with fail
    go_ret
    rw [HE.out]
    exact ⟨_,rfl,HO.out,HB.out⟩
  ·have e:=HA.out (by omega)
   have HE:Hid (wi K (f+1) n most=T):=e
   clear e HF HA HT
   have HO:Hid _:=hown
   have HB:Hid (Below w.heap.size w wr):=hbel
   clear hown hbel hkown hkne
   go_wp2_with fail
   go_ret
   rw [HE.out]
   exact ⟨_,rfl,HO.out,HB.out⟩
theorem withinL (hwf:WF N s K) (f:Nat):WithinSays B gb nb cap N s kd r K f:=by
 induction f with
 | zero=>exact withinStep hwf 0 (fun f' h=>by omega)
 | succ f ih=>exact withinStep hwf (f+1) (fun f' h=>(show f=f' by omega) ▸ ih)
end
open Go.RowKit Gv
theorem Tryz.info133:(Tryz.prog.info? 133).map (fun i=>(i.zero,i.size,i.bytes))=some (some (.agg #[.int .i64 0,.int .i64 0,.int .i64 0,.int .i64 0,.int .i64 0,.nilIface]),6,56):=by kernel_rfl
def zeroF:Fo:={ par:=fun _=>0,ahd:=fun _=>0,bhd:=fun _=>0,fst:=fun _=>0,lst:=fun _=>0 }
def noKind:Nat→Value:=fun _=>.nilIface
theorem make1 (w:World):(Instr.makeSlice 63 (.int .i64 1) (.int .i64 1)).run Tryz.prog w=.ok (.slice (some ⟨w.heap.size,0,none⟩) 1 1) (w.alloc (.cells #[.int .i64 0,.int .i64 0,.int .i64 0,.int .i64 0,.int .i64 0,.nilIface] 133)):=by
 obtain ⟨i0,hi,hz0,hz1,hz2⟩:=info_parts Tryz.info133
 have h:=run_make (P:=Tryz.prog) w 63 133 i0 _ Tryz.underlying63 hi hz0 .i64 .i64 1 1 (by decide) (by decide) (by rw [hz2];decide) (by decide)
 rw [hz1,show madeCells (Value.agg #[.int .i64 0,.int .i64 0,.int .i64 0,.int .i64 0,.int .i64 0,.nilIface]).cells (Int.toNat 1*6)=#[.int .i64 0,.int .i64 0,.int .i64 0,.int .i64 0,.int .i64 0,.nilIface] from by kernel_rfl] at h
 exact h
theorem newForest (w:World):Calls Tryz.prog 67 #[] w fun e w'=>e=.returned (.agg #[.slice (some ⟨w.heap.size+1,0,none⟩) 1 1,.int .i64 0,.int .i64 0])∧w'.ownsRow w.heap.size 133 6 (.slice (some ⟨w.heap.size+1,0,none⟩) 1 1) 1 (cellsF 1 zeroF noKind)∧Below w.heap.size w w':=by
 have hmk:=make1
 go_enter Tryz.func67, Tryz.ntmps67
 go_wp2
 have h1:=World.ownsRow_lit (e:=133) (size:=6) (base:=w.heap.size) (w.alloc (.cells #[.slice (some ⟨w.heap.size+1,0,none⟩) 1 1,.int .i64 0,.int .i64 0] 67)) #[.int .i64 0,.int .i64 0,.int .i64 0,.int .i64 0,.int .i64 0,.nilIface] 1 (by simp) (by decide) rfl
 have h2:Below w.heap.size w ((w.alloc (.cells #[.slice (some ⟨w.heap.size+1,0,none⟩) 1 1,.int .i64 0,.int .i64 0] 67)).alloc (.cells #[.int .i64 0,.int .i64 0,.int .i64 0,.int .i64 0,.int .i64 0,.nilIface] 133)):=((Below.refl _ _).alloc (Nat.le_refl _) _).alloc (by simp) _
 rw [World.size_alloc] at h1
 exact bodyPost_ret (v:=.agg #[.slice (some ⟨w.heap.size+1,0,none⟩) 1 1,.int .i64 0,.int .i64 0]) (by simp [results,Tryz.results67,go_sem]) rfl ⟨rfl,h1,h2⟩
def re0:Re:={ pl:=0,cl:=0,lv:=.slice none 0 0,iv:=.slice none 0 0,wv:=.slice none 0 0 }
theorem newG (w:World):Calls Tryz.prog 32 #[] w fun e w'=>∃ gb nb,e=.returned (.pointer (some ⟨gb,0,none⟩))∧Held w' w.heap.size gb nb 1 1 zeroF noKind re0∧Below w.heap.size w w':=by
 go_enter Tryz.func32, Tryz.ntmps32
 go_wp2_with fail
 refine (newForest w).mono ?_
 rintro e w1 ⟨rfl,hown,hbel⟩
 have hlt:=hbel.size
 have HO:Hid _:=hown
 have HB:Hid (Below w.heap.size w w1):=hbel
 clear hown hbel
 go_wp2_with fail
 go_ret
 have h1:(w1.alloc (.cells #[.slice (some ⟨w.heap.size+1,0,none⟩) 1 1,.int .i64 0,.int .i64 0,.slice none 0 0,.slice none 0 0,.slice none 0 0] 72)).ownsRow w.heap.size 133 6 (.slice (some ⟨w.heap.size+1,0,none⟩) 1 1) 1 (cellsF 1 zeroF noKind):=World.ownsRow.alloc HO.out _
 exact ⟨w1.heap.size,w.heap.size+1,rfl,⟨heap_alloc_new w1 _,h1,hlt,by omega⟩,HB.out.alloc hlt _⟩
def okB (c:UInt8):Bool:=97≤c && c≤122
def nameB (l:List UInt8):Bool:=decide (1≤l.length∧l.length≤8) && l.all okB
theorem ret_bool {a b:Bool} (h:a=b):Ending.returned (.bool a)=.returned (.bool b):=by rw [h]
theorem take_snoc (s:ByteArray) (k:Nat) (h:k<s.size):s.data.toList.take (k+1)=s.data.toList.take k++[s[k]]:=by
 rw [List.take_succ_eq_append_getElem (by simpa using h)];rfl
theorem okB_yes {c:UInt8} (h1:(97:Int)≤(c.toNat:Int)) (h2:(c.toNat:Int)≤122):okB c=true:=by
 simp [okB,UInt8.le_iff_toNat_le];omega
theorem okB_no {c:UInt8} (h:(c.toNat:Int)<97∨(122:Int)<(c.toNat:Int)):okB c=false:=by
 simp [okB,UInt8.le_iff_toNat_le];omega
theorem all_snoc (l:List UInt8) (c:UInt8):(l++[c]).all okB=(l.all okB && okB c):=by simp
theorem all_take_false {l:List UInt8} {k:Nat} (h:(l.take k).all okB=false):l.all okB=false:=by
 rw [← List.take_append_drop k l,List.all_append,h];rfl
theorem isName (s:ByteArray) (w:World) (hs:s.size≤maxLen) :
  Calls Tryz.prog 79 #[.string s] w fun e w'=>e=.returned (.bool (nameB s.data.toList))∧w'=w:=by
 unfold maxLen at hs
 have hlen:s.data.toList.length=s.size:=by simp
 by_cases h1:1≤s.size
 ·by_cases h8:s.size≤8
  ·have HN:Hid (nameB s.data.toList=s.data.toList.all okB):=by
    show nameB s.data.toList=_
    unfold nameB
    rw [hlen]
    simp [h1,h8]
   clear hlen
   have d1:decide ((s.size:Int)<1)=false:=by simp;omega
   have d2:decide (8<(s.size:Int))=false:=by simp;omega
   go_enter Tryz.func79, Tryz.ntmps79
   go_wp2
   go_loop [14] (fun i=>∃ k:Nat,k≤s.size∧i=.int .i64 k∧(s.data.toList.take k).all okB=true) (fun i=>s.size-(intOf i).toNat)
   case atStart=>exact ⟨0,Nat.zero_le _,rfl,rfl⟩
   case round =>
    obtain ⟨k,hk,rfl,hall⟩:=hrel
    have HALL:Hid ((s.data.toList.take k).all okB=true):=hall
    clear hall
    by_cases hlt:k<s.size
    ·have HS:Hid ((s.data.toList.take (k+1)).all okB=okB s[k]):=by
      show (s.data.toList.take (k+1)).all okB=_
      rw [take_snoc s k hlt,all_snoc,HALL.out];rfl
     by_cases c1:(97:Int)≤(s[k].toNat:Int)
     ·by_cases c2:(s[k].toNat:Int)≤122
      ·go_wp2
       all_goals
        go_round
        case rel=>exact ⟨k+1,by omega,by go_num,by rw [HS.out];exact okB_yes c1 c2⟩
        case measure=>simp [intOf];omega
      ·have c2':(122:Int)<(s[k].toNat:Int):=by omega
       clear c2
       go_wp2
       go_ret
       exact ⟨ret_bool (by rw [HN.out,all_take_false (k:=k+1) (by rw [HS.out];exact okB_no (.inr c2'))]),rfl⟩
     ·have c1':(s[k].toNat:Int)<97:=by omega
      clear c1
      go_wp2
      go_ret
      exact ⟨ret_bool (by rw [HN.out,all_take_false (k:=k+1) (by rw [HS.out];exact okB_no (.inl c1'))]),rfl⟩
    ·have hkk:k=s.size:=by omega
     subst hkk
     have HF:Hid (nameB s.data.toList=true):=by
      show nameB s.data.toList=true
      rw [HN.out,← HALL.out,List.take_of_length_le (by simp)]
     clear HN HALL
     go_wp2
     go_ret
     exact ⟨ret_bool (by rw [HF.out]),rfl⟩
  ·have hn:nameB s.data.toList=false:=by unfold nameB;rw [hlen];simp [h8]
   have d1:decide ((s.size:Int)<1)=false:=by simp;omega
   have d2:decide (8<(s.size:Int))=true:=by simp;omega
   rw [hn]
   clear hn hlen
   go_enter Tryz.func79, Tryz.ntmps79
   go_wp2
   go_ret
   exact ⟨rfl,rfl⟩
 ·have hn:nameB s.data.toList=false:=by unfold nameB;rw [hlen];simp [h1]
  have d1:decide ((s.size:Int)<1)=true:=by simp;omega
  rw [hn]
  clear hn hlen
  go_enter Tryz.func79, Tryz.ntmps79
  go_wp2
  go_ret
  exact ⟨rfl,rfl⟩
def kindErr (kind:Int) (t:ByteArray):Int :=
 if kind=2 then (if nameB t.data.toList then 0 else 2) else if kind=1∨kind=3∨kind=4 then (if t.size≤40 then 0 else 3) else 1
def El (w:World) (B:Nat) (v:Value) (t:ByteArray) (mb:Nat):Prop:=∃ eb,v=.iface 143 (.pointer (some ⟨eb,0,none⟩))∧w.heap[eb]?=some (.cells #[.string t,.map (some mb)] 189 (0,0))∧B≤eb
theorem newElem (t:ByteArray) (w:World) :
  Calls Tryz.prog 118 #[.string t] w fun e w'=>e=.returned (.pointer (some ⟨w.heap.size+1,0,none⟩))∧w'=(w.alloc (.map #[] 0)).alloc (.cells #[.string t,.map (some w.heap.size)] 189):=by
 have hm:=fun w=>run_makeMap (P:=Tryz.prog) 187 w
 go_enter Tryz.func118, Tryz.ntmps118
 go_wp2
 go_ret
 exact ⟨by simp,rfl⟩
theorem newSay3 (t:ByteArray) (w:World):Calls Tryz.prog 119 #[.int .i64 3,.string t] w fun e w'=>e=.returned (.iface 214 (.agg #[.string t]))∧w'=w:=by
 go_enter Tryz.func119, Tryz.ntmps119
 go_wp2
 go_ret
 exact ⟨rfl,rfl⟩
theorem newSay4 (t:ByteArray) (w:World):Calls Tryz.prog 119 #[.int .i64 4,.string t] w fun e w'=>e=.returned (.iface 215 (.agg #[.string t]))∧w'=w:=by
 go_enter Tryz.func119, Tryz.ntmps119
 go_wp2
 go_ret
 exact ⟨rfl,rfl⟩
theorem newSay1 (t:ByteArray) (w:World):Calls Tryz.prog 119 #[.int .i64 1,.string t] w fun e w'=>e=.returned (.iface 181 (.agg #[]))∧w'=w:=by
 go_enter Tryz.func119, Tryz.ntmps119
 go_wp2
 go_ret
 exact ⟨rfl,rfl⟩
def NewVal (w w':World) (k:Nat) (t:ByteArray) (v:Value):Prop:=KV k v∧(k=2→∃ mb,El w' w.heap.size v t mb∧w.heap.size≤mb∧w'.heap[mb]?=some (.map #[] 0))
theorem newKindC (kind:Int) (t:ByteArray) (w:World) (hs:t.size≤maxLen) :
  Calls Tryz.prog 68 #[.int .i64 kind,.string t] w fun e w'=>Below w.heap.size w w'∧((kindErr kind t≠0∧w'=w∧e=.returned (.tuple #[.nilIface,.int .i64 (kindErr kind t)]))∨(kindErr kind t=0∧∃ (k:Nat) (ty:TypeId) (x:Value),kind=k∧e=.returned (.tuple #[.iface ty x,.int .i64 0])∧NewVal w w' k t (.iface ty x))):=by
 have hsz:(t.size:Int)≤9223372036854775807:=by unfold maxLen at hs;omega
 by_cases k2:kind=2
 ·subst k2
  have HS:Hid (t.size≤maxLen):=hs
  clear hs
  cases hn:nameB t.data.toList with
  | true =>
   have HN:Hid (nameB t.data.toList=true):=hn
   have HE:Hid (kindErr 2 t=0):=by show kindErr 2 t=0;simp [kindErr,hn]
   clear hn
   go_enter Tryz.func68, Tryz.ntmps68
   go_wp2_with fail
   refine (isName t w HS.out).mono ?_
   rintro e w ⟨rfl,rfl⟩
   rw [HN.out]
   go_wp2_with fail
   refine (newElem t w).mono ?_
   rintro e w1 ⟨rfl,hw1⟩
   have HW1:Hid (w1=(w.alloc (.map #[] 0)).alloc (.cells #[.string t,.map (some w.heap.size)] 189)):=hw1
   clear hw1
   go_wp2_with fail
   go_ret2
   rw [HW1.out]
   refine ⟨((Below.refl _ _).alloc (Nat.le_refl _) _).alloc (by simp) _,.inr ⟨HE.out,2,_,_,rfl,rfl,.inr (.inl ⟨rfl,_,rfl⟩),fun _=>⟨w.heap.size,⟨w.heap.size+1,rfl,?_,by omega⟩,Nat.le_refl _,?_⟩⟩⟩
   ·have:=heap_alloc_new (w.alloc (.map #[] 0)) (.cells #[.string t,.map (some w.heap.size)] 189)
    rw [World.size_alloc] at this
    exact this
   ·rw [Below.heap_alloc _ _ _ (by simp)]
    exact heap_alloc_new w _
  | false =>
   have HN:Hid (nameB t.data.toList=false):=hn
   have HE:Hid (kindErr 2 t=2):=by show kindErr 2 t=2;simp [kindErr,hn]
   clear hn
   go_enter Tryz.func68, Tryz.ntmps68
   go_wp2_with fail
   refine (isName t w HS.out).mono ?_
   rintro e w ⟨rfl,rfl⟩
   rw [HN.out]
   go_wp2_with fail
   go_ret2
   exact ⟨Below.refl _ _,.inl ⟨by rw [HE.out];decide,rfl,by rw [HE.out];rfl⟩⟩
 ·by_cases hl:t.size≤40
  ·by_cases k1:kind=1
   ·subst k1
    have HE:Hid (kindErr 1 t=0):=by show kindErr 1 t=0;simp [kindErr,hl]
    go_enter Tryz.func68, Tryz.ntmps68
    go_wp2_with fail
    refine (newSay1 t w).mono ?_
    rintro e w ⟨rfl,rfl⟩
    go_wp2_with fail
    go_ret2
    exact ⟨Below.refl _ _,.inr ⟨HE.out,1,_,_,rfl,rfl,.inl ⟨rfl,rfl⟩,fun h=>by omega⟩⟩
   ·by_cases k3:kind=3
    ·subst k3
     have HE:Hid (kindErr 3 t=0):=by show kindErr 3 t=0;simp [kindErr,hl]
     go_enter Tryz.func68, Tryz.ntmps68
     go_wp2_with fail
     refine (newSay3 t w).mono ?_
     rintro e w ⟨rfl,rfl⟩
     go_wp2_with fail
     go_ret2
     exact ⟨Below.refl _ _,.inr ⟨HE.out,3,_,_,rfl,rfl,.inr (.inr (.inl ⟨rfl,t,rfl⟩)),fun h=>by omega⟩⟩
    ·by_cases k4:kind=4
     ·subst k4
      have HE:Hid (kindErr 4 t=0):=by show kindErr 4 t=0;simp [kindErr,hl]
      go_enter Tryz.func68, Tryz.ntmps68
      go_wp2_with fail
      refine (newSay4 t w).mono ?_
      rintro e w ⟨rfl,rfl⟩
      go_wp2_with fail
      go_ret2
      exact ⟨Below.refl _ _,.inr ⟨HE.out,4,_,_,rfl,rfl,.inr (.inr (.inr ⟨rfl,t,rfl⟩)),fun h=>by omega⟩⟩
     ·have HE:Hid (kindErr kind t=1):=by show kindErr kind t=1;simp [kindErr,k1,k2,k3,k4]
      have d1:(kind == 1)=false:=by simp [k1]
      have d2:(kind == 2)=false:=by simp [k2]
      have d3:(kind == 3)=false:=by simp [k3]
      have d4:(kind == 4)=false:=by simp [k4]
      clear k1 k2 k3 k4
      go_enter Tryz.func68, Tryz.ntmps68
      go_wp2_with fail
      go_ret2
      exact ⟨Below.refl _ _,.inl ⟨by rw [HE.out];decide,rfl,by rw [HE.out];rfl⟩⟩
  ·by_cases kx:kind=1∨kind=3∨kind=4
   ·have HE:Hid (kindErr kind t=3):=by show kindErr kind t=3;simp [kindErr,k2,kx,hl]
    rcases kx with rfl | rfl | rfl
    all_goals
     go_enter Tryz.func68, Tryz.ntmps68
     go_wp2_with fail
     go_ret2
     exact ⟨Below.refl _ _,.inl ⟨by rw [HE.out];decide,rfl,by rw [HE.out];rfl⟩⟩
   ·have HE:Hid (kindErr kind t=1):=by show kindErr kind t=1;simp [kindErr,k2,kx]
    have d1:(kind == 1)=false:=by simp;omega
    have d2:(kind == 2)=false:=by simp [k2]
    have d3:(kind == 3)=false:=by simp;omega
    have d4:(kind == 4)=false:=by simp;omega
    clear kx k2
    go_enter Tryz.func68, Tryz.ntmps68
    go_wp2_with fail
    go_ret2
    exact ⟨Below.refl _ _,.inl ⟨by rw [HE.out];decide,rfl,by rw [HE.out];rfl⟩⟩
theorem lift_row {s:Fo} {kd:Nat→Value} {L:Nat} {k:Value} (i:Nat) (hi:i<L):rowOf (s.lift L 0 0) (up kd L k) i=rowOf s kd i:=by
 have e:i≠L:=by omega
 simp [rowOf,Fo.lift,up_other _ _ _ e]
theorem lift_new {s:Fo} {kd:Nat→Value} {L:Nat} {k:Value}:rowOf (s.lift L 0 0) (up kd L k) L=[.int .i64 0,.int .i64 0,.int .i64 0,.int .i64 0,.int .i64 0,k]:=by
 simp [rowOf,Fo.lift,up_same]
theorem cells_lift {s:Fo} {kd:Nat→Value} {L:Nat} {k:Value}:cellsF L s kd++[.int .i64 0,.int .i64 0,.int .i64 0,.int .i64 0,.int .i64 0,k]=cellsF (L+1) (s.lift L 0 0) (up kd L k):=by
 rw [cellsF_succ,lift_new,cellsF_congr (fun i hi=>lift_row i hi)]
section
variable {w:World} {B gb nb cap L:Nat} {s:Fo} {kd:Nat→Value} {r:Re}
theorem add_end {w1 w2:World} {g c:Nat} {k:Value} (h:Held w B gb nb cap L s kd r) (hL:L≤300) (hw1:Below w.heap.size w w1)
  (hown:w2.ownsRow B 133 6 (.slice (some ⟨g,0,none⟩) (L+1) c) (L+1) (cellsF L s kd++[.int .i64 0,.int .i64 0,.int .i64 0,.int .i64 0,.int .i64 0,k]))
  (hgrow:w1.grownBy w2 (some nb)) (hat:some nb=some g∨g=w1.heap.size) :
  Held (w2.setCell ⟨gb,0,none⟩ (.slice (some ⟨g,0,none⟩) (L+1) c)) B gb g c (L+1) (s.lift L 0 0) (up kd L k) r∧Fr (gn gb nb) w (w2.setCell ⟨gb,0,none⟩ (.slice (some ⟨g,0,none⟩) (L+1) c))∧(g=nb∨w.heap.size≤g):=by
 have hg2:w2.heap[gb]?=some (.cells #[.slice (some ⟨nb,0,none⟩) L cap,.int .i64 r.pl,.int .i64 r.cl,r.lv,r.iv,r.wv] 72 (0,0)):=by
  rw [hgrow.block gb (Nat.lt_of_lt_of_le h.ltg hw1.size) (by simpa using h.ne),hw1.block gb h.ltg]
  exact h.g
 have hne:g≠gb:=by
  rcases hat with e | e
  ·simp at e;subst e;exact fun e=>h.ne e.symm
  ·have:=h.ltg;have:=hw1.size;omega
 refine ⟨⟨cells_setCell hg2,?_,h.hB,by omega⟩,?_,?_⟩
 ·rw [← cells_lift]
  exact ownsRow_setCell_other hown (by simp [Value.ownBlock];exact hne) _
 ·have f1:Fr (gn gb nb) w w1:=Fr.of_below hw1
  have f2:Fr (gn gb nb) w1 w2:=Fr.of_grown hgrow (fun k hk=>by simp at hk;subst hk;exact .inr rfl)
  exact (f1.trans f2).setCell (.inl rfl) _
 ·rcases hat with e | e
  ·simp at e;exact .inl e.symm
  ·right;have:=hw1.size;omega
theorem addF (h:Held w B gb nb cap L s kd r) (hL1:1≤L) (hL3:L≤300) (t:TypeId) (x:Value) :
  Calls Tryz.prog 70 #[.pointer (some ⟨gb,0,none⟩),.iface t x] w fun e w'=>e=.returned (.int .i64 L)∧∃ nb' cap',Held w' B gb nb' cap' (L+1) (s.lift L 0 0) (up kd L (.iface t x)) r∧Fr (gn gb nb) w w'∧(nb'=nb∨w.heap.size≤nb'):=by
 obtain ⟨i0,hi,hz0,hz1,hz2⟩:=info_parts Tryz.info133
 have HH:Hid (Held w B gb nb cap L s kd r):=h
 have hg:=h.gcell
 have hlg:=h.ltg
 have hrow:=h.row
 have hBs:B≤w.heap.size:=by have:=h.hB;omega
 clear h
 go_enter Tryz.func70, Tryz.ntmps70
 go_wp2_with (at_builtin;refine wpList_append_lies _ rfl _ _ 63 rfl B 133 i0 _ 6 56 Tryz.underlying63 hi hz0 hz1 hz2 rfl (by decide) _ _ _ rfl (hrow.alloc _) ⟨w.heap.size,0,none⟩ 1 1 [.int .i64 0,.int .i64 0,.int .i64 0,.int .i64 0,.int .i64 0,.iface t x] rfl ?c0 ?c1 ?c2 ?cm ?c3 ?c4 ?c5 _ rfl ?_)
 case c0=>rfl
 case c1 =>
  intro j u hj
  match j,hj with
  | 0,hj=>simp at hj;subst hj;simp [Addr.add]
  | 1,hj=>simp at hj;subst hj;simp [Addr.add]
  | 2,hj=>simp at hj;subst hj;simp [Addr.add]
  | 3,hj=>simp at hj;subst hj;simp [Addr.add]
  | 4,hj=>simp at hj;subst hj;simp [Addr.add]
  | 5,hj=>simp at hj;subst hj;simp [Addr.add]
 case c2 =>
  intro u hu
  simp only [List.mem_cons,List.not_mem_nil,or_false] at hu
  rcases hu with rfl | rfl | rfl | rfl | rfl | rfl <;> rfl
 case cm=>omega
 case c3=>unfold maxLen;omega
 case c4=>omega
 case c5=>simp;omega
 intro g c w2 hown2 hgrow2 hat2 hlt2
 have hb1:Below w.heap.size w (w.alloc (.cells #[.int .i64 0,.int .i64 0,.int .i64 0,.int .i64 0,.int .i64 0,.iface t x] 133)):=(Below.refl _ _).alloc (Nat.le_refl _) _
 have R:=add_end HH.out hL3 hb1 hown2 hgrow2 (hat2.imp id (fun e=>by rw [World.size_alloc];exact e))
 have hg2:w2.heap[gb]?=some (.cells #[.slice (some ⟨nb,0,none⟩) L cap,.int .i64 r.pl,.int .i64 r.cl,r.lv,r.iv,r.wv] 72 (0,0)):=by
  rw [hgrow2.block gb (by simp;omega) (by simpa [Value.ownBlock] using HH.out.ne),hb1.block gb hlg]
  exact HH.out.g
 have q1:=cells_of hg2 0
 have q2:=frees_of hg2 0
 simp only [List.getElem?_toArray,List.getElem?_cons_zero] at q1
 have RR:Hid _:=R
 clear R hg2 hb1 hown2 hgrow2 hat2 hlt2 hg hrow
 go_wp2_with fail
 refine (countF RR.out.1 (by omega)).mono ?_
 rintro e w3 ⟨rfl,rfl⟩
 go_wp2_with fail
 go_ret
 exact ⟨ret_int (by omega),g,c,RR.out.1,RR.out.2⟩
theorem El.fr {S:Nat→Prop} {w w':World} {B:Nat} {v:Value} {t:ByteArray} {mb:Nat} (h:El w B v t mb) (hf:Fr S w w') (hS:∀ i cs fr,S i→w.heap[i]?≠some (.cells cs 189 fr)):El w' B v t mb:=by
 obtain ⟨eb,h1,h2,h3⟩:=h
 refine ⟨eb,h1,?_,h3⟩
 rw [hf.block eb (lt_of_block h2) (fun hs=>hS eb _ _ hs h2)]
 exact h2
theorem El.since {w w':World} {B:Nat} {v:Value} {t:ByteArray} {mb:Nat} (h:El w B v t mb) (hf:Below w.heap.size w w'):El w' B v t mb:=by
 obtain ⟨eb,h1,h2,h3⟩:=h
 exact ⟨eb,h1,by rw [hf.block eb (lt_of_block h2)];exact h2,h3⟩
theorem Held.noEl (h:Held w B gb nb cap L s kd r):∀ i cs fr,gn gb nb i→w.heap[i]?≠some (.cells cs 189 fr):=by
 obtain ⟨cur,hn,_⟩:=h.block
 rintro i cs fr (rfl | rfl) e
 ·rw [h.g] at e;simp at e
 ·rw [hn] at e;simp at e
theorem makeC (h:Held w B gb nb cap L s kd r) (hL1:1≤L) (kind:Int) (t:ByteArray) (hs:t.size≤maxLen) :
  Calls Tryz.prog 33 #[.pointer (some ⟨gb,0,none⟩),.int .i64 kind,.string t] w fun e w' =>
   (kindErr kind t≠0∧w'=w∧e=.returned (.tuple #[.int .i64 0,.int .i64 (kindErr kind t)])) ∨
   (kindErr kind t=0∧L=301∧Below w.heap.size w w'∧e=.returned (.tuple #[.int .i64 0,.int .i64 4])) ∨
   (kindErr kind t=0∧L≤300∧e=.returned (.tuple #[.int .i64 L,.int .i64 0])∧∃ (k nb' cap':Nat) (v:Value),kind=k∧Held w' B gb nb' cap' (L+1) (s.lift L 0 0) (up kd L v) r∧Fr (gn gb nb) w w'∧(nb'=nb∨w.heap.size≤nb')∧NewVal w w' k t v):=by
 have HH:Hid (Held w B gb nb cap L s kd r):=h
 have HS:Hid (t.size≤maxLen):=hs
 have hL:=h.hL
 clear h hs
 go_enter Tryz.func33, Tryz.ntmps33
 go_wp2_with fail
 refine (newKindC kind t w HS.out).mono ?_
 rintro e w1 ⟨hb,hcase⟩
 rcases hcase with ⟨hne,rfl,rfl⟩ | ⟨hz,k,ty,x,rfl,rfl,hnv⟩
 ·obtain ⟨w,rfl⟩:∃ w:World,w=w1:=⟨_,rfl⟩
  have HE:Hid (kindErr kind t=kindErr kind t):=rfl
  have q0':(kindErr kind t != 0)=true:=by simp [hne]
  have HNE:Hid (kindErr kind t≠0):=hne
  clear hne hb
  go_wp2_with fail
  go_ret2
  exact .inl ⟨HNE.out,rfl,rfl⟩
 ·have HZ:Hid (kindErr k t=0):=hz
  have HNV:Hid (NewVal w w1 k t (.iface ty x)):=hnv
  have HB:Hid (Below w.heap.size w w1):=hb
  have H1:Hid (Held w1 B gb nb cap L s kd r):=HH.out.since hb
  clear hz hnv hb
  go_wp2_with fail
  refine (countF H1.out hL1).mono ?_
  rintro e w1 ⟨rfl,rfl⟩
  by_cases hlt:L≤300
  ·have hlt':(L:Int)-1<300:=by omega
   go_wp2_with fail
   refine (addF H1.out hL1 hlt ty x).mono ?_
   rintro e w2 ⟨rfl,nb',cap',H2,F2,hnb⟩
   have H2':Hid _:=H2
   have F2':Hid (Fr (gn gb nb) w1 w2):=F2
   have HNB:Hid (nb'=nb∨w1.heap.size≤nb'):=hnb
   clear H2 F2 hnb
   go_wp2_with fail
   go_ret2
   refine .inr (.inr ⟨HZ.out,hlt,rfl,k,nb',cap',_,rfl,H2'.out,(Fr.of_below HB.out).trans F2'.out,HNB.out.imp id (fun h=>Nat.le_trans HB.out.size h),HNV.out.1,fun h2=>?_⟩)
   obtain ⟨mb,he,hmb,hmap⟩:=HNV.out.2 h2
   refine ⟨mb,he.fr F2'.out H1.out.noEl,hmb,?_⟩
   rw [F2'.out.block mb (lt_of_block hmap) ?_]
   ·exact hmap
   ·obtain ⟨cur,hn,_⟩:=H1.out.block
    rintro (rfl | rfl)
    ·have:=H1.out.g;rw [hmap] at this;simp at this
    ·rw [hmap] at hn;simp at hn
  ·have hL301:L=301:=by omega
   have hlt':(300:Int)≤(L:Int)-1:=by omega
   go_wp2_with fail
   go_ret2
   exact .inr (.inl ⟨HZ.out,hL301,HB.out,rfl⟩)
end
open Go.RowKit Gv
def RawIs (w:World) (a:Option Addr) (n:Nat) (zs:List Int):Prop :=
 n=0∨∃ b off,a=some ⟨b,off,none⟩∧b<w.heap.size∧∀ i,i<n→w.cell? ⟨b,off+i,none⟩=some (.int .i64 (zs.getD i 0))∧-9223372036854775808≤zs.getD i 0∧zs.getD i 0≤9223372036854775807
theorem RawIs.below {w w':World} {a:Option Addr} {n:Nat} {zs:List Int} (h:RawIs w a n zs) (hb:Below w.heap.size w w'):RawIs w' a n zs:=by
 rcases h with h | ⟨b,off,e,hlt,hc⟩
 ·exact .inl h
 ·exact .inr ⟨b,off,e,Nat.lt_of_lt_of_le hlt hb.size,fun i hi=>⟨(hb.cell (p:=⟨b,off+i,none⟩) hlt).trans (hc i hi).1,(hc i hi).2⟩⟩
def strA:ByteArray:=⟨#[97]⟩
def strB:ByteArray:=⟨#[98]⟩
def strC:ByteArray:=⟨#[99]⟩
def tagS (i:Nat):ByteArray:=if i=0 then strA else if i=1 then strB else strC
theorem tagS_ok (i:Nat):nameB (tagS i).data.toList=true∧(tagS i).size≤8:=by
 unfold tagS
 split
 ·exact ⟨by decide,by decide⟩
 ·split
  ·exact ⟨by decide,by decide⟩
  ·exact ⟨by decide,by decide⟩
theorem tagX (c:Nat) (hc:c≤1000) (w:World) :
  Calls Tryz.prog 34 #[.int .i64 c] w fun e w'=>e=.returned (.string (tagS (c % 3)))∧Below w.heap.size w w':=by
 have hp:pickF c 3=c % 3:=by unfold pickF;rw [if_neg (by omega)];simp
 have HP:Hid (pickF c 3=c % 3):=hp
 clear hp
 go_enter Tryz.func34, Tryz.ntmps34
 go_wp2_with fail
 refine (pickX c 3 _ (by omega) (by omega) (by omega) (by omega)).mono ?_
 rintro e w' ⟨rfl,rfl⟩
 rw [HP.out]
 obtain h | h | h:c % 3=0∨c % 3=1∨c % 3=2:=by omega
 all_goals
  rw [h]
  have HC:Hid (c % 3=_):=h
  clear h HP
  go_wp2_with fail
  go_ret
  exact ⟨by rw [HC.out];rfl,(Below.refl _ _).alloc (Nat.le_refl _) _⟩
theorem zeroF_lift (L:Nat):zeroF.lift L 0 0=zeroF:=by
 have e:∀ i,up (fun _:Nat=>(0:Nat)) i 0=fun _=>0:=by intro i;funext x;simp [up]
 simp [Fo.lift,zeroF,e]
theorem loose_wf (N:Nat):WF N zeroF (fun _=>[]):=by
 refine ⟨rfl,?_,?_,?_,?_,?_,?_,?_,?_⟩
 ·intro p k hk;simp at hk
 ·intro k _ _ h;exact absurd rfl h
 ·intro p;simp
 ·intro p _ _;rfl
 ·intro p _ _;rfl
 ·intro p;trivial
 ·intro k _;exact ⟨1,rfl⟩
 ·simp only [List.length_nil,zeroF,if_true]
def rawAt (len:Nat) (zs:List Int) (k:Nat):Nat:=if k<len then pickF (zs.getD k 0) 12 else 0
def kkR (len:Nat) (zs:List Int) (i:Nat):Nat:=if i≤1∨rawAt len zs (i-1) % 4≠3 then 2 else 3+rawAt len zs (i-1) / 4 % 2
def tgR (len:Nat) (zs:List Int) (i:Nat):ByteArray:=tagS (rawAt len zs (i-1) % 3)
structure Made (B:Nat) (w:World) (gb nb c k:Nat) (kk:Nat→Nat) (tg:Nat→ByteArray) (kd:Nat→Value) (mp:Nat→Nat):Prop where
 held:Held w B gb nb c (k+1) zeroF kd re0
 kinds:Kinds k kk kd
 els:∀ i,1≤i→i≤k→kk i=2→El w B (kd i) (tg i) (mp i)∧B≤mp i∧w.heap[mp i]?=some (.map #[] 0)
 inj:∀ i j,1≤i→i≤k→1≤j→j≤k→kk i=2→kk j=2→mp i=mp j→i=j
theorem Made.step {B:Nat} {w w3 w4:World} {gb nb c k nb4 c4:Nat} {kk:Nat→Nat} {tg:Nat→ByteArray} {kd:Nat→Value} {mp:Nat→Nat} {v:Value}
  (h:Made B w gb nb c k kk tg kd mp) (h3:Below w.heap.size w w3) (h4:Held w4 B gb nb4 c4 (k+1+1) (zeroF.lift (k+1) 0 0) (up kd (k+1) v) re0) (hf:Fr (gn gb nb) w3 w4) (hv:NewVal w3 w4 (kk (k+1)) (tg (k+1)) v) (hB:B≤w3.heap.size) :
  ∃ mp',Made B w4 gb nb4 c4 (k+1) kk tg (up kd (k+1) v) mp':=by
 have hh3:=h.held.since h3
 have old:∀ i,1≤i→i≤k→kk i=2→El w4 B (kd i) (tg i) (mp i)∧B≤mp i∧w4.heap[mp i]?=some (.map #[] 0)∧mp i<w3.heap.size:=by
  intro i h1 hk hi
  obtain ⟨e1,e2,e3⟩:=h.els i h1 hk hi
  have e3':w3.heap[mp i]?=some (.map #[] 0):=by rw [h3.block _ (lt_of_block e3)];exact e3
  refine ⟨(e1.since h3).fr hf hh3.noEl,e2,?_,lt_of_block e3'⟩
  rw [hf.block _ (lt_of_block e3') ?_]
  ·exact e3'
  ·obtain ⟨cur,hn,_⟩:=hh3.block
   rintro (e | e)
   ·rw [e,hh3.g] at e3';simp at e3'
   ·rw [e,hn] at e3';simp at e3'
 rw [zeroF_lift] at h4
 have kinds:Kinds (k+1) kk (up kd (k+1) v):=by
  intro i h1 h2
  by_cases e:i=k+1
  ·subst e;rw [up_same];exact hv.1
  ·rw [up_other _ _ _ e];exact h.kinds i h1 (by omega)
 by_cases k2:kk (k+1)=2
 ·obtain ⟨mb,e1,e2,e3⟩:=hv.2 k2
  refine ⟨up mp (k+1) mb,h4,kinds,fun i h1 hk hi=>?_,fun i j i1 ik j1 jk hi hj he=>?_⟩
  ·by_cases e:i=k+1
   ·subst e
    rw [up_same,up_same]
    obtain ⟨eb,a1,a2,a3⟩:=e1
    exact ⟨⟨eb,a1,a2,by omega⟩,by omega,e3⟩
   ·rw [up_other _ _ _ e,up_other _ _ _ e]
    have:=old i h1 (by omega) hi
    exact ⟨this.1,this.2.1,this.2.2.1⟩
  ·by_cases e:i=k+1
   ·by_cases e':j=k+1
    ·omega
    ·have:=old j j1 (by omega) hj
     rw [e,up_same,up_other _ _ _ e'] at he
     omega
   ·by_cases e':j=k+1
    ·have:=old i i1 (by omega) hi
     rw [e',up_same,up_other _ _ _ e] at he
     omega
    ·rw [up_other _ _ _ e,up_other _ _ _ e'] at he
     exact h.inj i j i1 (by omega) j1 (by omega) hi hj he
 ·have ne:∀ i,kk i=2→i≠k+1:=fun i hi e=>k2 (e ▸ hi)
  refine ⟨mp,h4,kinds,fun i h1 hk hi=>?_,fun i j i1 ik j1 jk hi hj he=>?_⟩
  ·have e:=ne i hi
   have:=old i h1 (by omega) hi
   rw [up_other _ _ _ e]
   exact ⟨this.1,this.2.1,this.2.2.1⟩
  ·have e:=ne i hi
   have e':=ne j hj
   exact h.inj i j i1 (by omega) j1 (by omega) hi hj he
theorem made_ok {w w':World} {B gb nb L:Nat} {s:Fo} {kd:Nat→Value} {r:Re} {kind:Int} {t:ByteArray} {e:Ending}
  (h:(kindErr kind t≠0∧w'=w∧e=.returned (.tuple #[.int .i64 0,.int .i64 (kindErr kind t)])) ∨
    (kindErr kind t=0∧L=301∧Below w.heap.size w w'∧e=.returned (.tuple #[.int .i64 0,.int .i64 4])) ∨
    (kindErr kind t=0∧L≤300∧e=.returned (.tuple #[.int .i64 L,.int .i64 0])∧∃ (k nb' cap':Nat) (v:Value),kind=k∧Held w' B gb nb' cap' (L+1) (s.lift L 0 0) (up kd L v) r∧Fr (gn gb nb) w w'∧(nb'=nb∨w.heap.size≤nb')∧NewVal w w' k t v))
  (hk:kindErr kind t=0) (hL:L≤300) :
  e=.returned (.tuple #[.int .i64 L,.int .i64 0])∧∃ (k nb' cap':Nat) (v:Value),kind=k∧Held w' B gb nb' cap' (L+1) (s.lift L 0 0) (up kd L v) r∧Fr (gn gb nb) w w'∧(nb'=nb∨w.heap.size≤nb')∧NewVal w w' k t v:=by
 rcases h with h | h | h
 ·exact absurd hk h.1
 ·omega
 ·exact h.2.2
theorem madeL (w:World) (n:Nat) (a:Option Addr) (len cap:Nat) (zs:List Int) (hn:n≤100) (hlen:len≤maxLen) (hr:RawIs w a len zs) :
  Calls Tryz.prog 10 #[.int .i64 n,.slice a len cap] w fun e w'=>∃ gb nb c kd mp,e=.returned (.pointer (some ⟨gb,0,none⟩))∧Made w.heap.size w' gb nb c n (kkR len zs) (tgR len zs) kd mp∧Below w.heap.size w w':=by
 unfold maxLen at hlen
 have HR:Hid (RawIs w a len zs):=hr
 clear hr
 go_enter Tryz.func10, Tryz.ntmps10
 go_wp2_with fail
 refine (newG w).mono ?_
 rintro e w1 ⟨gb,nb0,rfl,H0,B0⟩
 have HH0:Hid _:=H0
 have HB0:Hid _:=B0
 clear H0 B0
 go_wp2_with fail
 go_loopw [6] (fun i wr=>∃ (k nb c:Nat) (kd:Nat→Value) (mp:Nat→Nat),k≤n∧i=.int .i64 k∧Made w.heap.size wr gb nb c k (kkR len zs) (tgR len zs) kd mp∧Below w.heap.size w wr) (fun i _=>n-(intOf i).toNat)
 case atStart=>exact ⟨0,nb0,1,noKind,fun _=>0,Nat.zero_le _,rfl,⟨HH0.out,fun i h1 h2=>by omega,fun i h1 h2=>by omega,fun i j h1 h2=>by omega⟩,HB0.out⟩
 case round =>
  obtain ⟨k,nb,c,kd,mp,hk,rfl,hM,hbel⟩:=hrel
  have HM:Hid _:=hM
  have HB:Hid (Below w.heap.size w wr):=hbel
  clear hM hbel HH0 HB0
  by_cases hkn:k<n
  ·by_cases hkl:k<len
   ·rcases HR.out with h0 | ⟨b,off,ha,hbs,hcs⟩
    ·omega
    subst ha
    have hcell:wr.cell? ⟨b,off+k,none⟩=some (.int .i64 (zs.getD k 0)):=(HB.out.cell (p:=⟨b,off+k,none⟩) hbs).trans (hcs k hkl).1
    have hbd:=(hcs k hkl).2
    have hra:rawAt len zs k=pickF (zs.getD k 0) 12:=by unfold rawAt;rw [if_pos hkl]
    have RA0:Hid (rawAt len zs k=pickF (zs.getD k 0) 12):=hra
    clear hcs hra
    have hi:(k:Int)<(len:Int):=by omega
    have hr:=pickF_lt (zs.getD k 0) (n:=12) (by omega)
    go_wp2_with fail
    refine (pickX (zs.getD k 0) 12 wr (by omega) (by omega) hbd.1 hbd.2).mono ?_
    rintro e wr ⟨rfl,rfl⟩
    clear hcell hbd
    generalize pickF (zs.getD k 0) 12=r at *
    have RA:Hid (rawAt len zs k=r):=RA0.out
    clear RA0
    by_cases k0:k=0
    ·have k0':decide (0<(k:Int))=false:=by simp;omega
     go_wp2_with fail
     refine (tagX r (by omega) wr).mono ?_
     rintro e w3 ⟨rfl,hb3⟩
     have HM3:Hid (Below wr.heap.size wr w3):=hb3
     clear hb3
     have HKK:Hid (kkR len zs (k+1)=2):=by
      show kkR len zs (k+1)=2
      simp [kkR,k0]
     have HTG:Hid (tgR len zs (k+1)=tagS (r % 3)):=by
      show tgR len zs (k+1)=_
      simp only [tgR,Nat.add_sub_cancel,RA.out]
     have ts:=tagS_ok (r % 3)
     have HE:Hid (kindErr 2 (tagS (r % 3))=0):=by
      show kindErr 2 (tagS (r % 3))=0
      simp [kindErr,ts.1]
     have HTS:Hid ((tagS (r % 3)).size≤maxLen):=by show (tagS (r % 3)).size≤maxLen;unfold maxLen;omega
     clear ts
     generalize htt:tagS (r % 3)=t at *
     go_wp2_with fail
     refine (makeC (HM.out.held.since HM3.out) (by omega) 2 t HTS.out).mono ?_
     rintro e w4 hc
     obtain ⟨rfl,k2,nb4,c4,v,hk2,H4,F4,-,V4⟩:=made_ok hc HE.out (by omega)
     obtain rfl:k2=2:=by omega
     obtain ⟨mp4,HM4⟩:=HM.out.step HM3.out H4 F4 (by rw [HKK.out,HTG.out];exact V4) (Nat.le_trans HB.out.size HM3.out.size)
     have HM4':Hid _:=HM4
     have HB4:Hid (Below w.heap.size w w4):=(HB.out.trans (HM3.out.mono HB.out.size)).trans (F4.below (Nat.le_trans HB.out.size HM3.out.size) (HM.out.held.since HM3.out).gnB)
     clear H4 F4 V4 HM4 hk2 hc
     go_wp2_with fail
     go_roundw
     case rel=>exact ⟨k+1,nb4,c4,_,mp4,hkn,by go_num,HM4'.out,HB4.out⟩
     case measure=>simp [intOf];omega
    ·have k0':decide (0<(k:Int))=true:=by simp;omega
     by_cases m3:r % 4=3
     ·have m3':((r:Int) % 4 == 3)=true:=by simp;omega
      obtain q2 | q2:r / 4 % 2=0∨r / 4 % 2=1:=by omega
      ·have e1:((r:Int) / 4 % 2)=0:=by omega
       have HK3:Hid (kkR len zs (k+1)=3):=by show kkR len zs (k+1)=3;simp [kkR,RA.out,m3,q2,k0]
       clear q2 m3
       go_wp2_with fail
       refine (tagX r (by omega) wr).mono ?_
       rintro e w3 ⟨rfl,hb3⟩
       have HM3:Hid (Below wr.heap.size wr w3):=hb3
       clear hb3
       have HKK:Hid (kkR len zs (k+1)=3):=by
        show kkR len zs (k+1)=3
        exact HK3.out
       have HTG:Hid (tgR len zs (k+1)=tagS (r % 3)):=by
        show tgR len zs (k+1)=_
        simp only [tgR,Nat.add_sub_cancel,RA.out]
       have ts:=tagS_ok (r % 3)
       have HE:Hid (kindErr 3 (tagS (r % 3))=0):=by
        show kindErr 3 (tagS (r % 3))=0
        simp [kindErr];omega
       have HTS:Hid ((tagS (r % 3)).size≤maxLen):=by show (tagS (r % 3)).size≤maxLen;unfold maxLen;omega
       clear ts
       generalize htt:tagS (r % 3)=t at *
       go_wp2_with fail
       refine (makeC (HM.out.held.since HM3.out) (by omega) 3 t HTS.out).mono ?_
       rintro e w4 hc
       obtain ⟨rfl,k2,nb4,c4,v,hk2,H4,F4,-,V4⟩:=made_ok hc HE.out (by omega)
       obtain rfl:k2=3:=by omega
       obtain ⟨mp4,HM4⟩:=HM.out.step HM3.out H4 F4 (by rw [HKK.out,HTG.out];exact V4) (Nat.le_trans HB.out.size HM3.out.size)
       have HM4':Hid _:=HM4
       have HB4:Hid (Below w.heap.size w w4):=(HB.out.trans (HM3.out.mono HB.out.size)).trans (F4.below (Nat.le_trans HB.out.size HM3.out.size) (HM.out.held.since HM3.out).gnB)
       clear H4 F4 V4 HM4 hk2 hc
       go_wp2_with fail
       go_roundw
       case rel=>exact ⟨k+1,nb4,c4,_,mp4,hkn,by go_num,HM4'.out,HB4.out⟩
       case measure=>simp [intOf];omega
      ·have e1:((r:Int) / 4 % 2)=1:=by omega
       have HK3:Hid (kkR len zs (k+1)=4):=by show kkR len zs (k+1)=4;simp [kkR,RA.out,m3,q2,k0]
       clear q2 m3
       go_wp2_with fail
       refine (tagX r (by omega) wr).mono ?_
       rintro e w3 ⟨rfl,hb3⟩
       have HM3:Hid (Below wr.heap.size wr w3):=hb3
       clear hb3
       have HKK:Hid (kkR len zs (k+1)=4):=by
        show kkR len zs (k+1)=4
        exact HK3.out
       have HTG:Hid (tgR len zs (k+1)=tagS (r % 3)):=by
        show tgR len zs (k+1)=_
        simp only [tgR,Nat.add_sub_cancel,RA.out]
       have ts:=tagS_ok (r % 3)
       have HE:Hid (kindErr 4 (tagS (r % 3))=0):=by
        show kindErr 4 (tagS (r % 3))=0
        simp [kindErr];omega
       have HTS:Hid ((tagS (r % 3)).size≤maxLen):=by show (tagS (r % 3)).size≤maxLen;unfold maxLen;omega
       clear ts
       generalize htt:tagS (r % 3)=t at *
       go_wp2_with fail
       refine (makeC (HM.out.held.since HM3.out) (by omega) 4 t HTS.out).mono ?_
       rintro e w4 hc
       obtain ⟨rfl,k2,nb4,c4,v,hk2,H4,F4,-,V4⟩:=made_ok hc HE.out (by omega)
       obtain rfl:k2=4:=by omega
       obtain ⟨mp4,HM4⟩:=HM.out.step HM3.out H4 F4 (by rw [HKK.out,HTG.out];exact V4) (Nat.le_trans HB.out.size HM3.out.size)
       have HM4':Hid _:=HM4
       have HB4:Hid (Below w.heap.size w w4):=(HB.out.trans (HM3.out.mono HB.out.size)).trans (F4.below (Nat.le_trans HB.out.size HM3.out.size) (HM.out.held.since HM3.out).gnB)
       clear H4 F4 V4 HM4 hk2 hc
       go_wp2_with fail
       go_roundw
       case rel=>exact ⟨k+1,nb4,c4,_,mp4,hkn,by go_num,HM4'.out,HB4.out⟩
       case measure=>simp [intOf];omega
     ·have m3':((r:Int) % 4 == 3)=false:=by simp;omega
      have HK3:Hid (kkR len zs (k+1)=2):=by show kkR len zs (k+1)=2;simp [kkR,RA.out,m3]
      clear m3
      go_wp2_with fail
      refine (tagX r (by omega) wr).mono ?_
      rintro e w3 ⟨rfl,hb3⟩
      have HM3:Hid (Below wr.heap.size wr w3):=hb3
      clear hb3
      have HKK:Hid (kkR len zs (k+1)=2):=by
       show kkR len zs (k+1)=2
       exact HK3.out
      have HTG:Hid (tgR len zs (k+1)=tagS (r % 3)):=by
       show tgR len zs (k+1)=_
       simp only [tgR,Nat.add_sub_cancel,RA.out]
      have ts:=tagS_ok (r % 3)
      have HE:Hid (kindErr 2 (tagS (r % 3))=0):=by
       show kindErr 2 (tagS (r % 3))=0
       simp [kindErr,ts.1]
      have HTS:Hid ((tagS (r % 3)).size≤maxLen):=by show (tagS (r % 3)).size≤maxLen;unfold maxLen;omega
      clear ts
      generalize htt:tagS (r % 3)=t at *
      go_wp2_with fail
      refine (makeC (HM.out.held.since HM3.out) (by omega) 2 t HTS.out).mono ?_
      rintro e w4 hc
      obtain ⟨rfl,k2,nb4,c4,v,hk2,H4,F4,-,V4⟩:=made_ok hc HE.out (by omega)
      obtain rfl:k2=2:=by omega
      obtain ⟨mp4,HM4⟩:=HM.out.step HM3.out H4 F4 (by rw [HKK.out,HTG.out];exact V4) (Nat.le_trans HB.out.size HM3.out.size)
      have HM4':Hid _:=HM4
      have HB4:Hid (Below w.heap.size w w4):=(HB.out.trans (HM3.out.mono HB.out.size)).trans (F4.below (Nat.le_trans HB.out.size HM3.out.size) (HM.out.held.since HM3.out).gnB)
      clear H4 F4 V4 HM4 hk2 hc
      go_wp2_with fail
      go_roundw
      case rel=>exact ⟨k+1,nb4,c4,_,mp4,hkn,by go_num,HM4'.out,HB4.out⟩
      case measure=>simp [intOf];omega
   ·have hi:¬ (k:Int)<(len:Int):=by omega
    have RA:Hid (rawAt len zs k=0):=by show rawAt len zs k=0;unfold rawAt;rw [if_neg hkl]
    by_cases k0:k=0
    ·have k0':decide (0<(k:Int))=false:=by simp;omega
     go_wp2_with fail
     refine (tagX 0 (by omega) wr).mono ?_
     rintro e w3 ⟨rfl,hb3⟩
     have HM3:Hid (Below wr.heap.size wr w3):=hb3
     clear hb3
     have HKK:Hid (kkR len zs (k+1)=2):=by
      show kkR len zs (k+1)=2
      simp [kkR,k0]
     have HTG:Hid (tgR len zs (k+1)=tagS (0 % 3)):=by
      show tgR len zs (k+1)=_
      simp only [tgR,Nat.add_sub_cancel,RA.out]
     have ts:=tagS_ok (0 % 3)
     have HE:Hid (kindErr 2 (tagS (0 % 3))=0):=by
      show kindErr 2 (tagS (0 % 3))=0
      simp [kindErr,ts.1]
     have HTS:Hid ((tagS (0 % 3)).size≤maxLen):=by show (tagS (0 % 3)).size≤maxLen;unfold maxLen;omega
     clear ts
     generalize htt:tagS (0 % 3)=t at *
     go_wp2_with fail
     refine (makeC (HM.out.held.since HM3.out) (by omega) 2 t HTS.out).mono ?_
     rintro e w4 hc
     obtain ⟨rfl,k2,nb4,c4,v,hk2,H4,F4,-,V4⟩:=made_ok hc HE.out (by omega)
     obtain rfl:k2=2:=by omega
     obtain ⟨mp4,HM4⟩:=HM.out.step HM3.out H4 F4 (by rw [HKK.out,HTG.out];exact V4) (Nat.le_trans HB.out.size HM3.out.size)
     have HM4':Hid _:=HM4
     have HB4:Hid (Below w.heap.size w w4):=(HB.out.trans (HM3.out.mono HB.out.size)).trans (F4.below (Nat.le_trans HB.out.size HM3.out.size) (HM.out.held.since HM3.out).gnB)
     clear H4 F4 V4 HM4 hk2 hc
     go_wp2_with fail
     go_roundw
     case rel=>exact ⟨k+1,nb4,c4,_,mp4,hkn,by go_num,HM4'.out,HB4.out⟩
     case measure=>simp [intOf];omega
    ·have k0':decide (0<(k:Int))=true:=by simp;omega
     go_wp2_with fail
     refine (tagX 0 (by omega) wr).mono ?_
     rintro e w3 ⟨rfl,hb3⟩
     have HM3:Hid (Below wr.heap.size wr w3):=hb3
     clear hb3
     have HKK:Hid (kkR len zs (k+1)=2):=by
      show kkR len zs (k+1)=2
      simp [kkR,RA.out]
     have HTG:Hid (tgR len zs (k+1)=tagS (0 % 3)):=by
      show tgR len zs (k+1)=_
      simp only [tgR,Nat.add_sub_cancel,RA.out]
     have ts:=tagS_ok (0 % 3)
     have HE:Hid (kindErr 2 (tagS (0 % 3))=0):=by
      show kindErr 2 (tagS (0 % 3))=0
      simp [kindErr,ts.1]
     have HTS:Hid ((tagS (0 % 3)).size≤maxLen):=by show (tagS (0 % 3)).size≤maxLen;unfold maxLen;omega
     clear ts
     generalize htt:tagS (0 % 3)=t at *
     go_wp2_with fail
     refine (makeC (HM.out.held.since HM3.out) (by omega) 2 t HTS.out).mono ?_
     rintro e w4 hc
     obtain ⟨rfl,k2,nb4,c4,v,hk2,H4,F4,-,V4⟩:=made_ok hc HE.out (by omega)
     obtain rfl:k2=2:=by omega
     obtain ⟨mp4,HM4⟩:=HM.out.step HM3.out H4 F4 (by rw [HKK.out,HTG.out];exact V4) (Nat.le_trans HB.out.size HM3.out.size)
     have HM4':Hid _:=HM4
     have HB4:Hid (Below w.heap.size w w4):=(HB.out.trans (HM3.out.mono HB.out.size)).trans (F4.below (Nat.le_trans HB.out.size HM3.out.size) (HM.out.held.since HM3.out).gnB)
     clear H4 F4 V4 HM4 hk2 hc
     go_wp2_with fail
     go_roundw
     case rel=>exact ⟨k+1,nb4,c4,_,mp4,hkn,by go_num,HM4'.out,HB4.out⟩
     case measure=>simp [intOf];omega
  ·obtain rfl:k=n:=by omega
   go_wp2_with fail
   go_ret
   exact ⟨gb,nb,c,kd,mp,rfl,HM.out,HB.out⟩
open Go.RowKit Gv
section
variable {w:World} {B gb nb cap N:Nat} {s:Fo} {kd:Nat→Value} {K:Nat→List Nat} {r:Re} {kk:Nat→Nat} {its:List It}
theorem kkR_ne (len:Nat) (zs:List Int) (i:Nat):kkR len zs i≠1:=by unfold kkR;split <;> omega
theorem kkR_one (len:Nat) (zs:List Int):kkR len zs 1=2:=by simp [kkR]
theorem hasB_nat {n:Nat} (h1:1≤n) (hn:n≤N):hasB (N+1) (n:Int)=true:=by simp [hasB];omega
theorem putErr_leafy {p c b:Nat} {q:Int} (hwf:WF N s K) (hno:∀ i,kk i≠1) (h1:1≤p) (hn:p≤N) (hc1:1≤c) (hcN:c≤N) (hb:b=0∨b∈K p) (h:PutErr N s K kk p c b q) :
  (q=0∧¬ Desc s.par p c)∨(q=6∧(Desc s.par p c∨2<kk p)):=by
 rcases h with ⟨_,h⟩ | ⟨p',c',b',e1,e2,e3,_,_,_,_,_,h6⟩
 ·exfalso
  refine h ⟨hasB_nat h1 hn,hasB_nat hc1 hcN,?_⟩
  rcases hb with rfl | hb
  ·exact .inl rfl
  ·have:=hwf.kid p b hb
   exact .inr (hasB_nat this.2.2.1 this.2.2.2.1)
 ·obtain rfl:p=p':=by omega
  obtain rfl:c=c':=by omega
  obtain rfl:b=b':=by omega
  rcases h6 with ⟨h,h'⟩ | ⟨k1,k2,k3,h7⟩
  ·refine .inr ⟨h,?_⟩
   rcases h' with h' | h' | h'
   ·exact .inr h'
   ·exact absurd h' (hno c)
   ·exact .inl h'
  ·rcases h7 with ⟨_,h,h'⟩ | ⟨_,h8⟩
   ·exfalso
    rcases hb with hb | hb
    ·exact h hb
    ·exact h' (hwf.kid p b hb).2.2.2.2
   ·rcases h8 with ⟨_,h⟩ | ⟨h,_⟩
    ·exact absurd h.1 (hno p)
    ·exact .inl ⟨h,k3⟩
def Rk (r:Re) (m:Nat):Prop:=r.iv=.slice none 0 0∧0≤r.pl∧r.pl≤m
theorem Rk.more {m:Nat} (h:Rk r m):Rk r.more (m+1):=⟨h.1,by show 0≤r.pl+1;have:=h.2.1;omega,by show r.pl+1≤_;have:=h.2.2;omega⟩
theorem Rk.up {m n:Nat} (h:Rk r m) (hn:m≤n):Rk r n:=⟨h.1,h.2.1,by have:=h.2.2;omega⟩
theorem Rk.outed {m:Nat} (h:Rk r m) (s:Fo) (c:Nat):Rk (r.outed s c) (m+1):=by
 unfold Re.outed
 split
 ·exact h.up (by omega)
 ·exact h.more
theorem its_none (w:World) (B:Nat):Its w B (.slice none 0 0) []:=⟨World.ownsRow_nil _ _ _ _,by simp⟩
end
end Go.Proofs.YtcedebpoihcbdaaGreatDoor
