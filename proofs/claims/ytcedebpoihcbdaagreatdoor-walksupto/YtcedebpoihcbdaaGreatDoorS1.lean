/-
  What is known of a script that comes in: where its steps lie; and what the bound on its bulk gives.
-/
import Derived.Test.YtcedebpoihcbdaaGreatDoorRows
import Derived.Test.YtcedebpoihcbdaaGreatDoorD8
import Derived.Deep.SlicePairs
set_option linter.unusedVariables false
namespace Go.Proofs.YtcedebpoihcbdaaGreatDoor
open Go.RowKit Go.Deep Go.ChangeShapes Go.WideShapes
theorem bulk_pos {H:Type} (d:DataW H):1≤Rows.uptoBulk d:=by
 cases d with
 | lit x=>cases x <;> simp [Rows.uptoBulk]
 | _=>simp [Rows.uptoBulk]
theorem bulk_mem {H:Type} {d:DataW H} {l:List (DataW H)} (h:d∈l):Rows.uptoBulk d≤Rows.uptoBulkAll l:=by
 induction l with
 | nil=>cases h
 | cons x r ih =>
  simp only [Rows.uptoBulkAll]
  rcases List.mem_cons.1 h with e | e
  ·subst e;omega
  ·have:=ih e;omega
theorem bulk_many {H:Type} {m:Nat} {l:List (DataW H)} (h:∀ d,d∈l→m≤Rows.uptoBulk d):m*l.length≤Rows.uptoBulkAll l:=by
 induction l with
 | nil=>simp
 | cons x r ih =>
  have h1:=h x (by simp)
  have h2:=ih (fun d hd=>h d (by simp [hd]))
  simp only [Rows.uptoBulkAll,List.length_cons]
  rw [Nat.mul_succ]
  omega
theorem opCells9:Tryz.prog.cellsOf 59=9:=by kernel_rfl
theorem cells3:Tryz.prog.cellsOf 3=1:=by kernel_rfl
theorem cells9:Tryz.prog.cellsOf 9=1:=by kernel_rfl
theorem cells33:Tryz.prog.cellsOf 33=1:=by kernel_rfl
theorem cells4:Tryz.prog.cellsOf 4=1:=by kernel_rfl
theorem cellsRule:Tryz.prog.cellsOf 32=2:=by kernel_rfl
section
variable {H:Type} {enc:TypeId × Value→H} {W:World} {sp:Nat→Bool} {held:Bool}
theorem lit_bounds {z:Int} (h:(Lit.int .i64 z).wf=true):-9223372036854775808≤z∧z≤9223372036854775807:=bounds_i64 h
theorem open_lent {fuel:Nat} {v:Value} {x:DataW H × List MemPlace} (h:DataW.trod enc Tryz.prog W 0 sp held fuel 33 [v]=some x) (hb:Rows.uptoBulk x.1≤1048576) :
  ∃ ra rn rc,v=.slice ra rn rc∧LentIn W W.heap.size ra rn rc:=by
 rcases open_slice_pairs Tryz.underlying33 Tryz.underlying32 cellsRule rfl rfl cells9 cells3 h with ⟨hcs,_⟩ | ⟨a,len,cap,m,n,V0,V1,D0,D1,P0,P1,hcs,_,hl,hm,hmm,rfl,hx⟩
 ·simp only [List.cons.injEq,and_true] at hcs
  exact ⟨none,0,0,hcs,.inl ⟨rfl,rfl,rfl⟩⟩
 ·simp only [List.cons.injEq,and_true] at hcs
  refine ⟨some a,len,cap,hcs,?_⟩
  have hlm:len≤m:=by rw [hmm];split <;> omega
  have hbl:Rows.uptoBulkAll ((List.range len).map fun i=>DataW.agg [D0 i,D1 i])≤1048576:=by
   simp only [Rows.uptoBulk] at hb
   omega
  have hlen:=bulk_many (m:=1) (l:=(List.range len).map fun i=>DataW.agg [D0 i,D1 i]) (fun d _=>bulk_pos d)
  simp only [List.length_map,List.length_range,Nat.one_mul] at hlen
  refine .inr ⟨a,rfl,hl,hm,by omega,?_⟩
  by_cases h0:len=0
  ·exact .inl h0
  ·right
   obtain ⟨b,off,spot⟩:=a
   have hc0:=(hx 0 (by omega)).1
   have hspot:spot=none:=by simpa [Addr.add] using World.cell?_spot hc0
   subst hspot
   refine ⟨b,off,rfl,World.block_lt_of_cell? W _ hc0,fun i hi=>?_⟩
   obtain ⟨x0,x1,x2,x3⟩:=hx i (by omega)
   rw [at_add] at x0 x1
   obtain ⟨s,e1,e2,_⟩:=DataW.trod_string Tryz.underlying9 x2
   obtain ⟨z,e3,e4,e5⟩:=DataW.trod_int Tryz.underlying3 x3
   simp only [List.cons.injEq,and_true] at e1 e3
   simp only [Prod.mk.injEq] at e2
   have hmem:DataW.agg [D0 i,D1 i]∈(List.range len).map fun i=>DataW.agg [D0 i,D1 i]:=List.mem_map.2 ⟨i,List.mem_range.2 hi,rfl⟩
   have hbi:=bulk_mem hmem
   rw [e2.1] at hbi
   simp only [Rows.uptoBulk,Rows.uptoBulkAll] at hbi
   have hsz:s.data.toList.length=s.size:=by simp
   refine ⟨s,z,by rw [x0,e1],by rw [Nat.add_assoc,x1,e3],by omega,(lit_bounds e5).1,(lit_bounds e5).2⟩
theorem list9 {α:Type} {l:List α} (h:l.length=9):∃ a0 a1 a2 a3 a4 a5 a6 a7 a8,l=[a0,a1,a2,a3,a4,a5,a6,a7,a8]:=by
 rcases l with _ | ⟨a0,l⟩ <;> simp at h
 rcases l with _ | ⟨a1,l⟩ <;> simp at h
 rcases l with _ | ⟨a2,l⟩ <;> simp at h
 rcases l with _ | ⟨a3,l⟩ <;> simp at h
 rcases l with _ | ⟨a4,l⟩ <;> simp at h
 rcases l with _ | ⟨a5,l⟩ <;> simp at h
 rcases l with _ | ⟨a6,l⟩ <;> simp at h
 rcases l with _ | ⟨a7,l⟩ <;> simp at h
 rcases l with _ | ⟨a8,l⟩ <;> simp at h
 subst h
 exact ⟨_,_,_,_,_,_,_,_,_,rfl⟩
theorem open_op {fuel:Nat} {cs:List Value} {x:DataW H × List MemPlace} (h:DataW.trod enc Tryz.prog W 0 sp held fuel 59 cs=some x) (hb:Rows.uptoBulk x.1≤1048576) :
  10≤Rows.uptoBulk x.1∧∃ (kind a b' c' g':Int) (s t:ByteArray) (ra:Option Addr) (rn rc:Nat) (y:Bool),cs=[.int .i64 kind,.int .i64 a,.int .i64 b',.int .i64 c',.int .i64 g',.string s,.string t,.slice ra rn rc,.bool y] ∧
   -9223372036854775808≤g'∧g'≤9223372036854775807∧OpOK W W.heap.size s t ra rn rc:=by
 obtain ⟨xs,k,hk,rfl,hl,hxl,hf⟩:=DataW.trod_struct Tryz.underlying59 h
 rw [opCells9] at hl
 obtain ⟨y0,y1,y2,y3,y4,y5,y6,y7,y8,rfl⟩:=list9 (l:=xs) hxl
 obtain ⟨v0,v1,v2,v3,v4,v5,v6,v7,v8,rfl⟩:=list9 hl
 have g0:DataW.trod enc Tryz.prog W 0 sp held k 3 [v0]=some y0:=by
  have:=hf 0 _ rfl
  simpa [cells3,cells9,cells33,cells4] using this
 have g1:DataW.trod enc Tryz.prog W 0 sp held k 3 [v1]=some y1:=by
  have:=hf 1 _ rfl
  simpa [cells3,cells9,cells33,cells4] using this
 have g2:DataW.trod enc Tryz.prog W 0 sp held k 3 [v2]=some y2:=by
  have:=hf 2 _ rfl
  simpa [cells3,cells9,cells33,cells4] using this
 have g3:DataW.trod enc Tryz.prog W 0 sp held k 3 [v3]=some y3:=by
  have:=hf 3 _ rfl
  simpa [cells3,cells9,cells33,cells4] using this
 have g4:DataW.trod enc Tryz.prog W 0 sp held k 3 [v4]=some y4:=by
  have:=hf 4 _ rfl
  simpa [cells3,cells9,cells33,cells4] using this
 have g5:DataW.trod enc Tryz.prog W 0 sp held k 9 [v5]=some y5:=by
  have:=hf 5 _ rfl
  simpa [cells3,cells9,cells33,cells4] using this
 have g6:DataW.trod enc Tryz.prog W 0 sp held k 9 [v6]=some y6:=by
  have:=hf 6 _ rfl
  simpa [cells3,cells9,cells33,cells4] using this
 have g7:DataW.trod enc Tryz.prog W 0 sp held k 33 [v7]=some y7:=by
  have:=hf 7 _ rfl
  simpa [cells3,cells9,cells33,cells4] using this
 have g8:DataW.trod enc Tryz.prog W 0 sp held k 4 [v8]=some y8:=by
  have:=hf 8 _ rfl
  simpa [cells3,cells9,cells33,cells4] using this
 obtain ⟨z0,e0,d0,_⟩:=DataW.trod_int Tryz.underlying3 g0
 obtain ⟨z1,e1,d1,_⟩:=DataW.trod_int Tryz.underlying3 g1
 obtain ⟨z2,e2,d2,_⟩:=DataW.trod_int Tryz.underlying3 g2
 obtain ⟨z3,e3,d3,_⟩:=DataW.trod_int Tryz.underlying3 g3
 obtain ⟨z4,e4,d4,w4⟩:=DataW.trod_int Tryz.underlying3 g4
 obtain ⟨s,e5,d5,_⟩:=DataW.trod_string Tryz.underlying9 g5
 obtain ⟨t,e6,d6,_⟩:=DataW.trod_string Tryz.underlying9 g6
 obtain ⟨y,e8,d8⟩:=DataW.trod_bool Tryz.underlying4 g8
 simp only [List.cons.injEq,and_true] at e0 e1 e2 e3 e4 e5 e6 e8
 have p7:=bulk_pos y7.1
 subst d0 d1 d2 d3 d4 d5 d6 d8
 simp only [List.map_cons,List.map_nil,Rows.uptoBulk,Rows.uptoBulkAll] at hb ⊢
 obtain ⟨ra,rn,rc,e7,hr⟩:=open_lent g7 (by omega)
 have hs:s.data.toList.length=s.size:=by simp
 have ht:t.data.toList.length=t.size:=by simp
 refine ⟨by omega,z0,z1,z2,z3,z4,s,t,ra,rn,rc,y,by rw [e0,e1,e2,e3,e4,e5,e6,e7,e8],(lit_bounds w4).1,(lit_bounds w4).2,by omega,by omega,hr⟩
theorem open_script {fuel:Nat} {v:Value} {x:DataW H × List MemPlace} (h:DataW.trod enc Tryz.prog W 0 sp held fuel 22 [v]=some x) (hb:Rows.uptoBulk x.1≤1048576) :
  ∃ sa n sc,v=.slice sa n sc∧n≤200000∧ScriptIn W sa n:=by
 rcases open_slice Tryz.underlying22 h with ⟨hcs,_⟩ | ⟨a,len,cap,m,n,D,Pl,hcs,_,hl,hm,hmm,rfl,hx⟩
 ·simp only [List.cons.injEq,and_true] at hcs
  exact ⟨none,0,0,hcs,by omega,.inl rfl⟩
 ·simp only [List.cons.injEq,and_true] at hcs
  have hlm:len≤m:=by rw [hmm];split <;> omega
  have hbl:Rows.uptoBulkAll ((List.range len).map D)≤1048576:=by
   simp only [Rows.uptoBulk] at hb
   omega
  rw [opCells9] at hx
  have each:∀ i,i<len→Rows.uptoBulk (D i)≤1048576:=fun i hi=>Nat.le_trans (bulk_mem (List.mem_map.2 ⟨i,List.mem_range.2 hi,rfl⟩)) hbl
  have hlen:=bulk_many (m:=10) (l:=(List.range len).map D) (fun d hd=>by
   obtain ⟨i,hi,rfl⟩:=List.mem_map.1 hd
   have hi':=List.mem_range.1 hi
   obtain ⟨cs',_,h2⟩:=hx i (by omega)
   exact (open_op h2 (each i hi')).1)
  simp only [List.length_map,List.length_range] at hlen
  refine ⟨some a,len,cap,hcs,by omega,?_⟩
  by_cases h0:len=0
  ·exact .inl h0
  ·right
   have cell:∀ i,i<len→∃ (kind a1 b' c' g':Int) (s t:ByteArray) (ra:Option Addr) (rn rc:Nat) (y:Bool),(∀ j,j<9→W.cell? (a.add (i*9+j))=[Value.int .i64 kind,.int .i64 a1,.int .i64 b',.int .i64 c',.int .i64 g',.string s,.string t,.slice ra rn rc,.bool y][j]?) ∧
     -9223372036854775808≤g'∧g'≤9223372036854775807∧OpOK W W.heap.size s t ra rn rc:=by
    intro i hi
    obtain ⟨cs',h1,h2⟩:=hx i (by omega)
    obtain ⟨_,kind,a1,b',c',g',s,t,ra,rn,rc,y,rfl,q1,q2,q3⟩:=open_op h2 (each i hi)
    obtain ⟨_,_,hcell⟩:=World.cells?_some h1
    refine ⟨kind,a1,b',c',g',s,t,ra,rn,rc,y,fun j hj=>?_,q1,q2,q3⟩
    have:=hcell j hj
    rw [add_add] at this
    exact this
   obtain ⟨_,_,_,_,_,_,_,_,_,_,_,hc0,_⟩:=cell 0 (by omega)
   have hc00:=hc0 0 (by omega)
   obtain ⟨b,off,spot⟩:=a
   have hspot:spot=none:=by simpa [Addr.add] using World.cell?_spot hc00
   subst hspot
   refine ⟨b,off,rfl,World.block_lt_of_cell? W _ hc00,fun i hi=>?_⟩
   obtain ⟨kind,a1,b',c',g',s,t,ra,rn,rc,y,hc,q1,q2,q3⟩:=cell i hi
   have hc':∀ j,j<9→W.cell? ⟨b,off+i*9+j,none⟩=[Value.int .i64 kind,.int .i64 a1,.int .i64 b',.int .i64 c',.int .i64 g',.string s,.string t,.slice ra rn rc,.bool y][j]?:=fun j hj=>by
    have:=hc j hj
    rw [at_add] at this
    rw [Nat.add_assoc]
    exact this
   exact ⟨kind,a1,b',c',g',s,t,ra,rn,rc,y,⟨hc' 0 (by omega),hc' 1 (by omega),hc' 2 (by omega),hc' 3 (by omega),hc' 4 (by omega),hc' 5 (by omega),hc' 6 (by omega),hc' 7 (by omega),hc' 8 (by omega)⟩,q1,q2,q3⟩
end
end Go.Proofs.YtcedebpoihcbdaaGreatDoor
