/-
  The law's 'gone': a node is taken under an iterator.
-/
import Derived.Test.YtcedebpoihcbdaaY4
namespace Go.Proofs.Ytcedebpoihcbdaa
open Go.RowKit Gv

theorem filt_snoc {l U : List Nat} {j x : Nat} (hx : l[j]? = some x) : (l.take (j + 1)).filter (fun y => decide (y ∉ U)) = (l.take j).filter (fun y => decide (y ∉ U)) ++ (if x ∈ U then [] else [x]) := by
  obtain ⟨hj, e⟩ := List.getElem?_eq_some_iff.1 hx
  rw [List.take_succ_eq_append_getElem hj, List.filter_append, e]
  by_cases h : x ∈ U <;> simp [h]

section
variable {B : Nat} {w : World} {gb nb cap N : Nat} {kk : Nat → Nat} {tg : Nat → ByteArray} {kd : Nat → Value} {mp : Nat → Nat} {σ : St} {r : Re}

set_option maxRecDepth 100000 in
set_option maxHeartbeats 8000000 in
theorem goneS (h : Gro B w gb nb cap N kk tg kd mp σ r) (hpl : 0 ≤ r.pl) (hpl2 : r.pl ≤ 1000000) {it : It} (hits : σ.its = [it]) (hroot : it.spot.root = 1) (m : Nat) (hm1 : 1 ≤ m) (hmN : m ≤ N) :
    Calls Try.prog 18 #[.pointer (some ⟨gb, 0, none⟩), .int .i64 N, .int .i64 m] w fun e w' => e = .returned (.bool true) ∧ ∃ r', Gro B w' gb nb cap N kk tg kd mp (σ.take N m) r' ∧ r.like r' 2 ∧ Fr (gset gb nb r.iv) w w' := by
  obtain ⟨i0, hii, hz0, hz1, hz2⟩ := info_parts Try.info3
  have hN3 := h.N1
  have hN1 : 1 ≤ N := by omega
  obtain ⟨sr1, srN, sp1, spN, sd⟩ := h.sound it (by rw [hits]; simp)
  have hmem : it.spot.place ∈ P N σ.K 1 := by have := (P_mem h.wf hN1 sp1 spN sr1).2 sd; rwa [hroot] at this
  obtain ⟨k, hk⟩ := List.getElem?_of_mem hmem
  have hnd := P_nodup h.wf (x := 1) (by omega) hN1
  have hndU := P_nodup h.wf hm1 hmN
  have hlen := P_len h.wf (x := 1) (by omega) hN1
  have hlenU := P_len h.wf hm1 hmN
  have hkl := (List.getElem?_eq_some_iff.1 hk).1
  have FACT := leave_fact h.wf hN1 hm1 hmN it.spot sr1 srN (by rw [hroot]; exact hk)
  rw [hroot] at FACT
  have u1 : 1 ∈ P N σ.K m ↔ Desc σ.s.par 1 m := P_mem h.wf hN1 (by omega) hN1 hm1
  have up : it.spot.place ∈ P N σ.K m ↔ Desc σ.s.par it.spot.place m := P_mem h.wf hN1 sp1 spN hm1
  have HFACT : Hid _ := FACT
  have HU1 : Hid (1 ∈ P N σ.K m ↔ Desc σ.s.par 1 m) := u1
  have HUP : Hid (it.spot.place ∈ P N σ.K m ↔ Desc σ.s.par it.spot.place m) := up
  have HL1 : Hid (∀ x, x ∈ P N σ.K 1 → 1 ≤ x ∧ x ≤ N) := fun x hx => pre_le h.wf N 1 x (by omega) hN1 hx
  have hi0 : σ.its[0]? = some it := by rw [hits]; rfl
  have HI0 : Hid (σ.its[0]? = some it) := hi0
  have HIT : Hid (σ.its = [it]) := hits
  have HG : Hid (Gro B w gb nb cap N kk tg kd mp σ r) := h
  have HK : Hid ((P N σ.K 1)[k]? = some it.spot.place) := hk
  have HND : Hid ((P N σ.K 1).Nodup) := hnd
  have HNDU : Hid ((P N σ.K m).Nodup) := hndU
  have hat : it.spot.at_ k ≤ (P N σ.K 1).length := by unfold Spot.at_; split <;> omega
  have HAT : Hid (it.spot.at_ k = if it.spot.ahead = true then k else k + 1) := rfl
  have hb0 := h.setlt
  have HB0 : Hid (∀ i, gset gb nb r.iv i → i < w.heap.size) := hb0
  clear h hits hroot sd hmem hk hnd hndU FACT u1 up hi0 hb0
  go_enter Try.func18, Try.ntmps18
  go_wp2_with fail
  refine (withinS HG.out 1 (by omega) hN1).mono ?_
  rintro e w1 ⟨g1, c1, rfl, l1, hc1, b1⟩
  have G1 : Hid (Gro B w1 gb nb cap N kk tg kd mp σ r) := HG.out.since b1
  have L1 : Hid (Lst w1 w.heap.size g1 (P N σ.K 1)) := l1
  have B1 : Hid (Below w.heap.size w w1) := b1
  clear l1 b1
  go_wp2_with fail
  refine (atC G1.out (i := 0) HI0.out).mono ?_
  rintro e w2 ⟨rfl, b2⟩
  have G2 : Hid (Gro B w2 gb nb cap N kk tg kd mp σ r) := G1.out.since b2
  have L2 : Hid (Lst w2 w.heap.size g1 (P N σ.K 1)) := L1.out.since b2
  have B2 : Hid (Below w.heap.size w w2) := B1.out.trans (b2.mono B1.out.size)
  clear b2 G1 L1 B1
  go_wp2_with fail
  refine (atS w2 (c := c1) L2.out HND.out (by omega) HK.out).mono ?_
  rintro e w2 ⟨rfl, rfl⟩
  cases hah : it.spot.ahead with
  | true =>
    obtain ⟨nx, hnx⟩ : ∃ nx : Nat, nx = k := ⟨k, rfl⟩
    have HNX : Hid (nx = it.spot.at_ k) := by show nx = it.spot.at_ k; rw [hnx]; unfold Spot.at_; rw [hah]; rfl
    have hnl : nx ≤ (P N σ.K 1).length := by rw [HNX.out]; exact hat
    have HAH : Hid (it.spot.ahead = true) := hah
    clear hah
    go_wp2_with fail
    rw [← hnx]
    clear hnx
    refine (withinS G2.out m hm1 hmN).mono ?_
    rintro e w3 ⟨g2, c2, rfl, u3, hc2, b3⟩
    have G3 : Hid (Gro B w3 gb nb cap N kk tg kd mp σ r) := G2.out.since b3
    have L3 : Hid (Lst w3 w.heap.size g1 (P N σ.K 1)) := L2.out.since b3
    have U3 : Hid (Lst w3 w.heap.size g2 (P N σ.K m)) := ⟨Nat.le_trans B2.out.size u3.1, u3.2⟩
    have B3 : Hid (Below w.heap.size w w3) := B2.out.trans (b3.mono B2.out.size)
    clear b3 u3 G2 L2 B2
    go_wp2_with fail
    go_loopw [14, 15] (fun v i wr => ∃ j : Nat, j ≤ nx ∧ i = .int .i64 j ∧ wr.ownsRow w3.heap.size 3 1 v ((P N σ.K 1).take j |>.filter (fun y => decide (y ∉ P N σ.K m))).length (ints ((P N σ.K 1).take j |>.filter (fun y => decide (y ∉ P N σ.K m)))) ∧ Below w3.heap.size w3 wr) (fun _ i _ => nx - (intOf i).toNat)
    case atStart => exact ⟨0, Nat.zero_le _, rfl, by simp; exact World.ownsRow_nil _ _ _ _, Below.refl _ _⟩
    case round =>
      obtain ⟨j, hj, rfl, hown, hbel⟩ := hrel
      obtain ⟨w4, rfl⟩ : ∃ w4 : World, w4 = wr := ⟨_, rfl⟩
      have OW : Hid _ := hown
      have B4' : Hid (Below w3.heap.size w3 w4) := hbel
      have B4 : Hid (Below w.heap.size w w4) := B3.out.trans (hbel.mono B3.out.size)
      have G4 : Hid (Gro B w4 gb nb cap N kk tg kd mp σ r) := G3.out.since hbel
      have U4 : Hid (Lst w4 w.heap.size g2 (P N σ.K m)) := U3.out.since hbel
      have L4 : Hid (Lst w4 w.heap.size g1 (P N σ.K 1)) := L3.out.since hbel
      clear hown hbel
      by_cases hjn : j < nx
      · have hjl : j < (P N σ.K 1).length := by omega
        have hget : (P N σ.K 1)[j]? = some ((P N σ.K 1).getD j 0) := by rw [List.getD_eq_getElem?_getD, List.getElem?_eq_getElem hjl]; rfl
        have HFS : Hid (((P N σ.K 1).take (j + 1)).filter (fun y => decide (y ∉ P N σ.K m)) = ((P N σ.K 1).take j).filter (fun y => decide (y ∉ P N σ.K m)) ++ (if (P N σ.K 1).getD j 0 ∈ P N σ.K m then [] else [(P N σ.K 1).getD j 0])) := filt_snoc hget
        have hcell := L4.out.2.2 j hjl
        have hfl : (((P N σ.K 1).take j).filter (fun y => decide (y ∉ P N σ.K m))).length ≤ 1000 := by
          have := List.length_filter_le (fun y => decide (y ∉ P N σ.K m)) ((P N σ.K 1).take j)
          rw [List.length_take] at this
          omega
        have HGX : Hid ((P N σ.K 1).getD j 0 ∈ P N σ.K 1) := List.mem_of_getElem? hget
        clear hget
        generalize (P N σ.K 1).getD j 0 = x at *
        have jn : (j : Int) < (nx : Int) := by omega
        have jl : (j : Int) < (((P N σ.K 1).length : Nat) : Int) := by omega
        by_cases hxU : x ∈ P N σ.K m
        · obtain ⟨kx, hkx⟩ := List.getElem?_of_mem hxU
          have HKX : Hid ((P N σ.K m)[kx]? = some x) := hkx
          have HFS2 : Hid (((P N σ.K 1).take (j + 1)).filter (fun y => decide (y ∉ P N σ.K m)) = ((P N σ.K 1).take j).filter (fun y => decide (y ∉ P N σ.K m))) := by
            have := HFS.out; rw [if_pos hxU, List.append_nil] at this; exact this
          clear hkx hxU HFS
          go_wp2_with fail
          refine (atS w4 (c := c2) U4.out HNDU.out (by omega) HKX.out).mono ?_
          rintro e w4 ⟨rfl, rfl⟩
          go_wp2_with fail
          go_roundw
          case rel => exact ⟨j + 1, hjn, by go_num, by rw [HFS2.out]; exact OW.out, B4'.out⟩
          case measure => simp [intOf]; omega
        · have HXU : Hid (x ∉ P N σ.K m) := hxU
          have HFS2 : Hid (((P N σ.K 1).take (j + 1)).filter (fun y => decide (y ∉ P N σ.K m)) = ((P N σ.K 1).take j).filter (fun y => decide (y ∉ P N σ.K m)) ++ [x]) := by
            have := HFS.out; rw [if_neg hxU] at this; exact this
          clear hxU HFS
          generalize ((P N σ.K 1).take j).filter (fun y => decide (y ∉ P N σ.K m)) = T at *
          have s4 := B4'.out.size
          go_wp2_with fail
          refine (atN w4 (c := c2) U4.out (by omega) HXU.out).mono ?_
          rintro e w4 ⟨rfl, rfl⟩
          go_wp2_with (at_builtin; refine wpList_append_own _ rfl _ _ 22 rfl w3.heap.size 3 i0 (.int .i64 0) 1 8 Try.underlying22 hii hz0 hz1 hz2 rfl (by decide) _ _ _ rfl (World.ownsRow.alloc OW.out _) ⟨w4.heap.size, 0, none⟩ 1 1 [.int .i64 x] rfl rfl ?c1 ?c2 ?c3 ?c4 ?c5 ?_)
          case c1 =>
            intro j2 u hj2
            match j2, hj2 with
            | 0, hj2 => simp at hj2; subst hj2; simp [Addr.add]
          case c2 => intro u hu; simp at hu; subst hu; rfl
          case c3 => unfold maxLen; omega
          case c4 => omega
          case c5 => simp; omega
          intro v' w5 hown' hgrow _
          have hb5 : Below w3.heap.size w3 w5 := (B4'.out.alloc B4'.out.size _).grown hgrow (by simp; omega) (fun k hk => (World.ownsRow.lt OW.out k hk).1)
          rw [ints_append] at hown'
          have HO : Hid (w5.ownsRow w3.heap.size 3 1 v' (T ++ [x]).length (ints (T ++ [x]))) := by rw [List.length_append]; exact hown'
          have HB5 : Hid (Below w3.heap.size w3 w5) := hb5
          clear hown' hgrow hb5
          go_wp2_with fail
          go_roundw
          case rel => exact ⟨j + 1, hjn, by go_num, by rw [HFS2.out]; exact HO.out, HB5.out⟩
          case measure => simp [intOf]; omega
      · obtain rfl : j = nx := by omega
        have jn : ¬ (j : Int) < (j : Int) := by omega
        have HPA : Hid (((P N σ.K 1).take j).filter (fun y => decide (y ∉ P N σ.K m)) = ((P N σ.K 1).take (it.spot.at_ k)).filter (fun y => decide (y ∉ P N σ.K m))) := by
          show ((P N σ.K 1).take j).filter (fun y => decide (y ∉ P N σ.K m)) = _
          rw [HNX.out]
        obtain ⟨_, pao, pcap, hpv, _, _⟩ := nums_of OW.out
        have hpl3 : (((P N σ.K 1).take j).filter (fun y => decide (y ∉ P N σ.K m))).length ≤ 1000 := by
          have := List.length_filter_le (fun y => decide (y ∉ P N σ.K m)) ((P N σ.K 1).take j)
          rw [List.length_take] at this
          omega
        have HPL : Hid ((((P N σ.K 1).take j).filter (fun y => decide (y ∉ P N σ.K m))).length = (((P N σ.K 1).take (it.spot.at_ k)).filter (fun y => decide (y ∉ P N σ.K m))).length) := by rw [HPA.out]; rfl
        generalize (((P N σ.K 1).take j).filter (fun y => decide (y ∉ P N σ.K m))).length = pl at *
        subst hpv
        clear OW HPA L4 L3 U3 G3
        go_wp2_with fail
        refine (takeS G4.out hpl hpl2 m hm1 hmN).mono ?_
        rintro e w5 ⟨rfl, r5, G5', lk, F5'⟩
        have G5 : Hid (Gro B w5 gb nb cap N kk tg kd mp (σ.take N m) r5) := G5'
        have LK : Hid (r.like r5 2) := lk
        have F5 : Hid (Fr (gset gb nb r.iv) w4 w5) := F5'
        have U5 : Hid (Lst w5 w.heap.size g2 (P N σ.K m)) := U4.out.fr F5' (fun hs => by have := HB0.out _ hs; have := U4.out.1; omega)
        have FW5 : Hid (Fr (gset gb nb r.iv) w w5) := (Fr.of_below B4.out).trans F5'
        clear G5' lk F5' G4 U4
        by_cases h0 : σ.s.par m = 0
        · rw [if_pos h0]
          clear h0
          go_wp2_with fail
          go_ret
          exact ⟨rfl, r5, G5.out, LK.out, FW5.out⟩
        · rw [if_neg h0]
          have ETK : Hid (σ.take N m = { s := σ.s.remove m, K := dropK σ.K m, its := σ.its.map (It.leave N σ.s m) }) := by show σ.take N m = _; unfold St.take; rw [if_neg h0]
          have HI5 : Hid ((σ.take N m).its[0]? = some (it.leave N σ.s m)) := by show (σ.take N m).its[0]? = _; rw [ETK.out, HIT.out]; rfl
          have EK5 : Hid ((σ.take N m).K = dropK σ.K m) := by show (σ.take N m).K = _; rw [ETK.out]
          have EP5 : Hid (P N (σ.take N m).K 1 = P N (dropK σ.K m) 1) := by show P N (σ.take N m).K 1 = _; rw [EK5.out]
          clear h0
          go_wp2_with fail
          refine (withinS G5.out 1 (by omega) hN1).mono ?_
          rw [EP5.out]
          rintro e w6 ⟨g6, c6, rfl, l6, hc6, b6⟩
          have G6 : Hid (Gro B w6 gb nb cap N kk tg kd mp (σ.take N m) r5) := G5.out.since b6
          have L6 : Hid (Lst w6 w5.heap.size g6 (P N (dropK σ.K m) 1)) := l6
          have U6 : Hid (Lst w6 w.heap.size g2 (P N σ.K m)) := U5.out.since b6
          have FW6 : Hid (Fr (gset gb nb r.iv) w w6) := FW5.out.trans (Fr.of_below b6)
          clear b6 l6 G5 U5 FW5
          go_wp2_with fail
          refine (atC G6.out (i := 0) HI5.out).mono ?_
          rintro e w7 ⟨rfl, b7⟩
          have G7 : Hid (Gro B w7 gb nb cap N kk tg kd mp (σ.take N m) r5) := G6.out.since b7
          have L7 : Hid (Lst w7 w5.heap.size g6 (P N (dropK σ.K m) 1)) := L6.out.since b7
          have U7 : Hid (Lst w7 w.heap.size g2 (P N σ.K m)) := U6.out.since b7
          have FW7 : Hid (Fr (gset gb nb r.iv) w w7) := FW6.out.trans (Fr.of_below b7)
          have HLV : Hid ((it.leave N σ.s m).spot = it.spot.leave N σ.s m) := rfl
          rw [HLV.out]
          clear b7 G6 U6 FW6 L6
          go_wp2_with fail
          by_cases h1U : 1 ∈ P N σ.K m
          · obtain ⟨kx, hkx⟩ := List.getElem?_of_mem h1U
            have HKX : Hid ((P N σ.K m)[kx]? = some 1) := hkx
            have ELV : Hid (it.spot.leave N σ.s m = it.spot) := HFACT.out.1 (HU1.out.1 h1U)
            clear hkx h1U
            refine (atS w7 (c := c2) U7.out HNDU.out (by omega) HKX.out).mono ?_
            rintro e w7 ⟨rfl, rfl⟩
            rw [ELV.out, HAH.out]
            go_wp2_with fail
            go_ret
            exact ⟨by simp, r5, G7.out, LK.out, FW7.out⟩
          · obtain ⟨k', hk', hsame, hcount⟩ := HFACT.out.2 (fun hd => h1U (HU1.out.2 hd))
            have H1U : Hid (1 ∉ P N σ.K m) := h1U
            have HK' : Hid ((P N (dropK σ.K m) 1)[k']? = some (it.spot.leave N σ.s m).place) := hk'
            have HSAME : Hid (¬ Desc σ.s.par it.spot.place m → it.spot.leave N σ.s m = it.spot) := hsame
            have HCNT : Hid ((it.spot.leave N σ.s m).at_ k' = pl) := by
              show (it.spot.leave N σ.s m).at_ k' = pl
              rw [hcount]; exact HPL.out.symm
            have hwf7 := G7.out.wf
            rw [EK5.out] at hwf7
            have HND7 : Hid ((P N (dropK σ.K m) 1).Nodup) := P_nodup hwf7 (by omega) hN1
            have hlen7 := P_len hwf7 (x := 1) (by omega) hN1
            have hk'l := (List.getElem?_eq_some_iff.1 hk').1
            clear hk' hsame hcount h1U hwf7
            refine (atN w7 (c := c2) U7.out (by omega) H1U.out).mono ?_
            rintro e w7 ⟨rfl, rfl⟩
            go_wp2_with fail
            refine (atS w7 (c := c6) L7.out HND7.out (by omega) HK'.out).mono ?_
            rintro e w7 ⟨rfl, rfl⟩
            go_wp2_with fail
            by_cases hpU : it.spot.place ∈ P N σ.K m
            · obtain ⟨kx, hkx⟩ := List.getElem?_of_mem hpU
              have HKX : Hid ((P N σ.K m)[kx]? = some it.spot.place) := hkx
              clear hkx hpU
              refine (atS w7 (c := c2) U7.out HNDU.out (by omega) HKX.out).mono ?_
              rintro e w7 ⟨rfl, rfl⟩
              cases hnow : (it.spot.leave N σ.s m).ahead with
              | true =>
                have hpk : pl = k' := by have := HCNT.out; unfold Spot.at_ at this; rw [hnow] at this; simpa using this.symm
                subst hpk
                go_wp2_with fail
                go_ret
                exact ⟨by simp, r5, G7.out, LK.out, FW7.out⟩
              | false =>
                have hpk : pl = k' + 1 := by have := HCNT.out; unfold Spot.at_ at this; rw [hnow] at this; simpa using this.symm
                subst hpk
                go_wp2_with fail
                go_ret
                exact ⟨by simp, r5, G7.out, LK.out, FW7.out⟩
            · have HPU : Hid (it.spot.place ∉ P N σ.K m) := hpU
              have ELV : Hid (it.spot.leave N σ.s m = it.spot) := HSAME.out (fun hd => hpU (HUP.out.2 hd))
              clear hpU
              refine (atN w7 (c := c2) U7.out (by omega) HPU.out).mono ?_
              rintro e w7 ⟨rfl, rfl⟩
              rw [ELV.out, HAH.out]
              have HCN2 : Hid (it.spot.at_ k' = pl) := by have := HCNT.out; rw [ELV.out] at this; exact this
              have hpk : pl = k'  := by have := HCN2.out; unfold Spot.at_ at this; rw [HAH.out] at this; simpa using this.symm
              subst hpk
              go_wp2_with fail
              go_ret
              exact ⟨by simp, r5, G7.out, LK.out, FW7.out⟩
  | false =>
    obtain ⟨nx, hnx⟩ : ∃ nx : Nat, nx = k + 1 := ⟨k + 1, rfl⟩
    have HNX : Hid (nx = it.spot.at_ k) := by show nx = it.spot.at_ k; rw [hnx]; unfold Spot.at_; rw [hah]; rfl
    have hnl : nx ≤ (P N σ.K 1).length := by rw [HNX.out]; exact hat
    have HAH : Hid (it.spot.ahead = false) := hah
    clear hah
    go_wp2_with fail
    rw [show ((k : Int) + 1) = ((nx : Nat) : Int) from by omega]
    clear hnx
    refine (withinS G2.out m hm1 hmN).mono ?_
    rintro e w3 ⟨g2, c2, rfl, u3, hc2, b3⟩
    have G3 : Hid (Gro B w3 gb nb cap N kk tg kd mp σ r) := G2.out.since b3
    have L3 : Hid (Lst w3 w.heap.size g1 (P N σ.K 1)) := L2.out.since b3
    have U3 : Hid (Lst w3 w.heap.size g2 (P N σ.K m)) := ⟨Nat.le_trans B2.out.size u3.1, u3.2⟩
    have B3 : Hid (Below w.heap.size w w3) := B2.out.trans (b3.mono B2.out.size)
    clear b3 u3 G2 L2 B2
    go_wp2_with fail
    go_loopw [14, 15] (fun v i wr => ∃ j : Nat, j ≤ nx ∧ i = .int .i64 j ∧ wr.ownsRow w3.heap.size 3 1 v ((P N σ.K 1).take j |>.filter (fun y => decide (y ∉ P N σ.K m))).length (ints ((P N σ.K 1).take j |>.filter (fun y => decide (y ∉ P N σ.K m)))) ∧ Below w3.heap.size w3 wr) (fun _ i _ => nx - (intOf i).toNat)
    case atStart => exact ⟨0, Nat.zero_le _, rfl, by simp; exact World.ownsRow_nil _ _ _ _, Below.refl _ _⟩
    case round =>
      obtain ⟨j, hj, rfl, hown, hbel⟩ := hrel
      obtain ⟨w4, rfl⟩ : ∃ w4 : World, w4 = wr := ⟨_, rfl⟩
      have OW : Hid _ := hown
      have B4' : Hid (Below w3.heap.size w3 w4) := hbel
      have B4 : Hid (Below w.heap.size w w4) := B3.out.trans (hbel.mono B3.out.size)
      have G4 : Hid (Gro B w4 gb nb cap N kk tg kd mp σ r) := G3.out.since hbel
      have U4 : Hid (Lst w4 w.heap.size g2 (P N σ.K m)) := U3.out.since hbel
      have L4 : Hid (Lst w4 w.heap.size g1 (P N σ.K 1)) := L3.out.since hbel
      clear hown hbel
      by_cases hjn : j < nx
      · have hjl : j < (P N σ.K 1).length := by omega
        have hget : (P N σ.K 1)[j]? = some ((P N σ.K 1).getD j 0) := by rw [List.getD_eq_getElem?_getD, List.getElem?_eq_getElem hjl]; rfl
        have HFS : Hid (((P N σ.K 1).take (j + 1)).filter (fun y => decide (y ∉ P N σ.K m)) = ((P N σ.K 1).take j).filter (fun y => decide (y ∉ P N σ.K m)) ++ (if (P N σ.K 1).getD j 0 ∈ P N σ.K m then [] else [(P N σ.K 1).getD j 0])) := filt_snoc hget
        have hcell := L4.out.2.2 j hjl
        have hfl : (((P N σ.K 1).take j).filter (fun y => decide (y ∉ P N σ.K m))).length ≤ 1000 := by
          have := List.length_filter_le (fun y => decide (y ∉ P N σ.K m)) ((P N σ.K 1).take j)
          rw [List.length_take] at this
          omega
        have HGX : Hid ((P N σ.K 1).getD j 0 ∈ P N σ.K 1) := List.mem_of_getElem? hget
        clear hget
        generalize (P N σ.K 1).getD j 0 = x at *
        have jn : (j : Int) < (nx : Int) := by omega
        have jl : (j : Int) < (((P N σ.K 1).length : Nat) : Int) := by omega
        by_cases hxU : x ∈ P N σ.K m
        · obtain ⟨kx, hkx⟩ := List.getElem?_of_mem hxU
          have HKX : Hid ((P N σ.K m)[kx]? = some x) := hkx
          have HFS2 : Hid (((P N σ.K 1).take (j + 1)).filter (fun y => decide (y ∉ P N σ.K m)) = ((P N σ.K 1).take j).filter (fun y => decide (y ∉ P N σ.K m))) := by
            have := HFS.out; rw [if_pos hxU, List.append_nil] at this; exact this
          clear hkx hxU HFS
          go_wp2_with fail
          refine (atS w4 (c := c2) U4.out HNDU.out (by omega) HKX.out).mono ?_
          rintro e w4 ⟨rfl, rfl⟩
          go_wp2_with fail
          go_roundw
          case rel => exact ⟨j + 1, hjn, by go_num, by rw [HFS2.out]; exact OW.out, B4'.out⟩
          case measure => simp [intOf]; omega
        · have HXU : Hid (x ∉ P N σ.K m) := hxU
          have HFS2 : Hid (((P N σ.K 1).take (j + 1)).filter (fun y => decide (y ∉ P N σ.K m)) = ((P N σ.K 1).take j).filter (fun y => decide (y ∉ P N σ.K m)) ++ [x]) := by
            have := HFS.out; rw [if_neg hxU] at this; exact this
          clear hxU HFS
          generalize ((P N σ.K 1).take j).filter (fun y => decide (y ∉ P N σ.K m)) = T at *
          have s4 := B4'.out.size
          go_wp2_with fail
          refine (atN w4 (c := c2) U4.out (by omega) HXU.out).mono ?_
          rintro e w4 ⟨rfl, rfl⟩
          go_wp2_with (at_builtin; refine wpList_append_own _ rfl _ _ 22 rfl w3.heap.size 3 i0 (.int .i64 0) 1 8 Try.underlying22 hii hz0 hz1 hz2 rfl (by decide) _ _ _ rfl (World.ownsRow.alloc OW.out _) ⟨w4.heap.size, 0, none⟩ 1 1 [.int .i64 x] rfl rfl ?c1 ?c2 ?c3 ?c4 ?c5 ?_)
          case c1 =>
            intro j2 u hj2
            match j2, hj2 with
            | 0, hj2 => simp at hj2; subst hj2; simp [Addr.add]
          case c2 => intro u hu; simp at hu; subst hu; rfl
          case c3 => unfold maxLen; omega
          case c4 => omega
          case c5 => simp; omega
          intro v' w5 hown' hgrow _
          have hb5 : Below w3.heap.size w3 w5 := (B4'.out.alloc B4'.out.size _).grown hgrow (by simp; omega) (fun k hk => (World.ownsRow.lt OW.out k hk).1)
          rw [ints_append] at hown'
          have HO : Hid (w5.ownsRow w3.heap.size 3 1 v' (T ++ [x]).length (ints (T ++ [x]))) := by rw [List.length_append]; exact hown'
          have HB5 : Hid (Below w3.heap.size w3 w5) := hb5
          clear hown' hgrow hb5
          go_wp2_with fail
          go_roundw
          case rel => exact ⟨j + 1, hjn, by go_num, by rw [HFS2.out]; exact HO.out, HB5.out⟩
          case measure => simp [intOf]; omega
      · obtain rfl : j = nx := by omega
        have jn : ¬ (j : Int) < (j : Int) := by omega
        have HPA : Hid (((P N σ.K 1).take j).filter (fun y => decide (y ∉ P N σ.K m)) = ((P N σ.K 1).take (it.spot.at_ k)).filter (fun y => decide (y ∉ P N σ.K m))) := by
          show ((P N σ.K 1).take j).filter (fun y => decide (y ∉ P N σ.K m)) = _
          rw [HNX.out]
        obtain ⟨_, pao, pcap, hpv, _, _⟩ := nums_of OW.out
        have hpl3 : (((P N σ.K 1).take j).filter (fun y => decide (y ∉ P N σ.K m))).length ≤ 1000 := by
          have := List.length_filter_le (fun y => decide (y ∉ P N σ.K m)) ((P N σ.K 1).take j)
          rw [List.length_take] at this
          omega
        have HPL : Hid ((((P N σ.K 1).take j).filter (fun y => decide (y ∉ P N σ.K m))).length = (((P N σ.K 1).take (it.spot.at_ k)).filter (fun y => decide (y ∉ P N σ.K m))).length) := by rw [HPA.out]; rfl
        generalize (((P N σ.K 1).take j).filter (fun y => decide (y ∉ P N σ.K m))).length = pl at *
        subst hpv
        clear OW HPA L4 L3 U3 G3
        go_wp2_with fail
        refine (takeS G4.out hpl hpl2 m hm1 hmN).mono ?_
        rintro e w5 ⟨rfl, r5, G5', lk, F5'⟩
        have G5 : Hid (Gro B w5 gb nb cap N kk tg kd mp (σ.take N m) r5) := G5'
        have LK : Hid (r.like r5 2) := lk
        have F5 : Hid (Fr (gset gb nb r.iv) w4 w5) := F5'
        have U5 : Hid (Lst w5 w.heap.size g2 (P N σ.K m)) := U4.out.fr F5' (fun hs => by have := HB0.out _ hs; have := U4.out.1; omega)
        have FW5 : Hid (Fr (gset gb nb r.iv) w w5) := (Fr.of_below B4.out).trans F5'
        clear G5' lk F5' G4 U4
        by_cases h0 : σ.s.par m = 0
        · rw [if_pos h0]
          clear h0
          go_wp2_with fail
          go_ret
          exact ⟨rfl, r5, G5.out, LK.out, FW5.out⟩
        · rw [if_neg h0]
          have ETK : Hid (σ.take N m = { s := σ.s.remove m, K := dropK σ.K m, its := σ.its.map (It.leave N σ.s m) }) := by show σ.take N m = _; unfold St.take; rw [if_neg h0]
          have HI5 : Hid ((σ.take N m).its[0]? = some (it.leave N σ.s m)) := by show (σ.take N m).its[0]? = _; rw [ETK.out, HIT.out]; rfl
          have EK5 : Hid ((σ.take N m).K = dropK σ.K m) := by show (σ.take N m).K = _; rw [ETK.out]
          have EP5 : Hid (P N (σ.take N m).K 1 = P N (dropK σ.K m) 1) := by show P N (σ.take N m).K 1 = _; rw [EK5.out]
          clear h0
          go_wp2_with fail
          refine (withinS G5.out 1 (by omega) hN1).mono ?_
          rw [EP5.out]
          rintro e w6 ⟨g6, c6, rfl, l6, hc6, b6⟩
          have G6 : Hid (Gro B w6 gb nb cap N kk tg kd mp (σ.take N m) r5) := G5.out.since b6
          have L6 : Hid (Lst w6 w5.heap.size g6 (P N (dropK σ.K m) 1)) := l6
          have U6 : Hid (Lst w6 w.heap.size g2 (P N σ.K m)) := U5.out.since b6
          have FW6 : Hid (Fr (gset gb nb r.iv) w w6) := FW5.out.trans (Fr.of_below b6)
          clear b6 l6 G5 U5 FW5
          go_wp2_with fail
          refine (atC G6.out (i := 0) HI5.out).mono ?_
          rintro e w7 ⟨rfl, b7⟩
          have G7 : Hid (Gro B w7 gb nb cap N kk tg kd mp (σ.take N m) r5) := G6.out.since b7
          have L7 : Hid (Lst w7 w5.heap.size g6 (P N (dropK σ.K m) 1)) := L6.out.since b7
          have U7 : Hid (Lst w7 w.heap.size g2 (P N σ.K m)) := U6.out.since b7
          have FW7 : Hid (Fr (gset gb nb r.iv) w w7) := FW6.out.trans (Fr.of_below b7)
          have HLV : Hid ((it.leave N σ.s m).spot = it.spot.leave N σ.s m) := rfl
          rw [HLV.out]
          clear b7 G6 U6 FW6 L6
          go_wp2_with fail
          by_cases h1U : 1 ∈ P N σ.K m
          · obtain ⟨kx, hkx⟩ := List.getElem?_of_mem h1U
            have HKX : Hid ((P N σ.K m)[kx]? = some 1) := hkx
            have ELV : Hid (it.spot.leave N σ.s m = it.spot) := HFACT.out.1 (HU1.out.1 h1U)
            clear hkx h1U
            refine (atS w7 (c := c2) U7.out HNDU.out (by omega) HKX.out).mono ?_
            rintro e w7 ⟨rfl, rfl⟩
            rw [ELV.out, HAH.out]
            go_wp2_with fail
            go_ret
            exact ⟨by simp, r5, G7.out, LK.out, FW7.out⟩
          · obtain ⟨k', hk', hsame, hcount⟩ := HFACT.out.2 (fun hd => h1U (HU1.out.2 hd))
            have H1U : Hid (1 ∉ P N σ.K m) := h1U
            have HK' : Hid ((P N (dropK σ.K m) 1)[k']? = some (it.spot.leave N σ.s m).place) := hk'
            have HSAME : Hid (¬ Desc σ.s.par it.spot.place m → it.spot.leave N σ.s m = it.spot) := hsame
            have HCNT : Hid ((it.spot.leave N σ.s m).at_ k' = pl) := by
              show (it.spot.leave N σ.s m).at_ k' = pl
              rw [hcount]; exact HPL.out.symm
            have hwf7 := G7.out.wf
            rw [EK5.out] at hwf7
            have HND7 : Hid ((P N (dropK σ.K m) 1).Nodup) := P_nodup hwf7 (by omega) hN1
            have hlen7 := P_len hwf7 (x := 1) (by omega) hN1
            have hk'l := (List.getElem?_eq_some_iff.1 hk').1
            clear hk' hsame hcount h1U hwf7
            refine (atN w7 (c := c2) U7.out (by omega) H1U.out).mono ?_
            rintro e w7 ⟨rfl, rfl⟩
            go_wp2_with fail
            refine (atS w7 (c := c6) L7.out HND7.out (by omega) HK'.out).mono ?_
            rintro e w7 ⟨rfl, rfl⟩
            go_wp2_with fail
            by_cases hpU : it.spot.place ∈ P N σ.K m
            · obtain ⟨kx, hkx⟩ := List.getElem?_of_mem hpU
              have HKX : Hid ((P N σ.K m)[kx]? = some it.spot.place) := hkx
              clear hkx hpU
              refine (atS w7 (c := c2) U7.out HNDU.out (by omega) HKX.out).mono ?_
              rintro e w7 ⟨rfl, rfl⟩
              cases hnow : (it.spot.leave N σ.s m).ahead with
              | true =>
                have hpk : pl = k' := by have := HCNT.out; unfold Spot.at_ at this; rw [hnow] at this; simpa using this.symm
                subst hpk
                go_wp2_with fail
                go_ret
                exact ⟨by simp, r5, G7.out, LK.out, FW7.out⟩
              | false =>
                have hpk : pl = k' + 1 := by have := HCNT.out; unfold Spot.at_ at this; rw [hnow] at this; simpa using this.symm
                subst hpk
                go_wp2_with fail
                go_ret
                exact ⟨by simp, r5, G7.out, LK.out, FW7.out⟩
            · have HPU : Hid (it.spot.place ∉ P N σ.K m) := hpU
              have ELV : Hid (it.spot.leave N σ.s m = it.spot) := HSAME.out (fun hd => hpU (HUP.out.2 hd))
              clear hpU
              refine (atN w7 (c := c2) U7.out (by omega) HPU.out).mono ?_
              rintro e w7 ⟨rfl, rfl⟩
              rw [ELV.out, HAH.out]
              have HCN2 : Hid (it.spot.at_ k' = pl) := by have := HCNT.out; rw [ELV.out] at this; exact this
              have hpk : pl = k' + 1 := by have := HCN2.out; unfold Spot.at_ at this; rw [HAH.out] at this; simpa using this.symm
              subst hpk
              go_wp2_with fail
              go_ret
              exact ⟨by simp, r5, G7.out, LK.out, FW7.out⟩
end
end Go.Proofs.Ytcedebpoihcbdaa
