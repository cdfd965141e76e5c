/-
  What the forest's Past, Next and Previous do.
-/
import Derived.Test.YtcedebpoihcbdaaDoorW4
import Derived.Test.YtcedebpoihcbdaaDoorMem2
namespace Go.Proofs.YtcedebpoihcbdaaDoor
open Go.RowKit Gv

section
variable {w : World} {B gb nb cap N : Nat} {s : Fo} {kd : Nat → Value} {K : Nat → List Nat} {r : Re}

theorem withinC (h : Held w B gb nb cap (N + 1) s kd r) (hwf : WF N s K) (n t : Nat) (hn : n ≤ N) (ht : 1 ≤ t) (htN : t ≤ N) :
    Calls Tryd.prog 40 #[.pointer (some ⟨gb, 0, none⟩), .int .i64 n, .int .i64 t] w fun e w' => e = .returned (.bool (withF s N n t)) ∧ w' = w := by
  refine (withinF h hwf n t hn ht htN).mono fun e w' ⟨b, he, hb, hw⟩ => ⟨?_, hw⟩
  have hi := Gv.within_iff hwf hn ht
  have : b = withF s N n t := by
    cases b with
    | true => exact (hi.2 (hb.1 rfl)).symm
    | false =>
      cases e2 : withF s N n t with
      | false => rfl
      | true => exact (hb.2 (hi.1 e2))
  rw [he, this]

theorem past_zero (s : Fo) (f t : Nat) : pastF s f 0 t = 0 := by cases f <;> simp [pastF]
theorem past_top (s : Fo) (f t : Nat) : pastF s f t t = 0 := by cases f <;> simp [pastF]
theorem past_beh {s : Fo} {f x t : Nat} (h0 : x ≠ 0) (h1 : x ≠ t) (h2 : s.bhd x ≠ 0) : pastF s (f + 1) x t = s.bhd x := by simp [pastF, h0, h1, h2]
theorem past_up {s : Fo} {f x t : Nat} (h0 : x ≠ 0) (h1 : x ≠ t) (h2 : s.bhd x = 0) : pastF s (f + 1) x t = pastF s f (s.par x) t := by simp [pastF, h0, h1, h2]

set_option maxRecDepth 100000 in
set_option maxHeartbeats 400000 in
theorem pastC (h : Held w B gb nb cap (N + 1) s kd r) (hwf : WF N s K) (n t : Nat) (hn : n ≤ N) (htN : t ≤ N) :
    Calls Tryd.prog 56 #[.pointer (some ⟨gb, 0, none⟩), .int .i64 n, .int .i64 t] w fun e w' => e = .returned (.int .i64 (pastF s (N + 1) n t : Nat)) ∧ w' = w := by
  have HH : Hid (Held w B gb nb cap (N + 1) s kd r) := h
  have HW : Hid (WF N s K) := hwf
  have hL := h.hL
  have HT : Hid (anc s.par N n = 0) := hwf.top n hn
  clear h hwf
  go_enter Tryd.func56, Tryd.ntmps56
  go_wp2_with fail
  go_loopg [1] N (fun m i wr => ∃ x : Nat, i = .int .i64 x ∧ x ≤ N ∧ wr = w ∧ anc s.par m x = 0 ∧ pastF s (N + 1) n t = pastF s (m + 1) x t)
  case atStart => exact ⟨n, rfl, hn, rfl, HT.out, rfl⟩
  case round =>
    obtain ⟨x, rfl, hx, rfl, ha, hd⟩ := hrel
    obtain ⟨w, rfl⟩ : ∃ w : World, w = wr := ⟨_, rfl⟩
    have HA : Hid (anc s.par gk x = 0) := ha
    have HD : Hid (pastF s (N + 1) n t = pastF s (gk + 1) x t) := hd
    clear ha hd
    by_cases e0 : x = 0
    · subst e0
      go_wp2_with fail
      go_ret
      exact ⟨ret_int (by rw [HD.out, past_zero]; rfl), rfl⟩
    · have e0' : ((x : Int) != 0) = true := by simp; omega
      by_cases et : x = t
      · subst et
        go_wp2_with fail
        go_ret
        exact ⟨ret_int (by rw [HD.out, past_top]; rfl), rfl⟩
      · have et' : ((x : Int) != (t : Int)) = true := by simp; omega
        have ET : Hid (x ≠ t) := et
        have E0 : Hid (x ≠ 0) := e0
        clear et e0
        go_wp2_with fail
        refine (behindF HH.out x (by omega)).mono ?_
        rintro e w ⟨rfl, rfl⟩
        by_cases hb : s.bhd x = 0
        · have HB : Hid (s.bhd x = 0) := hb
          have hb' : (((s.bhd x : Nat) : Int) != 0) = false := by simp [hb]
          clear hb
          go_wp2_with fail
          refine (parentF HH.out x (by omega)).mono ?_
          rintro e w ⟨rfl, rfl⟩
          go_wp2_with fail
          cases gk with
          | zero => exact absurd HA.out E0.out
          | succ m =>
            go_roundg m
            case measure => omega
            case rel => exact ⟨s.par x, rfl, HW.out.parLe x hx, rfl, HA.out, by rw [HD.out, past_up E0.out ET.out HB.out]⟩
        · have HB : Hid (s.bhd x ≠ 0) := hb
          have hb' : (((s.bhd x : Nat) : Int) != 0) = true := by simp; omega
          clear hb
          go_wp2_with fail
          go_ret
          exact ⟨ret_int (by rw [HD.out, past_beh E0.out ET.out HB.out]), rfl⟩

theorem nextC (h : Held w B gb nb cap (N + 1) s kd r) (hwf : WF N s K) (n t : Nat) (hn : n ≤ N) (htN : t ≤ N) :
    Calls Tryd.prog 76 #[.pointer (some ⟨gb, 0, none⟩), .int .i64 n, .int .i64 t] w fun e w' => e = .returned (.int .i64 (nextF s (N + 1) n t : Nat)) ∧ w' = w := by
  have HH : Hid (Held w B gb nb cap (N + 1) s kd r) := h
  have HW : Hid (WF N s K) := hwf
  have hL := h.hL
  clear h hwf
  by_cases hf : s.fst n = 0
  · have HF : Hid (s.fst n = 0) := hf
    have hf' : (((s.fst n : Nat) : Int) != 0) = false := by simp [hf]
    clear hf
    go_enter Tryd.func76, Tryd.ntmps76
    go_wp2_with fail
    refine (firstF HH.out n (by omega)).mono ?_
    rintro e w ⟨rfl, rfl⟩
    go_wp2_with fail
    refine (pastC HH.out HW.out n t hn htN).mono ?_
    rintro e w ⟨rfl, rfl⟩
    go_wp2_with fail
    go_ret
    exact ⟨ret_int (by simp [nextF, HF.out]), rfl⟩
  · have HF : Hid (s.fst n ≠ 0) := hf
    have hf' : (((s.fst n : Nat) : Int) != 0) = true := by simp; omega
    clear hf
    go_enter Tryd.func76, Tryd.ntmps76
    go_wp2_with fail
    refine (firstF HH.out n (by omega)).mono ?_
    rintro e w ⟨rfl, rfl⟩
    go_wp2_with fail
    go_ret
    exact ⟨ret_int (by simp [nextF, HF.out]), rfl⟩

theorem inm_end {s : Fo} {f x : Nat} (h : s.lst x = 0) : inmF s f x = x := by cases f <;> simp [inmF, h]
theorem inm_on {s : Fo} {f x : Nat} (h : s.lst x ≠ 0) : inmF s (f + 1) x = inmF s f (s.lst x) := by simp [inmF, h]

theorem kid_of_lst {x : Nat} (hwf : WF N s K) (hx : 1 ≤ x) (hxN : x ≤ N) (h : s.lst x ≠ 0) : s.lst x ∈ K x := by
  rw [hwf.lst x hx hxN] at h ⊢
  exact last_mem (fun e => h (by rw [e]; rfl)) 0

theorem ahd_le {c : Nat} (hwf : WF N s K) (hc1 : 1 ≤ c) (hcN : c ≤ N) (hp : s.par c ≠ 0) : s.ahd c ≤ N ∧ s.bhd c ≤ N := by
  obtain ⟨xs, ys, hK⟩ := split_of_mem (hwf.own c hc1 hcN hp)
  have hs := hwf.sides hK
  rw [hs.1, hs.2]
  constructor
  · by_cases hx : xs = []
    · subst hx; simp
    · exact (hwf.kid (s.par c) _ (by rw [hK]; exact List.mem_append.2 (.inl (last_mem hx 0)))).2.2.2.1
  · by_cases hy : ys = []
    · subst hy; simp
    · exact (hwf.kid (s.par c) _ (by rw [hK]; exact List.mem_append.2 (.inr (List.mem_cons_of_mem _ (head_mem hy 0))))).2.2.2.1

set_option maxRecDepth 100000 in
set_option maxHeartbeats 400000 in
theorem prevC (h : Held w B gb nb cap (N + 1) s kd r) (hwf : WF N s K) (n t : Nat) (h1 : 1 ≤ n) (hn : n ≤ N) (hp : n ≠ t → s.par n ≠ 0) :
    Calls Tryd.prog 57 #[.pointer (some ⟨gb, 0, none⟩), .int .i64 n, .int .i64 t] w fun e w' => e = .returned (.int .i64 (prevF s N n t : Nat)) ∧ w' = w := by
  have HH : Hid (Held w B gb nb cap (N + 1) s kd r) := h
  have HW : Hid (WF N s K) := hwf
  have hL := h.hL
  have HP : Hid (n ≠ t → s.par n ≠ 0) := hp
  clear h hwf hp
  by_cases et : n = t
  · subst et
    go_enter Tryd.func57, Tryd.ntmps57
    go_wp2_with fail
    go_ret
    exact ⟨ret_int (by simp [prevF]), rfl⟩
  · have et' : ((n : Int) == (t : Int)) = false := by simp; omega
    have ET : Hid (n ≠ t) := et
    clear et
    have hb := (ahd_le HW.out h1 hn (HP.out ET.out)).1
    by_cases ha : s.ahd n = 0
    · have HA : Hid (s.ahd n = 0) := ha
      have ha' : (((s.ahd n : Nat) : Int) == 0) = true := by simp [ha]
      clear ha
      go_enter Tryd.func57, Tryd.ntmps57
      go_wp2_with fail
      refine (aheadF HH.out n (by omega)).mono ?_
      rintro e w ⟨rfl, rfl⟩
      go_wp2_with fail
      refine (parentF HH.out n (by omega)).mono ?_
      rintro e w ⟨rfl, rfl⟩
      go_wp2_with fail
      go_ret
      exact ⟨ret_int (by simp [prevF, HA.out, ET.out]), rfl⟩
    · have HA : Hid (prevF s N n t = inmF s N (s.ahd n)) := by show prevF s N n t = _; simp [prevF, ha, ET.out]
      have ha' : (((s.ahd n : Nat) : Int) == 0) = false := by simp; omega
      have HD : Hid (Deep K N (s.ahd n)) := HW.out.deepN (by omega) (by omega)
      have ha1 : 1 ≤ s.ahd n := by omega
      clear ha
      go_enter Tryd.func57, Tryd.ntmps57
      go_wp2_with fail
      refine (aheadF HH.out n (by omega)).mono ?_
      rintro e w ⟨rfl, rfl⟩
      go_wp2_with fail
      go_loopg [7, 8] (N + 1) (fun m a i wr => ∃ x y : Nat, a = .int .i64 y ∧ i = .int .i64 x ∧ wr = w ∧ y ≤ N ∧ x ≤ N ∧ ((x = 0 ∧ m = 0 ∧ prevF s N n t = y) ∨ (1 ≤ x ∧ ∃ f, m = f + 1 ∧ Deep K f x ∧ prevF s N n t = inmF s f x)))
      case atStart => exact ⟨s.ahd n, s.ahd n, rfl, rfl, rfl, hb, hb, .inr ⟨ha1, N, rfl, HD.out, HA.out⟩⟩
      case round =>
        obtain ⟨x, y, rfl, rfl, rfl, hy, hx, hcase⟩ := hrel
        obtain ⟨w, rfl⟩ : ∃ w : World, w = wr := ⟨_, rfl⟩
        rcases hcase with ⟨hx0, hm0, he⟩ | ⟨hx1, f, hmf, hdp, he⟩
        · subst hx0
          have HE : Hid (prevF s N n t = y) := he
          clear he
          go_wp2_with fail
          go_ret
          exact ⟨ret_int (by rw [HE.out]), rfl⟩
        · have hx0' : ((x : Int) != 0) = true := by simp; omega
          have HE : Hid (prevF s N n t = inmF s f x) := he
          have HDp : Hid (Deep K f x) := hdp
          have HMF : Hid (gk = f + 1) := hmf
          clear he hdp hmf
          go_wp2_with fail
          refine (lastF HH.out x (by omega)).mono ?_
          rintro e w ⟨rfl, rfl⟩
          go_wp2_with fail
          by_cases hl : s.lst x = 0
          · go_roundg 0
            case measure => have := HMF.out; omega
            case rel => exact ⟨0, x, rfl, by rw [hl], rfl, hx, Nat.zero_le _, .inl ⟨rfl, rfl, by rw [HE.out, inm_end hl]⟩⟩
          · have hk := kid_of_lst HW.out hx1 hx hl
            have hkk := HW.out.kid x _ hk
            cases f with
            | zero =>
              exfalso
              have h0 : K x = [] := HDp.out
              rw [h0] at hk
              simp at hk
            | succ f =>
              go_roundg (f + 1)
              case measure => have := HMF.out; omega
              case rel => exact ⟨s.lst x, x, rfl, rfl, rfl, hx, hkk.2.2.2.1, .inr ⟨hkk.2.2.1, f, rfl, HDp.out _ hk, by rw [HE.out, inm_on hl]⟩⟩
end
end Go.Proofs.YtcedebpoihcbdaaDoor
