/-
  The law 'Lively': the state that its walk goes through, and what each call makes of it.
-/
import Derived.Test.YtcedebpoihcbdaaDoorL19
namespace Go.Proofs.YtcedebpoihcbdaaDoor
open Go.RowKit Go.Shelf Gv

theorem no_desc_12' : ¬ Desc zeroF.par 1 2 := by
  rintro ⟨m, hm⟩
  cases m with
  | zero => simp [anc] at hm
  | succ m =>
    have e : anc zeroF.par (m + 1) 1 = anc zeroF.par m 0 := rfl
    rw [e, anc_zero rfl] at hm
    omega

def st0 : St := { s := zeroF, K := fun _ => [], its := [] }

theorem Made.gro {B : Nat} {w : World} {gb nb c N : Nat} {kk : Nat → Nat} {tg : Nat → ByteArray} {kd : Nat → Value} {mp : Nat → Nat} (h : Made B w gb nb c N kk tg kd mp) : Gro B w gb nb c N kk tg kd mp st0 re0 :=
  ⟨h.held, loose_wf N, h.kinds, its_none w B, fun it hit => by simp [st0] at hit, fun i h1 hN h2 => (h.els i h1 hN h2).1⟩

def noAtts : Nat → ByteArray → Option ByteArray := fun _ => noAtt

theorem Made.grl {B : Nat} {w : World} {gb nb c N : Nat} {kk : Nat → Nat} {tg : Nat → ByteArray} {kd : Nat → Value} {mp : Nat → Nat} (h : Made B w gb nb c N kk tg kd mp) : Grl B w gb nb c N kk tg kd mp st0 re0 noAtts [] :=
  ⟨h.gro, ⟨fun i h1 h2 h3 => att_new (h.els i h1 h2 h3).2.2, fun i k v e => by simp [noAtts, noAtt] at e, fun i h1 h2 h3 => (h.els i h1 h2 h3).2.1, h.inj⟩, ⟨World.ownsRow_nil _ _ _ _, by simp, fun x hx => by simp at hx⟩, fun x hx => by simp at hx⟩

/-- The lists of so many roots. -/
def lsOf : Nat → List Ls
  | 0 => []
  | n + 1 => lsOf n ++ [Ls.new (n + 1) 1 strA] ++ [Ls.new (n + 1) 1 strStar] ++ [Ls.new (n + 1) 2 strX] ++ [Ls.new (n + 1) 4 ByteArray.empty]

theorem lsOf_len (n : Nat) : (lsOf n).length = 4 * n := by
  induction n with
  | zero => rfl
  | succ n ih => simp [lsOf, ih]; omega

theorem lsOf_is : LsIs (lsOf 2) := by
  intro root k h1 h2 h3
  obtain rfl | rfl : root = 1 ∨ root = 2 := by omega
  all_goals
    obtain rfl | rfl | rfl | rfl : k = 0 ∨ k = 1 ∨ k = 2 ∨ k = 3 := by omega
    all_goals exact ⟨_, rfl, rfl, rfl, rfl⟩

theorem LsIs.at {ls : List Ls} (h : LsIs ls) {i : Nat} (hi : i < 8) : ∃ x : Ls, ls[i]? = some x := by
  obtain ⟨x, hx, _⟩ := h (i / 4 + 1) (i % 4) (by omega) (by omega) (by omega)
  rw [show 4 * (i / 4 + 1 - 1) + i % 4 = i from by omega] at hx
  exact ⟨x, hx⟩

theorem ask1 : mayAsk 1 strA := ⟨by decide, .inl ⟨rfl, .inr ⟨by rw [Lib.toList_data]; rfl, by decide⟩⟩⟩
theorem ask2 : mayAsk 1 strStar := ⟨by decide, .inl ⟨rfl, .inl (by rw [Lib.toList_data]; rfl)⟩⟩
theorem ask3 : mayAsk 2 strX := ⟨by decide, .inr (.inl ⟨rfl, by rw [Lib.toList_data]; rfl, by decide⟩)⟩
theorem ask4 : mayAsk 4 ByteArray.empty := ⟨by decide, .inr (.inr (.inr rfl))⟩

theorem int_keeps {S : Nat → Prop} {w w' : World} {D n : Nat} {v : Value} {xs : List Value} (hv : w.ownsRow D 3 1 v n xs) (hF : Fr S w w') (hS : ∀ i cs fr, S i → w.heap[i]? ≠ some (.cells cs 3 fr)) : w'.ownsRow D 3 1 v n xs := by
  refine ownsRow_fr hv hF (fun g hg e => ?_)
  rcases row_form hv with ⟨e', _⟩ | ⟨g', c', e', _, _, ⟨cur, hc⟩, _⟩
  · rw [e'] at hg; simp [Value.ownBlock] at hg
  · rw [e'] at hg
    simp only [Value.ownBlock, Option.some.injEq] at hg
    subst hg
    exact hS _ _ _ e hc

/-- Numbers in a row of their own. -/
def Roots (D : Nat) (w : World) (v : Value) (xs : List Nat) : Prop := w.ownsRow D 3 1 v xs.length (ints xs)

section
variable {D B : Nat} {w0 w w' : World} {gb nb cap N : Nat} {kk : Nat → Nat} {tg : Nat → ByteArray} {kd : Nat → Value} {mp : Nat → Nat} {σ : St} {r : Re} {A : Nat → ByteArray → Option ByteArray} {ls : List Ls} {v : Value} {xs : List Nat}

theorem Grl.g_int (h : Grl B w gb nb cap N kk tg kd mp σ r A ls) : ∀ cs fr, w.heap[gb]? ≠ some (.cells cs 3 fr) := by
  intro cs fr e
  rw [h.gro.held.g] at e
  simp at e
theorem Grl.lv_int (h : Grl B w gb nb cap N kk tg kd mp σ r A ls) : ∀ i cs fr, r.lv.ownBlock = some i → w.heap[i]? ≠ some (.cells cs 3 fr) := fun _ _ _ hi e => row_apart h.lss.row e (by decide) hi
theorem Grl.iv_int (h : Grl B w gb nb cap N kk tg kd mp σ r A ls) : ∀ i cs fr, gset gb nb r.iv i → w.heap[i]? ≠ some (.cells cs 3 fr) := by
  rintro i cs fr (rfl | rfl | hi) e
  · exact h.g_int _ _ e
  · obtain ⟨cur, hn, _⟩ := h.gro.held.block
    rw [hn] at e
    simp at e
  · exact row_apart h.gro.its.row e (by decide) hi
theorem Grl.mp_int (h : Grl B w gb nb cap N kk tg kd mp σ r A ls) : ∀ i cs fr, (i = gb ∨ ∃ m, 1 ≤ m ∧ m ≤ N ∧ kk m = 2 ∧ i = mp m) → w.heap[i]? ≠ some (.cells cs 3 fr) := by
  rintro i cs fr (rfl | ⟨m, h1, h2, h3, rfl⟩) e
  · exact h.g_int _ _ e
  · obtain ⟨es, c, hm, _⟩ := h.ats.at_ m h1 h2 h3
    rw [hm] at e
    cases e
theorem Grl.mp_low (h : Grl B w gb nb cap N kk tg kd mp σ r A ls) : ∀ i, (i = gb ∨ ∃ m, 1 ≤ m ∧ m ≤ N ∧ kk m = 2 ∧ i = mp m) → B ≤ i := by
  rintro i (rfl | ⟨m, h1, h2, h3, rfl⟩)
  · exact h.gro.held.hB
  · exact h.ats.low m h1 h2 h3

/-- What holds while the lists are made. -/
def Early (w0 w : World) (gb nb cap N : Nat) (kk : Nat → Nat) (tg : Nat → ByteArray) (kd : Nat → Value) (mp : Nat → Nat) (ls : List Ls) : Prop :=
  ∃ σ r, Grl w0.heap.size w gb nb cap N kk tg kd mp σ r noAtts ls ∧ 1 ≤ r.pl ∧ r.pl ≤ 2 ∧ r.cl = 0 ∧ Below w0.heap.size w0 w ∧ ∀ x, x ∈ ls → x.fv = .slice none 0 0

theorem Early.since (h : Early w0 w gb nb cap N kk tg kd mp ls) (hb : Below w.heap.size w w') : Early w0 w' gb nb cap N kk tg kd mp ls := by
  obtain ⟨σ, r, h1, h2, h3, h4, h5, h6⟩ := h
  exact ⟨σ, r, h1.since hb, h2, h3, h4, h5.trans (hb.mono h5.size), h6⟩

/-- One number more among the roots. -/
theorem Early.more {v' : Value} {y : Nat} {o : Obj} (h : Early w0 w gb nb cap N kk tg kd mp ls) (hD : w0.heap.size ≤ D ∧ D ≤ w.heap.size) (hr : Roots D w v xs) (hown : w'.ownsRow D 3 1 v' (xs.length + 1) (ints xs ++ [.int .i64 (y : Nat)])) (hgrow : (w.alloc o).grownBy w' v.ownBlock) : Early w0 w' gb nb cap N kk tg kd mp ls ∧ Roots D w' v' (xs ++ [y]) := by
  have hF : Fr (fun i => v.ownBlock = some i) w w' := ((Fr.refl _ w).alloc o).trans (Fr.of_grown hgrow (fun k hk => hk))
  refine ⟨?_, by unfold Roots; rw [List.length_append, ints_snoc]; exact hown⟩
  obtain ⟨σ, r, h1, h2, h3, h4, h5, h6⟩ := h
  have hty : ∀ i cs t fr, v.ownBlock = some i → w.heap[i]? = some (.cells cs t fr) → t = 3 := fun i cs t fr hi e => by
    by_cases ht : t = 3
    · exact ht
    · exact absurd hi (row_apart hr e (fun e' => ht e'.symm))
  have hmap : ∀ i es c, v.ownBlock = some i → w.heap[i]? ≠ some (.map es c) := fun i es c hi e => by
    rcases row_form hr with ⟨e', _⟩ | ⟨g', c', e', _, _, ⟨cur, hc⟩, _⟩
    · rw [e'] at hi; simp [Value.ownBlock] at hi
    · rw [e'] at hi
      simp only [Value.ownBlock, Option.some.injEq] at hi
      subst hi
      rw [hc] at e; cases e
  have apart : ∀ {t s n : Nat} {u : Value} {ys : List Value}, w.ownsRow w0.heap.size t s u n ys → t ≠ 3 → ∀ g, u.ownBlock = some g → v.ownBlock ≠ some g := fun {t s n u ys} hu hne g hg e => by
    rcases row_form hu with ⟨e', _⟩ | ⟨g', c', e', _, _, ⟨cur, hc⟩, _⟩
    · rw [e'] at hg; simp [Value.ownBlock] at hg
    · rw [e'] at hg
      simp only [Value.ownBlock, Option.some.injEq] at hg
      subst hg
      exact hne (hty _ _ _ _ e hc)
  obtain ⟨cur, hn, _⟩ := h1.gro.held.block
  refine ⟨σ, r, ⟨⟨h1.gro.held.fr hF (fun e => ?_) (fun e => ?_), h1.gro.wf, h1.gro.kinds, h1.gro.its.fr hF (apart h1.gro.its.row (by decide)), h1.gro.sound, fun k k1 k2 k3 => (h1.gro.els k k1 k2 k3).fr hF (fun i cs fr hi e => ?_)⟩, h1.ats.fr hF hmap, ⟨ownsRow_fr h1.lss.row hF (apart h1.lss.row (by decide)), h1.lss.few, fun x hx => ownsRow_same (h1.lss.found x hx) (fun g hg => by rw [h6 x hx] at hg; simp [Value.ownBlock] at hg)⟩, h1.ok⟩, h2, h3, h4, h5.trans (hF.below h5.size (fun i hi => Nat.le_trans hD.1 (hr.lt i hi).1)), h6⟩
  · exact absurd (hty _ _ _ _ e h1.gro.held.g) (by decide)
  · exact absurd (hty _ _ _ _ e hn) (by decide)
  · exact absurd (hty _ _ _ _ hi e) (by decide)

theorem watchL (h : Early w0 w gb nb cap N kk tg kd mp ls) (hr : Roots D w v xs) (h50 : ls.length < 50) (root how : Nat) (what : ByteArray) (hm : mayAsk how what) (h1 : 1 ≤ root) (hN : root ≤ N) (m : Int) (hm1 : m = ((ls.length + 1 : Nat) : Int)) :
    Calls Tryd.prog 7 #[.pointer (some ⟨gb, 0, none⟩), .int .i64 root, .int .i64 how, .string what] w fun e w' => e = .returned (.tuple #[.int .i64 m, .int .i64 0]) ∧ Early w0 w' gb nb cap N kk tg kd mp (ls ++ [Ls.new root how what]) ∧ Roots D w' v xs ∧ w.heap.size ≤ w'.heap.size := by
  obtain ⟨σ, r, g1, g2, g3, g4, g5, g6⟩ := h
  subst hm1
  refine (watchS g1 h50 g2 (by omega) root how what hm h1 hN).mono ?_
  rintro e w' ⟨rfl, u, hG, hF⟩
  refine ⟨rfl, ⟨σ, r.setLv u, hG, g2, g3, g4, g5.trans (hF.below g5.size ?_), fun x hx => ?_⟩, int_keeps hr hF ?_, hF.size⟩
  · rintro i (rfl | hi)
    · exact g1.gro.held.hB
    · exact (g1.lss.row.lt i hi).1
  · rcases List.mem_append.1 hx with hx | hx
    · exact g6 x hx
    · simp only [List.mem_singleton] at hx
      subst hx
      rfl
  · rintro i cs fr (rfl | hi) e
    · exact g1.g_int _ _ e
    · exact g1.lv_int _ _ _ hi e

/-- What holds at any time later: p bounds the counts of changes. -/
def Live (w0 : World) (D : Nat) (w : World) (gb nb cap N : Nat) (kk : Nat → Nat) (tg : Nat → ByteArray) (kd : Nat → Value) (mp : Nat → Nat) (v : Value) (xs : List Nat) (p : Nat) : Prop :=
  ∃ σ r A ls, Grl w0.heap.size w gb nb cap N kk tg kd mp σ r A ls ∧ LsIs ls ∧ 0 ≤ r.pl ∧ r.pl ≤ p ∧ 0 ≤ r.cl ∧ r.cl ≤ p ∧ Below w0.heap.size w0 w ∧ Roots D w v xs

theorem Early.live (h : Early w0 w gb nb cap N kk tg kd mp ls) (hl : LsIs ls) (hr : Roots D w v xs) : Live w0 D w gb nb cap N kk tg kd mp v xs 2 := by
  obtain ⟨σ, r, h1, h2, h3, h4, h5, _⟩ := h
  exact ⟨σ, r, _, ls, h1, hl, by omega, h3, by omega, by omega, h5, hr⟩

theorem Live.below {p : Nat} (h : Live w0 D w gb nb cap N kk tg kd mp v xs p) : Below w0.heap.size w0 w := by
  obtain ⟨_, _, _, _, _, _, _, _, _, _, h5, _⟩ := h
  exact h5
theorem Live.roots {p : Nat} (h : Live w0 D w gb nb cap N kk tg kd mp v xs p) : Roots D w v xs := by
  obtain ⟨_, _, _, _, _, _, _, _, _, _, _, h5⟩ := h
  exact h5
theorem Live.since {p : Nat} (h : Live w0 D w gb nb cap N kk tg kd mp v xs p) (hb : Below w.heap.size w w') : Live w0 D w' gb nb cap N kk tg kd mp v xs p := by
  obtain ⟨σ, r, A, ls, h1, h2, h3, h4, h5, h6, h7, h8⟩ := h
  exact ⟨σ, r, A, ls, h1.since hb, h2, h3, h4, h5, h6, h7.trans (hb.mono h7.size), ownsRow_since h8 hb⟩
theorem Live.up {p q : Nat} (h : Live w0 D w gb nb cap N kk tg kd mp v xs p) (hq : p ≤ q) : Live w0 D w gb nb cap N kk tg kd mp v xs q := by
  obtain ⟨σ, r, A, ls, h1, h2, h3, h4, h5, h6, h7, h8⟩ := h
  exact ⟨σ, r, A, ls, h1, h2, h3, by omega, h5, by omega, h7, h8⟩

theorem Re.cnt_cl (r : Re) (name : ByteArray) : r.cl ≤ (r.cnt name).cl ∧ (r.cnt name).cl ≤ r.cl + 1 := by
  unfold Re.cnt
  split
  · exact ⟨by show r.cl ≤ r.cl + 1; omega, by show r.cl + 1 ≤ r.cl + 1; omega⟩
  · omega

theorem setL {p : Nat} (h : Live w0 D w gb nb cap N kk tg kd mp v xs p) (hp : p ≤ 1000) (n : Int) (name value : ByteArray) (hs : name.size ≤ maxLen) (hv : value.size ≤ 1000000) :
    Calls Tryd.prog 8 #[.pointer (some ⟨gb, 0, none⟩), .int .i64 n, .string name, .string value] w fun e w' => ∃ q : Int, e = .returned (.int .i64 q) ∧ Live w0 D w' gb nb cap N kk tg kd mp v xs (p + 2) := by
  obtain ⟨σ, r, A, ls, h1, h2, h3, h4, h5, h6, h7, h8⟩ := h
  refine (setS h1 n name value hs hv h5 (by omega)).mono ?_
  rintro e w' ⟨rfl, hG, hF⟩
  have hpl : (setR N kk r n name value).pl = r.pl ∧ r.cl ≤ (setR N kk r n name value).cl ∧ (setR N kk r n name value).cl ≤ r.cl + 1 := by
    unfold setR
    split
    · exact ⟨r.cnt_pl name, r.cnt_cl name⟩
    · omega
  exact ⟨_, rfl, σ, _, _, ls, hG, h2, by omega, by omega, by omega, by omega, h7.trans (hF.below h7.size h1.mp_low), int_keeps h8 hF h1.mp_int⟩

theorem unsetL {p : Nat} (h : Live w0 D w gb nb cap N kk tg kd mp v xs p) (hp : p ≤ 1000) (n : Int) (name : ByteArray) (hs : name.size ≤ maxLen) :
    Calls Tryd.prog 9 #[.pointer (some ⟨gb, 0, none⟩), .int .i64 n, .string name] w fun e w' => ∃ q : Int, e = .returned (.int .i64 q) ∧ Live w0 D w' gb nb cap N kk tg kd mp v xs (p + 2) := by
  obtain ⟨σ, r, A, ls, h1, h2, h3, h4, h5, h6, h7, h8⟩ := h
  refine (unsetS h1 n name hs h5 (by omega)).mono ?_
  rintro e w' ⟨rfl, hG, hF⟩
  have hpl : (unsetR N kk A r n name).pl = r.pl ∧ r.cl ≤ (unsetR N kk A r n name).cl ∧ (unsetR N kk A r n name).cl ≤ r.cl + 1 := by
    unfold unsetR
    split
    · exact ⟨r.cnt_pl name, r.cnt_cl name⟩
    · omega
  exact ⟨_, rfl, σ, _, _, ls, hG, h2, by omega, by omega, by omega, by omega, h7.trans (hF.below h7.size h1.mp_low), int_keeps h8 hF h1.mp_int⟩

theorem itemL {p : Nat} (h : Live w0 D w gb nb cap N kk tg kd mp v xs p) (hN : 1 ≤ N) (i : Nat) (hi : i < 8) (j : Int) :
    Calls Tryd.prog 10 #[.pointer (some ⟨gb, 0, none⟩), .int .i64 ((i + 1 : Nat) : Int), .int .i64 j] w fun e w' => ∃ q : Int, e = .returned (.tuple #[.int .i64 q, .int .i64 0]) ∧ Live w0 D w' gb nb cap N kk tg kd mp v xs (p + 2) := by
  obtain ⟨σ, r, A, ls, h1, h2, h3, h4, h5, h6, h7, h8⟩ := h
  obtain ⟨x, hx⟩ := h2.at hi
  refine (itemS h1 hN hx j).mono ?_
  rintro e w' ⟨rfl, ls', hG, hk, hF⟩
  exact ⟨_, rfl, σ, r, A, ls', hG, h2.like hk, h3, by omega, h5, by omega, h7.trans (hF.below h7.size (fun i hi => (h1.lss.row.lt i hi).1)), int_keeps h8 hF h1.lv_int⟩

theorem changeL {p : Nat} (h : Live w0 D w gb nb cap N kk tg kd mp v xs p) (hp : p ≤ 1000) (hno : ∀ i, kk i ≠ 1) (hN : 1 ≤ N) (a b c : Int) (ha : -9223372036854775808 ≤ a ∧ a ≤ 9223372036854775807) (hb : -9223372036854775808 ≤ b ∧ b ≤ 9223372036854775807) (hc : -9223372036854775808 ≤ c ∧ c ≤ 9223372036854775807) :
    Calls Tryd.prog 11 #[.pointer (some ⟨gb, 0, none⟩), .int .i64 N, .int .i64 a, .int .i64 b, .int .i64 c] w fun e w' => e = .returned (.tuple #[]) ∧ Live w0 D w' gb nb cap N kk tg kd mp v xs (p + 2) := by
  obtain ⟨σ, r, A, ls, h1, h2, h3, h4, h5, h6, h7, h8⟩ := h
  refine (changeG h1 hno h3 (by omega) hN a b c ha hb hc).mono ?_
  rintro e w' ⟨rfl, r', hG, ⟨l1, _, _, _, l5, l6⟩, hF⟩
  exact ⟨rfl, _, r', A, ls, hG, h2, by omega, by omega, by omega, by omega, h7.trans (hF.below h7.size h1.gro.setB), int_keeps h8 hF h1.iv_int⟩

theorem lookedL {p len : Nat} {zs : List Int} (h : Live w0 D w gb nb cap N (kkR len zs) (tgR len zs) kd mp v xs p) (hN : 2 ≤ N) {a : Option Addr} {rc : Nat} (hlen : len ≤ maxLen) (hR : RawIs w0 a len zs) (root : Nat) (r1 : 1 ≤ root) (r2 : root ≤ 2) :
    Calls Tryd.prog 12 #[.pointer (some ⟨gb, 0, none⟩), .int .i64 root, .int .i64 N, .slice a len rc] w fun e w' => e = .returned (.bool true) ∧ Live w0 D w' gb nb cap N (kkR len zs) (tgR len zs) kd mp v xs p := by
  obtain ⟨σ, r, A, ls, h1, h2, h3, h4, h5, h6, h7, h8⟩ := h
  refine (lookedC h1 (by omega) h2 hlen (fun W hW => hR.below (h7.trans hW)) root r1 r2 (by omega)).mono ?_
  rintro e w' ⟨rfl, ls', hG, hk, hF⟩
  exact ⟨rfl, σ, r, A, ls', hG, h2.like hk, h3, h4, h5, h6, h7.trans (hF.below h7.size (fun i hi => (h1.lss.row.lt i hi).1)), int_keeps h8 hF h1.lv_int⟩

/-- The grove once it is made and the second node stands under the first. -/
theorem put_differs (kk : Nat → Nat) (h : kk 1 ≤ 2 ∧ withF st0.s N 1 2 = false) : St.put N kk st0 1 2 0 ≠ st0 := by
  intro e
  have e2 : (St.put N kk st0 1 2 0).K 1 = [] := by rw [e]; rfl
  unfold St.put at e2
  rw [if_pos h] at e2
  simp [chK, st0, up_same, insK] at e2

theorem firstL {c : Nat} {w1 : World} (h : Made w0.heap.size w1 gb nb c N kk tg kd mp) (hb : Below w0.heap.size w0 w1) (hno : ∀ i, kk i ≠ 1) (h1 : kk 1 = 2) (hN : 2 ≤ N) :
    Calls Tryd.prog 6 #[.pointer (some ⟨gb, 0, none⟩), .int .i64 1, .int .i64 2, .int .i64 0] w1 fun e w' => e = .returned (.int .i64 0) ∧ Early w0 w' gb nb c N kk tg kd mp [] := by
  have hg := h.grl
  have hyes : kk 1 ≤ 2 ∧ withF st0.s N 1 2 = false := by
    refine ⟨by omega, ?_⟩
    cases e : withF st0.s N 1 2 with
    | false => rfl
    | true => exact absurd ((Gv.within_iff (loose_wf N) (by omega) (by omega)).1 e) no_desc_12'
  refine (putS2 hg.gro hno (by decide) (by decide) 1 2 0 (by omega) (by omega) (by omega) (by omega) (.inl rfl)).mono ?_
  rintro e w' ⟨q, r', rfl, hq, hG, hl, hF, hs⟩
  obtain rfl : q = 0 := hq.2 hyes
  have hne : r'.pl ≠ re0.pl := fun e => put_differs kk hyes (hs e)
  have hM := hg.moved hG hF hl hs
  obtain ⟨l1, _, _, _, l5, l6⟩ := hl
  have e0 : re0.pl = 0 := rfl
  have e1 : re0.cl = 0 := rfl
  exact ⟨rfl, _, r', hM, by omega, by omega, by omega, hb.trans (hF.below hb.size hg.gro.setB), fun x hx => by simp at hx⟩
end
end Go.Proofs.YtcedebpoihcbdaaDoor
