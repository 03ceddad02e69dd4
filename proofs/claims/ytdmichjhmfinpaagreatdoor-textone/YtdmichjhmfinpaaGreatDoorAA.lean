/-
  Elements of a tuple or list, read into a row of the call's own.
-/
import Derived.Test.YtdmichjhmfinpaaGreatDoorZ
set_option linter.unusedVariables false
set_option linter.unusedSimpArgs false
namespace Go.Proofs.YtdmichjhmfinpaaGreatDoor
open Go.RowKit Go.Maps

/-- What a call of part does, r deeper levels being left. -/
def PartOk (s : ByteArray) (r : Nat) : Prop := ∀ (W : World) (b i n : Nat) (d : Int), d + r = 25 → Rd W b s i n → i ≤ s.size → n ≤ 4096 → Er W → b ≠ 4 →
  Calls Tryz.prog 26 #[pt b, .int .i64 d] W fun e w' => EndT W b s e w' (prt s r i n)

theorem cells9 (w : World) (v0 v1 v2 v3 v4 v5 v6 v7 v8 : Value) (t : TypeId) : ∀ (j : Nat) (u : Value), [v0, v1, v2, v3, v4, v5, v6, v7, v8][j]? = some u → (w.alloc (.cells #[v0, v1, v2, v3, v4, v5, v6, v7, v8] t)).cell? ((⟨w.heap.size, 0, none⟩ : Addr).add j) = some u := by
  intro j u h
  have hh := heap_alloc_new w (.cells #[v0, v1, v2, v3, v4, v5, v6, v7, v8] t)
  have e : (⟨w.heap.size, 0, none⟩ : Addr).add j = ⟨w.heap.size, j, none⟩ := by
    by_cases hj : j = 0 <;> simp [Addr.add, hj]
  rw [e]
  simp only [World.cell?]
  rw [hh]
  simpa using h

/-- A slice's length. -/
def lenOf : Value → Nat
  | .slice _ n _ => n
  | _ => 0

theorem reps_old {W wr w4 w5 : World} {o : Obj} {b : Nat} {u v' : Value} {l : List Tm} {vs : List Value} {n : Nat} {xs : List Value} (hb : b < W.heap.size) (hrow : wr.ownsRow W.heap.size 31 9 u n xs)
    (hreps : Reps (fun z => W.heap.size ≤ z ∧ u.ownBlock ≠ some z) wr l vs) (h4 : Gr (fun k => k = b) wr w4) (h5 : (w4.alloc o).grownBy w5 u.ownBlock) (hloc : v'.ownBlock = u.ownBlock ∨ v'.ownBlock = some (w4.alloc o).heap.size) :
    Reps (fun z => W.heap.size ≤ z ∧ v'.ownBlock ≠ some z) w5 l vs := by
  refine hreps.turn (fun z hz hlt => ?_)
  have := h4.size
  have h1 : v'.ownBlock ≠ some z := by
    rcases hloc with e | e
    · rw [e]; exact hz.2
    · rw [e, World.size_alloc]; intro e2; cases e2; omega
  exact ⟨⟨hz.1, h1⟩, (h5.block z (by rw [World.size_alloc]; omega) (fun e => hz.2 e.symm)).trans ((heap_alloc_old w4 o (by omega)).trans (h4.block z hlt (by omega)))⟩
theorem rep_new {W wr w4 w5 : World} {o : Obj} {u v' v : Value} {T : Tm} {n : Nat} {xs : List Value} (hW : W.heap.size ≤ wr.heap.size) (hrow : wr.ownsRow W.heap.size 31 9 u n xs)
    (hrep : Rep (fun z => wr.heap.size ≤ z) w4 T v) (h5 : (w4.alloc o).grownBy w5 u.ownBlock) (hloc : v'.ownBlock = u.ownBlock ∨ v'.ownBlock = some (w4.alloc o).heap.size) :
    Rep (fun z => W.heap.size ≤ z ∧ v'.ownBlock ≠ some z) w5 T v := by
  have hne : ∀ z, wr.heap.size ≤ z → u.ownBlock ≠ some z := fun z hz e => by have := (ownsRow_lt hrow z e).2; omega
  refine hrep.turn (fun z hz hlt => ?_)
  have h1 : v'.ownBlock ≠ some z := by
    rcases hloc with e | e
    · rw [e]; exact hne z hz
    · rw [e, World.size_alloc]; intro e2; cases e2; omega
  exact ⟨⟨by omega, h1⟩, (h5.block z (by rw [World.size_alloc]; omega) (fun e => hne z hz e.symm)).trans (heap_alloc_old w4 o (by omega))⟩

set_option maxRecDepth 100000 in
set_option maxHeartbeats 1600000 in
theorem elements_c (s : ByteArray) (hs : s.size ≤ 65536) (r : Nat) (hP : PartOk s r) (W : World) (b i n : Nat) (d en : Int) (hd : d + 1 + r = 25) (hdp : 1 ≤ d) (hen : en = 125 ∨ en = 93) (h : Rd W b s i n) (hlt : i < s.size) (hn : n ≤ 4096) (hE : Er W) (hb4 : b ≠ 4) :
    Calls Tryz.prog 63 #[pt b, .int .u8 en, .int .i64 d] W fun e w' => EndE W b s e w' (lst s (prt s r) en i n) := by
  have hi2 : (i : Int) < 65536 := by omega
  obtain ⟨c0, c1, c2, f0, f1, f2⟩ := h.facts
  have hb := h.lt
  have hd1 : d ≤ 24 := by omega
  obtain ⟨i0, hi0, hz0, hz1, hz2⟩ := info_parts info31
  obtain ⟨q, hq⟩ : ∃ q, q = lst s (prt s r) en i n := ⟨_, rfl⟩
  rw [← hq]
  have Hq := Lib.hid hq
  clear hq
  replace hP := Lib.hid hP
  replace hn := Lib.hid hn
  have hs2 := h.setAt (i + 1)
  have hg2 := Gr.set (S := fun k => k = b) W ⟨b, 1, none⟩ (.int .i64 ((i + 1 : Nat) : Int)) rfl
  have hp1 := fun W h => peek_c W b s (i + 1) n h (by omega)
  obtain ⟨x, hx⟩ : ∃ x, pk s (i + 1) = x := ⟨_, rfl⟩
  rw [hx] at hp1
  have Hx := Lib.hid hx
  clear hx
  by_cases h1 : x = en
  · have hlt2 : i + 1 < s.size := lt_of_pk (by rw [Hx.out, h1]; rcases hen with e | e <;> rw [e] <;> decide)
    have hi3 : ((i : Int) + 1) < 65536 := by omega
    have e : q = .ok ([], i + 2, n) := by rw [Hq.out, lst, if_pos (by rw [Hx.out, h1])]
    subst e
    subst h1
    go_enter Tryz.func63, Tryz.ntmps63
    go_wp2_with fail
    refine (hp1 _ hs2).mono ?_
    rintro e w3 ⟨rfl, hs3⟩
    obtain ⟨k0, k1, k2, l0, l1, l2⟩ := hs3.1.facts
    go_wp2_with fail
    go_ret
    exact ⟨_, [], rfl, .inl ⟨rfl, _, _, rfl⟩, rfl, ⟨hs3.1.setAt (i + 2), (hg2.trans hs3.2).trans (Gr.set _ _ _ rfl)⟩, by omega, hn.out⟩
  have h1' : (x == en) = false := by simpa using h1
  have hq2 : Hid (q = els s (prt s r) en 256 (i + 1) n []) := by
    show q = _
    rw [Hq.out, lst, if_neg (by rw [Hx.out]; exact h1)]
  clear h1
  go_enter Tryz.func63, Tryz.ntmps63
  go_wp2_with fail
  refine (hp1 _ hs2).mono ?_
  rintro e w3 ⟨rfl, hs3⟩
  have hg3 := hg2.trans hs3.2
  go_wp2_with fail
  go_loopw [7] (fun u wr => ∃ (l : List Tm) (vs : List Value) (j m k : Nat), Hid (k + l.length = 256) ∧ 1 ≤ k ∧ j ≤ s.size ∧ Hid (m ≤ 4096) ∧ Hid (q = els s (prt s r) en k j m l) ∧ wr.ownsRow W.heap.size 31 9 u l.length (vs.flatMap cellsOf) ∧
      Reps (fun z => W.heap.size ≤ z ∧ u.ownBlock ≠ some z) wr l vs ∧ St W b s wr j m) (fun u _ => 256 - lenOf u)
  case atStart => exact ⟨[], [], i + 1, n, 256, rfl, by decide, by omega, hn.out, hq2.out, World.ownsRow_nil _ _ _ _, rfl, hs3.1, hg3⟩
  case round =>
    obtain ⟨l, vs, j, m, k, hk, hk1, hj, hm, He, hrow, hreps, hst⟩ := hrel
    obtain ⟨k, rfl⟩ : ∃ k', k = k' + 1 := ⟨k - 1, by omega⟩
    have hE2 := hE.gr hst.2 (Ne.symm hb4)
    have hWr := hst.2.size
    have hcall := hP.out wr b j m (d + 1) (by omega) hst.1 hj hm.out hE2 hb4
    have Hlen : Hid (lenOf u7 = l.length) := by obtain ⟨_, _, e⟩ := ownsRow_sv hrow; rw [e]; rfl
    have hl256 : (l.length : Int) ≤ 255 := by have := hk.out; omega
    clear hs2 hg2 hs3 hg3 hp1 c0 c1 c2 f0 f1 f2 hk1
    cases hr : prt s r j m with
    | error e =>
      obtain ⟨j', c'⟩ := e
      rw [hr] at hcall
      have e : q = .error (j', c') := by rw [He.out, els, hr]
      subst e
      clear hr
      go_wp2_with fail
      refine hcall.mono ?_
      rintro e w4 ⟨rfl, hg4⟩
      exact ⟨rfl, rfl, hst.2.trans hg4⟩
    | ok v =>
      obtain ⟨T, j', m'⟩ := v
      rw [hr] at hcall
      have He2 : Hid (q = if pk s j' = en then .ok (l ++ [T], j' + 1, m') else if pk s j' = 44 then (if l.length + 1 = 256 then .error (j', 25) else els s (prt s r) en k (j' + 1) m' (l ++ [T])) else .error (j', 41)) := by
        show q = _
        rw [He.out, els, hr]
      clear hr He
      go_wp2_with fail
      refine hcall.mono ?_
      rintro e w4 ⟨v, rfl, hrep4, hs4, hj4, hm4⟩
      replace hm4 := Lib.hid hm4
      have hrow4 := ownsRow_gr hrow hs4.2 (fun z h1 h2 => by omega)
      have hg4 := hst.2.trans hs4.2
      have hgs := hg4.size
      obtain ⟨tk, tn, tx, ty, ts, ta, tc, td, a1, n1, c1, a2, n2, c2, rfl⟩ := hrep4.agg
      go_wp2_with (first
        | (at_builtin; refine wpList_own2 _ rfl 29 _ _ rfl W.heap.size 31 i0 (lf 0 0 0 0 e0 0 0 0) 9 120 Tryz.underlying29 hi0 hz0 hz1 hz2 rfl (by decide) u7 l.length (vs.flatMap cellsOf) ⟨w4.heap.size, 0, none⟩ 1 1 [.int .i64 tk, .int .i64 tn, .complex .f64 tx ty, .string ts, .int .i64 ta, .int .u32 tc, .int .u64 td, .slice a1 n1 c1, .slice a2 n2 c2] rfl rfl (hrow4.alloc _) rfl (cells9 _ _ _ _ _ _ _ _ _ _ _) (by simp [Value.oneCell']) (by unfold maxLen; omega) (by omega) (by simp; omega) ?_; intro v' w5 hrow5 hgr5 hloc5; obtain ⟨a5, cap5, rfl⟩ := ownsRow_sv hrow5))
      have hG5 : Gr (fun z => W.heap.size ≤ z) w4 w5 := (Gr.alloc w4 _ _).trans (Gr.of_grown hgr5 (fun z e => (ownsRow_lt hrow z e).1))
      have hr5 := hs4.1.gr hG5 (by omega)
      have hg5 : Gr (fun k => k = b) W w5 := hg4.trans' hG5 (fun i hi h => absurd h (by omega))
      have hreps5 := reps_old hb hrow hreps hs4.2 hgr5 hloc5
      have hrep5 := rep_new hWr hrow hrep4 hgr5 hloc5
      have hall5 := hreps5.snoc hrep5
      have hrow6 : w5.ownsRow W.heap.size 31 9 (.slice a5 (l.length + 1) cap5) (l.length + 1) ((vs ++ [tv tk tn tx ty ts ta tc td (.slice a1 n1 c1) (.slice a2 n2 c2)]).flatMap cellsOf) := by
        rw [List.flatMap_append]; exact hrow5
      have hp5 := fun W h => peek_c W b s j' m' h hj4
      obtain ⟨y, hy⟩ : ∃ y, pk s j' = y := ⟨_, rfl⟩
      rw [hy] at hp5 He2
      have Hy := Lib.hid hy
      clear hy hgr5 hloc5 hrow5 hreps5 hrep5 hrep4 hcall
      by_cases h5 : y = en
      · subst h5
        have hlt4 : j' < s.size := lt_of_pk (by rw [Hy.out]; rcases hen with e | e <;> rw [e] <;> decide)
        have hj5 : (j' : Int) < 65536 := by omega
        have e : q = .ok (l ++ [T], j' + 1, m') := by rw [He2.out, if_pos rfl]
        subst e
        refine (hp5 _ hr5).mono ?_
        rintro e w6 ⟨rfl, hs6⟩
        obtain ⟨k0, k1, k2, l0, l1, l2⟩ := hs6.1.facts
        have hS7 := hs6.2.trans (Gr.set (S := fun k => k = b) w6 ⟨b, 1, none⟩ (.int .i64 ((j' + 1 : Nat) : Int)) rfl)
        have hr7 := hs6.1.setAt (j' + 1)
        have hrow7 := ownsRow_gr hrow6 hS7 (fun z h1 h2 => by omega)
        have hall7 := hall5.turn (A' := fun z => W.heap.size ≤ z) (fun z hz hlt => ⟨hz.1, hS7.block z hlt (by omega)⟩)
        go_wp2_with fail
        go_ret
        refine ⟨_, _, rfl, ?_, hall7, ⟨hr7, hg5.trans hS7⟩, by omega, hm4.out⟩
        rw [List.length_append]
        exact rowT_own hrow7
      have h5' : (y == en) = false := by simpa using h5
      by_cases h6 : y = 44
      · subst h6
        have hlt4 : j' < s.size := lt_of_pk (by rw [Hy.out]; decide)
        have hj5 : (j' : Int) < 65536 := by omega
        by_cases h7 : l.length = 255
        · have e : q = .error (j', 25) := by rw [He2.out, if_neg h5, if_pos rfl, if_pos (by omega)]
          subst e
          have h8 : ((l.length : Int) + 1 == 256) = true := by rw [h7]; decide
          replace h7 := Lib.hid h7
          refine (hp5 _ hr5).mono ?_
          rintro e w6 ⟨rfl, hs6⟩
          go_wp2_with fail
          refine (hp5 _ hs6.1).mono ?_
          rintro e w7 ⟨rfl, hs7⟩
          obtain ⟨k0, k1, k2, l0, l1, l2⟩ := hs7.1.facts
          go_wp2_with fail
          exact ⟨rfl, rfl, (hg5.trans hs6.2).trans hs7.2⟩
        · have h8 : ((l.length : Int) + 1 == 256) = false := by simp; omega
          have he : Hid (q = els s (prt s r) en k (j' + 1) m' (l ++ [T])) := by
            show q = _
            rw [He2.out, if_neg h5, if_pos rfl, if_neg (by omega)]
          replace h7 := Lib.hid h7
          refine (hp5 _ hr5).mono ?_
          rintro e w6 ⟨rfl, hs6⟩
          go_wp2_with fail
          refine (hp5 _ hs6.1).mono ?_
          rintro e w7 ⟨rfl, hs7⟩
          obtain ⟨k0, k1, k2, l0, l1, l2⟩ := hs7.1.facts
          have hS8 := (hs6.2.trans hs7.2).trans (Gr.set (S := fun k => k = b) w7 ⟨b, 1, none⟩ (.int .i64 ((j' + 1 : Nat) : Int)) rfl)
          have hr8 := hs7.1.setAt (j' + 1)
          have hrow8 := ownsRow_gr hrow6 hS8 (fun z h1 h2 => by omega)
          have hall8 := hall5.turn (A' := fun z => W.heap.size ≤ z ∧ (Value.slice a5 (l.length + 1) cap5).ownBlock ≠ some z) (fun z hz hlt => ⟨hz, hS8.block z hlt (by omega)⟩)
          go_wp2_with fail
          refine ⟨⟨l ++ [T], _, j' + 1, m', k, ?_, ?_, by omega, hm4, he, ?_, hall8, hr8, hg5.trans hS8⟩, ?_⟩
          · have := hk.out; show k + (l ++ [T]).length = 256; simp; omega
          · have := hk.out; have := h7.out; omega
          · rw [List.length_append]; exact hrow8
          · have := hk.out; rw [Hlen.out]; simp only [lenOf]; omega
      · have h6' : (y != 44) = true := by rw [bne_iff_ne]; exact h6
        have e : q = .error (j', 41) := by rw [He2.out, if_neg h5, if_neg h6]
        subst e
        refine (hp5 _ hr5).mono ?_
        rintro e w6 ⟨rfl, hs6⟩
        go_wp2_with fail
        refine (hp5 _ hs6.1).mono ?_
        rintro e w7 ⟨rfl, hs7⟩
        go_wp2_with fail
        refine (misplaced_c _ b s j' m' hs7.1).mono ?_
        rintro e w8 ⟨rfl, hs8⟩
        go_wp2_with fail
        exact ⟨rfl, rfl, ((hg5.trans hs6.2).trans hs7.2).trans hs8.2⟩
end Go.Proofs.YtdmichjhmfinpaaGreatDoor
