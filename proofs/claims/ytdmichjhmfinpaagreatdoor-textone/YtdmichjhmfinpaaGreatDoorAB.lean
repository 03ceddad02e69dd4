/-
  A part of a text, at any depth.
-/
import Derived.Test.YtdmichjhmfinpaaGreatDoorAA
set_option linter.unusedVariables false
set_option linter.unusedSimpArgs false
namespace Go.Proofs.YtdmichjhmfinpaaGreatDoor
open Go.RowKit Go.Maps

theorem hexs_bd {s : ByteArray} : ∀ (k i : Nat) (a x : Int) (j : Nat), 0 ≤ a → hexs s k i a = .ok (x, j) → 0 ≤ x ∧ x < (a + 1) * p16 k
  | 0, i, a, x, j, ha, h => by
    simp [hexs] at h
    obtain ⟨rfl, rfl⟩ := h
    exact ⟨ha, by simp [p16]; omega⟩
  | k + 1, i, a, x, j, ha, h => by
    rw [hexs] at h
    by_cases h4 : hexv (pk s i) < 0
    · rw [if_pos h4] at h; cases h
    · rw [if_neg h4] at h
      have hx := hexv_lt (pk s i)
      obtain ⟨h1, h2⟩ := hexs_bd k (i + 1) (a * 16 + hexv (pk s i)) x j (by omega) h
      refine ⟨h1, Int.lt_of_lt_of_le h2 ?_⟩
      rw [p16_succ]
      have hp : 0 ≤ p16 k := Int.natCast_nonneg _
      have : (a * 16 + hexv (pk s i) + 1) * p16 k ≤ ((a + 1) * 16) * p16 k := Int.mul_le_mul_of_nonneg_right (by omega) hp
      rw [Int.mul_assoc, Int.mul_comm 16 (p16 k)] at this
      exact this
theorem hexs16 {s : ByteArray} {i j : Nat} {x : Int} (h : hexs s 16 i 0 = .ok (x, j)) : x.toNat < 18446744073709551616 := by
  have := hexs_bd 16 i 0 x j (by decide) h
  have e : p16 16 = 18446744073709551616 := by decide
  rw [e] at this
  omega
theorem cxs_ok {s : ByteArray} {i j : Nat} {p q : Int} (hi : i ≤ s.size) (h : cxs s i = .ok (p, q, j)) : p.toNat < 18446744073709551616 ∧ q.toNat < 18446744073709551616 ∧ j ≤ s.size := by
  unfold cxs at h
  cases h1 : hexs s 16 i 0 with
  | error e => rw [h1] at h; cases h
  | ok v =>
    obtain ⟨x, k⟩ := v
    rw [h1] at h
    have hk := hexs_le 16 i 0 x k hi h1
    cases h2 : hexs s 16 k 0 with
    | error e => simp only [h2] at h; cases h
    | ok w =>
      obtain ⟨y, l⟩ := w
      simp only [h2] at h
      cases h
      exact ⟨hexs16 h1, hexs16 h2, hexs_le 16 k 0 q j hk h2⟩
theorem ids_ok {s : ByteArray} {i j : Nat} {a c d : Int} (hi : i ≤ s.size) (h : ids s i = .ok (a, c, d, j)) : j ≤ s.size := by
  unfold ids at h
  cases h1 : dgs s i with
  | error e => rw [h1] at h; cases h
  | ok k1 =>
    simp only [h1] at h
    split at h
    · rename_i hp1
      have hl1 := lt_of_pk (s := s) (i := k1) (by rw [hp1]; decide)
      cases h2 : dgs s (k1 + 1) with
      | error e => simp only [h2] at h; cases h
      | ok k2 =>
        simp only [h2] at h
        split at h
        · rename_i hp2
          have hl2 := lt_of_pk (s := s) (i := k2) (by rw [hp2]; decide)
          cases h3 : dgs s (k2 + 1) with
          | error e => simp only [h3] at h; cases h
          | ok k3 =>
            simp only [h3] at h
            have := (dgs_ok (by omega) h3).2.2.1
            cases h
            exact this
        · cases h
    · cases h
theorem mrk_ok {s : ByteArray} {i j : Nat} {t : Lf} {ok : Bool} (h : mrk s i = .ok (t, ok, j)) :
    (∀ W, Calls Tryz.prog 10 #[t.val] W fun e w' => e = .returned (.int .i64 (okE ok)) ∧ Gr (fun _ => False) W w') ∧ j ≤ s.size := by
  unfold mrk at h
  split at h
  · rename_i hp
    have hl := lt_of_pk (s := s) (i := i) (by rw [hp]; decide)
    cases h1 : cxs s (i + 1) with
    | error e => rw [h1] at h; cases h
    | ok v =>
      obtain ⟨p, q, k⟩ := v
      rw [h1] at h
      obtain ⟨b1, b2, b3⟩ := cxs_ok (by omega) h1
      cases h
      exact ⟨fun W => check_cx W _ _ b1 b2, b3⟩
  · split at h
    · rename_i hp
      have hl := lt_of_pk (s := s) (i := i) (by rw [hp]; decide)
      cases h1 : ids s (i + 1) with
      | error e => rw [h1] at h; cases h
      | ok v =>
        obtain ⟨a, c, d, k⟩ := v
        rw [h1] at h
        have b3 := ids_ok (by omega) h1
        cases h
        exact ⟨fun W => check_ref W _ _ _, b3⟩
    · split at h
      · rename_i hp
        have hl := lt_of_pk (s := s) (i := i) (by rw [hp]; decide)
        cases h1 : ids s (i + 1) with
        | error e => rw [h1] at h; cases h
        | ok v =>
          obtain ⟨a, c, d, k⟩ := v
          rw [h1] at h
          have b3 := ids_ok (by omega) h1
          cases h
          exact ⟨fun W => check_pid W _ _ _, b3⟩
      · cases h
theorem sgl_ok {s : ByteArray} {i j : Nat} {t : Lf} {ok : Bool} (hs : s.size ≤ 65536) (hi : i ≤ s.size) (h : sgl s i = .ok (t, ok, j)) :
    (∀ W, Calls Tryz.prog 10 #[t.val] W fun e w' => e = .returned (.int .i64 (okE ok)) ∧ Gr (fun _ => False) W w') ∧ j ≤ s.size := by
  unfold sgl at h
  split at h
  · cases h1 : itg s i with
    | error e => rw [h1] at h; cases h
    | ok v =>
      obtain ⟨v, k⟩ := v
      rw [h1] at h
      cases h
      refine ⟨fun W => check_int W _, ?_⟩
      unfold itg at h1
      split at h1
      · rename_i hp
        have hl := lt_of_pk (s := s) (i := i) (by rw [hp]; decide)
        split at h1
        · cases h1
        · cases h2 : dgs s (i + 1) with
          | error e => rw [h2] at h1; cases h1
          | ok k2 => rw [h2] at h1; cases h1; exact (dgs_ok (by omega) h2).2.2.1
      · cases h2 : dgs s i with
        | error e => rw [h2] at h1; cases h1
        | ok k2 => rw [h2] at h1; cases h1; exact (dgs_ok hi h2).2.2.1
  · split at h
    · rename_i hlo
      cases h
      have hin : inN (pk s i) = true := by simp [inN, hlo]
      have hy := span_yes (p := inN) hin rfl
      have hge := span_ge inN s (i + 1)
      have hle := span_le (p := inN) hi
      rw [hy.2] at *
      have hsz : (s.extract i (span inN s (i + 1))).size = span inN s (i + 1) - i := size_ext s i _ hle
      have hb : ∀ k, k < span inN s (i + 1) - i → bt (s.extract i (span inN s (i + 1))) k = bt s (i + k) := fun k hk => bt_ext s i _ k hle hk
      refine ⟨fun W => ?_, hle⟩
      have := check_atom W (s.extract i (span inN s (i + 1))) (by rw [hsz]; omega) (by rw [hsz]; omega) (by rw [hb 0 (by omega)]; rw [pk, if_pos hy.1] at hlo; exact hlo)
        (fun k hk => by rw [hsz] at hk; rw [hb k hk]; exact span_all (p := inN) (s := s) (i := i) (i + k) (by omega) (by have := (span_yes (p := inN) hin rfl).2; omega))
      rw [hsz] at this
      exact this
    · split at h
      · exact mrk_ok h
      · cases h
theorem qts_ok {s : ByteArray} : ∀ (k i : Nat) (l : List Int) (m : List Int) (j : Nat), i ≤ s.size → qts s k i l = .ok (m, j) → j ≤ s.size
  | 0, i, l, m, j, hi, h => by simp [qts] at h
  | k + 1, i, l, m, j, hi, h => by
    rw [qts] at h
    by_cases h1 : pk s i = 34
    · rw [if_pos h1] at h
      have := lt_of_pk (s := s) (i := i) (by rw [h1]; decide)
      cases h; omega
    · rw [if_neg h1] at h
      cases h2 : one s i with
      | error e => rw [h2] at h; cases h
      | ok v =>
        obtain ⟨c, i'⟩ := v
        rw [h2] at h
        exact qts_ok k i' _ m j (one_ok h2).2 h
theorem qtd_ok {s : ByteArray} {i n j m : Nat} {l : List Int} (hi : i < s.size) (h : qtd s i n = .ok (l, j, m)) : j ≤ s.size ∧ m ≤ 4096 := by
  unfold qtd at h
  cases h1 : qts s (s.size + 1) (i + 1) [] with
  | error e => rw [h1] at h; cases h
  | ok v =>
    obtain ⟨l', j'⟩ := v
    simp only [h1] at h
    split at h
    · cases h
    · rename_i h2
      cases h
      refine ⟨?_, by omega⟩
      exact qts_ok _ _ _ _ _ hi h1

set_option maxRecDepth 100000 in
set_option maxHeartbeats 1600000 in
theorem part_0 (s : ByteArray) : PartOk s 0 := by
  intro W b i n d hd h hi hn hE hb4
  have hb := h.lt
  have hd2 : 24 < d := by omega
  obtain ⟨c0, c1, c2, f0, f1, f2⟩ := h.facts
  rw [prt]
  go_enter Tryz.func26, Tryz.ntmps26
  go_wp2_with fail
  generalize hW1 : W.alloc _ = W1
  have hg1 : Gr (fun k => k = b) W W1 := hW1 ▸ Gr.alloc _ _ _
  have hr1 : Rd W1 b s i n := hW1 ▸ h.gr (Gr.alloc _ _ (fun _ => False)) (fun e => e)
  have hc1 : W1.heap[W.heap.size]? = some (.cells #[.int .i64 0, .int .i64 0, .complex .f64 0 0, .string e0, .int .i64 0, .int .u32 0, .int .u64 0, nl, nl] 31 (0, 0)) := hW1 ▸ heap_alloc_new W _
  obtain ⟨g, hgg⟩ : ∃ g, g = W.heap.size := ⟨_, rfl⟩
  rw [← hgg] at hc1 ⊢
  have hgn : W.heap.size ≤ g := by omega
  have hgb : ¬ (g = b) := by omega
  have hg1s : g < W1.heap.size := (Array.getElem?_eq_some_iff.1 hc1).1
  clear hW1 hgg
  refine (begin_deep W1 b s i n d hr1 hd2).mono ?_
  rintro e w2 ⟨rfl, hg2⟩
  exact ⟨rfl, rfl, hg1.trans hg2⟩

set_option maxRecDepth 100000 in
set_option maxHeartbeats 3200000 in
theorem part_s (s : ByteArray) (hs : s.size ≤ 65536) (r : Nat) (ih : PartOk s r) (hr24 : r ≤ 23) : PartOk s (r + 1) := by
  intro W b i n d hd h hi hn hE hb4
  have hb := h.lt
  have hd2 : d ≤ 24 := by omega
  have hd3 : 1 ≤ d := by omega
  have hd4 : d + 1 + r = 25 := by omega
  obtain ⟨c0, c1, c2, f0, f1, f2⟩ := h.facts
  obtain ⟨q, hq⟩ : ∃ q, q = prt s (r + 1) i n := ⟨_, rfl⟩
  rw [← hq]
  have Hq := Lib.hid hq
  clear hq hd
  replace ih := Lib.hid ih
  obtain ⟨c, hc⟩ : ∃ c, pk s i = c := ⟨_, rfl⟩
  have hp := fun W h => peek_c W b s i (n + 1) h hi
  rw [hc] at hp
  have Hc := Lib.hid hc
  clear hc
  by_cases h0 : 4096 ≤ n
  · have e : q = .error (i, 21) := by rw [Hq.out, prt, if_pos h0]
    subst e
    replace h0 := Lib.hid h0
    replace hn := Lib.hid hn
    go_enter Tryz.func26, Tryz.ntmps26
    go_wp2_with fail
    generalize hW1 : W.alloc _ = W1
    have hg1 : Gr (fun k => k = b) W W1 := hW1 ▸ Gr.alloc _ _ _
    have hr1 : Rd W1 b s i n := hW1 ▸ h.gr (Gr.alloc _ _ (fun _ => False)) (fun e => e)
    have hc1 : W1.heap[W.heap.size]? = some (.cells #[.int .i64 0, .int .i64 0, .complex .f64 0 0, .string e0, .int .i64 0, .int .u32 0, .int .u64 0, nl, nl] 31 (0, 0)) := hW1 ▸ heap_alloc_new W _
    obtain ⟨g, hgg⟩ : ∃ g, g = W.heap.size := ⟨_, rfl⟩
    rw [← hgg] at hc1 ⊢
    have hgn : W.heap.size ≤ g := by omega
    have hgb : ¬ (g = b) := by omega
    have hg1s : g < W1.heap.size := (Array.getElem?_eq_some_iff.1 hc1).1
    clear hW1 hgg
    refine (begin_full W1 b s i n d hr1 h0.out (by have := hn.out; omega) hd2).mono ?_
    rintro e w2 ⟨rfl, hg2⟩
    exact ⟨rfl, rfl, hg1.trans hg2⟩
  have h0n : n + 1 ≤ 4096 := by omega
  replace h0n := Lib.hid h0n
  replace h0 := Lib.hid h0
  clear hn
  go_enter Tryz.func26, Tryz.ntmps26
  go_wp2_with fail
  generalize hW1 : W.alloc _ = W1
  have hg1 : Gr (fun k => k = b) W W1 := hW1 ▸ Gr.alloc _ _ _
  have hr1 : Rd W1 b s i n := hW1 ▸ h.gr (Gr.alloc _ _ (fun _ => False)) (fun e => e)
  have hc1 : W1.heap[W.heap.size]? = some (.cells #[.int .i64 0, .int .i64 0, .complex .f64 0 0, .string e0, .int .i64 0, .int .u32 0, .int .u64 0, nl, nl] 31 (0, 0)) := hW1 ▸ heap_alloc_new W _
  obtain ⟨g, hgg⟩ : ∃ g, g = W.heap.size := ⟨_, rfl⟩
  rw [← hgg] at hc1 ⊢
  have hgn : W.heap.size ≤ g := by omega
  have hgb : ¬ (g = b) := by omega
  have hg1s : g < W1.heap.size := (Array.getElem?_eq_some_iff.1 hc1).1
  clear hW1 hgg
  refine (begin_ok W1 b s i n d hr1 (by have := h0.out; omega) hd2).mono ?_
  rintro e w2 ⟨rfl, hs2⟩
  go_wp2_with fail
  refine (hp _ hs2.1).mono ?_
  rintro e w3 ⟨rfl, hs3⟩
  have hg3 := (hg1.trans hs2.2).trans hs3.2
  have hc3 := hs3.2.keep (hs2.2.keep hc1 hgb) hgb
  have hE3 := hE.gr hg3 (Ne.symm hb4)
  have hg3s : g < w3.heap.size := (Array.getElem?_eq_some_iff.1 hc3).1
  have hws := hg3.size
  clear hs2 hc1 hr1 hg1 hg1s hp
  by_cases h1 : c = 123
  · subst h1
    have hlt : i < s.size := lt_of_pk (by rw [Hc.out]; decide)
    have hel := elements_c s hs r ih.out w3 b i (n + 1) d 125 hd4 hd3 (by simp) hs3.1 hlt h0n.out hE3 hb4
    go_wp2_with fail
    cases hr : lst s (prt s r) 125 i (n + 1) with
    | error e =>
      obtain ⟨j', c'⟩ := e
      rw [hr] at hel
      have e : q = .error (j', c') := by rw [Hq.out, prt, if_neg h0.out, if_pos Hc.out, hr]
      subst e
      refine hel.mono ?_
      rintro e w4 ⟨rfl, hg4⟩
      exact ⟨rfl, rfl, hg3.trans hg4⟩
    | ok v =>
      obtain ⟨l, j', m'⟩ := v
      rw [hr] at hel
      have e : q = .ok (.mk { k := 6 } [] l, j', m') := by rw [Hq.out, prt, if_neg h0.out, if_pos Hc.out, hr]
      subst e
      refine hel.mono ?_
      rintro e w4 ⟨lv, vs, rfl, hrow, hreps, hs4, hj4, hm4⟩
      have hc4 := hs4.2.keep hc3 hgb
      have hg4 := hg3.trans hs4.2
      obtain ⟨⟨m0, m1, m2, m3, m4, m5, m6, m7, m8⟩, mf⟩ := nine hc4
      replace hm4 := Lib.hid hm4
      have hlv : ∃ a2 n2 c2, lv = .slice a2 n2 c2 := by rcases hrow with ⟨_, a, c, rfl⟩ | ⟨g', cap, cur, rfl, _⟩ <;> exact ⟨_, _, _, rfl⟩
      obtain ⟨a2, n2, c2, rfl⟩ := hlv
      go_wp2_with fail
      have ht : Turn (fun k => w3.heap.size ≤ k) (fun k => W.heap.size ≤ k) w4 _ := fun z hz hlt => ⟨by omega, (Gr.own9 w4 g (.int .i64 6) (.int .i64 0) (.complex .f64 0 0) (.string e0) (.int .i64 0) (.int .u32 0) (.int .u64 0) nl (.slice a2 n2 c2)).block z hlt (by omega)⟩
      exact bodyPost_ret (v := tv 6 0 0 0 e0 0 0 0 nl (.slice a2 n2 c2)) (by simp [results, Tryz.results26, go_sem, m0, m1, m2, m3, m4, m5, m6, m7, m8]) rfl
        ⟨_, rfl, ⟨_, _, vs, rfl, .inl ⟨rfl, _, _, rfl⟩, hrow.turn ht, hreps.turn ht⟩, ⟨hs4.1.gr (Gr.own9 _ _ _ _ _ _ _ _ _ _ _) (fun e => hgb e.symm), hg4.set9 hgn _ _ _ _ _ _ _ _ _⟩, hj4, hm4.out⟩
  by_cases h2 : c = 91
  · subst h2
    have hlt : i < s.size := lt_of_pk (by rw [Hc.out]; decide)
    have hel := elements_c s hs r ih.out w3 b i (n + 1) d 93 hd4 hd3 (by simp) hs3.1 hlt h0n.out hE3 hb4
    go_wp2_with fail
    cases hr : lst s (prt s r) 93 i (n + 1) with
    | error e =>
      obtain ⟨j', c'⟩ := e
      rw [hr] at hel
      have e : q = .error (j', c') := by rw [Hq.out, prt, if_neg h0.out, if_neg (by rw [Hc.out]; decide), if_pos Hc.out, hr]
      subst e
      refine hel.mono ?_
      rintro e w4 ⟨rfl, hg4⟩
      exact ⟨rfl, rfl, hg3.trans hg4⟩
    | ok v =>
      obtain ⟨l, j', m'⟩ := v
      rw [hr] at hel
      have e : q = .ok (.mk { k := 7 } [] l, j', m') := by rw [Hq.out, prt, if_neg h0.out, if_neg (by rw [Hc.out]; decide), if_pos Hc.out, hr]
      subst e
      refine hel.mono ?_
      rintro e w4 ⟨lv, vs, rfl, hrow, hreps, hs4, hj4, hm4⟩
      have hc4 := hs4.2.keep hc3 hgb
      have hg4 := hg3.trans hs4.2
      obtain ⟨⟨m0, m1, m2, m3, m4, m5, m6, m7, m8⟩, mf⟩ := nine hc4
      replace hm4 := Lib.hid hm4
      have hlv : ∃ a2 n2 c2, lv = .slice a2 n2 c2 := by rcases hrow with ⟨_, a, c, rfl⟩ | ⟨g', cap, cur, rfl, _⟩ <;> exact ⟨_, _, _, rfl⟩
      obtain ⟨a2, n2, c2, rfl⟩ := hlv
      go_wp2_with fail
      have ht : Turn (fun k => w3.heap.size ≤ k) (fun k => W.heap.size ≤ k) w4 _ := fun z hz hlt => ⟨by omega, (Gr.own9 w4 g (.int .i64 7) (.int .i64 0) (.complex .f64 0 0) (.string e0) (.int .i64 0) (.int .u32 0) (.int .u64 0) nl (.slice a2 n2 c2)).block z hlt (by omega)⟩
      exact bodyPost_ret (v := tv 7 0 0 0 e0 0 0 0 nl (.slice a2 n2 c2)) (by simp [results, Tryz.results26, go_sem, m0, m1, m2, m3, m4, m5, m6, m7, m8]) rfl
        ⟨_, rfl, ⟨_, _, vs, rfl, .inl ⟨rfl, _, _, rfl⟩, hrow.turn ht, hreps.turn ht⟩, ⟨hs4.1.gr (Gr.own9 _ _ _ _ _ _ _ _ _ _ _) (fun e => hgb e.symm), hg4.set9 hgn _ _ _ _ _ _ _ _ _⟩, hj4, hm4.out⟩
  have h1' : (c == 123) = false := by simpa using h1
  have h2' : (c == 91) = false := by simpa using h2
  by_cases h3 : c = 34
  · subst h3
    have hqd := quoted_c w3 b s i (n + 1) hs3.1 hs Hc.out h0n.out
    go_wp2_with fail
    cases hr : qtd s i (n + 1) with
    | error e =>
      obtain ⟨j', c'⟩ := e
      rw [hr] at hqd
      have e : q = .error (j', c') := by rw [Hq.out, prt, if_neg h0.out, if_neg (by rw [Hc.out]; decide), if_neg (by rw [Hc.out]; decide), if_pos Hc.out, hr]
      subst e
      refine hqd.mono ?_
      rintro e w4 ⟨rfl, hg4⟩
      exact ⟨rfl, rfl, hg3.trans hg4⟩
    | ok v =>
      obtain ⟨l, j', m'⟩ := v
      rw [hr] at hqd
      have e : q = .ok (.mk { k := 8 } l [], j', m') := by rw [Hq.out, prt, if_neg h0.out, if_neg (by rw [Hc.out]; decide), if_neg (by rw [Hc.out]; decide), if_pos Hc.out, hr]
      subst e
      have hjm := qtd_ok (lt_of_pk (by rw [Hc.out]; decide)) hr
      refine hqd.mono ?_
      rintro e w4 ⟨bv, rfl, hown, hs4⟩
      have hc4 := hs4.2.keep hc3 hgb
      have hg4 := hg3.trans hs4.2
      obtain ⟨⟨m0, m1, m2, m3, m4, m5, m6, m7, m8⟩, mf⟩ := nine hc4
      replace hjm := Lib.hid hjm
      obtain ⟨a2, c2, rfl⟩ := ownsRow_sv hown
      go_wp2_with fail
      have ht : Turn (fun k => w3.heap.size ≤ k) (fun k => W.heap.size ≤ k) w4 _ := fun z hz hlt => ⟨by omega, (Gr.own9 w4 g (.int .i64 8) (.int .i64 0) (.complex .f64 0 0) (.string e0) (.int .i64 0) (.int .u32 0) (.int .u64 0) (.slice a2 l.length c2) nl).block z hlt (by omega)⟩
      exact bodyPost_ret (v := tv 8 0 0 0 e0 0 0 0 (.slice a2 l.length c2) nl) (by simp [results, Tryz.results26, go_sem, m0, m1, m2, m3, m4, m5, m6, m7, m8]) rfl
        ⟨_, rfl, ⟨_, _, [], rfl, (rowB_own hown).turn ht, .inl ⟨rfl, _, _, rfl⟩, rfl⟩, ⟨hs4.1.gr (Gr.own9 _ _ _ _ _ _ _ _ _ _ _) (fun e => hgb e.symm), hg4.set9 hgn _ _ _ _ _ _ _ _ _⟩, hjm.out.1, hjm.out.2⟩
  have h3' : (c == 34) = false := by simpa using h3
  have hsg := single_c w3 b s i (n + 1) hs3.1 hs hi hE3 hb4
  go_wp2_with fail
  cases hr : sgl s i with
  | error j' =>
    rw [hr] at hsg
    have e : q = .error (j', 41) := by rw [Hq.out, prt, if_neg h0.out, if_neg (by rw [Hc.out]; exact h1), if_neg (by rw [Hc.out]; exact h2), if_neg (by rw [Hc.out]; exact h3), hr]
    subst e
    refine hsg.mono ?_
    rintro e w4 ⟨rfl, hg4⟩
    exact ⟨rfl, rfl, hg3.trans hg4⟩
  | ok v =>
    obtain ⟨t, ok, j'⟩ := v
    rw [hr] at hsg
    obtain ⟨hck, hj4⟩ := sgl_ok hs hi hr
    have e : q = if ok = true then .ok (.mk t [] [], j', n + 1) else .error (i, 41) := by rw [Hq.out, prt, if_neg h0.out, if_neg (by rw [Hc.out]; exact h1), if_neg (by rw [Hc.out]; exact h2), if_neg (by rw [Hc.out]; exact h3), hr]
    have He := Lib.hid e
    clear e hr
    refine hsg.mono ?_
    rintro e w4 ⟨rfl, hs4⟩
    have hc4 := hs4.2.keep hc3 hgb
    have hg4 := hg3.trans hs4.2
    obtain ⟨tk, tn, tx, ty, ts, ta, tc, td⟩ := t
    simp only [Lf.val] at hck
    go_wp2_with fail
    refine (hck _).mono ?_
    rintro e w5 ⟨rfl, hg5⟩
    have ha5 : Gr (fun _ => False) w4 w5 := (Gr.alloc w4 _ _).trans hg5
    have hB5 : Bx w5 w4.heap.size tk tn tx ty ts ta tc td nl nl := hg5.keep (heap_alloc_new w4 _) (fun e => e)
    have hc5 := ha5.keep hc4 (fun e => e)
    have hr5 := hs4.1.gr ha5 (fun e => e)
    have hg5' := hg4.trans (ha5.mono (S' := fun k => k = b) (fun _ _ e => e.elim))
    obtain ⟨⟨m0, m1, m2, m3, m4, m5, m6, m7, m8⟩, mf⟩ := nine hc5
    obtain ⟨b0, b1, b2, b3, b4, b5, b6, b7, b8⟩ := hB5.facts
    clear hck hsg hg5
    cases ok
    · have e : q = .error (i, 41) := by rw [He.out]; rfl
      subst e
      go_wp2_with fail
      exact ⟨rfl, rfl, hg5'⟩
    · have e : q = .ok (.mk { k := tk, n := tn, x := tx, y := ty, s := ts, a := ta, c := tc, d := td } [] [], j', n + 1) := by rw [He.out]; rfl
      subst e
      go_wp2_with fail
      exact bodyPost_ret (v := lf tk tn tx ty ts ta tc td) (by simp [results, Tryz.results26, go_sem, m0, m1, m2, m3, m4, m5, m6, m7, m8]) rfl
        ⟨_, rfl, ⟨_, _, [], rfl, .inl ⟨rfl, _, _, rfl⟩, .inl ⟨rfl, _, _, rfl⟩, rfl⟩, ⟨hr5.gr (Gr.own9 _ _ _ _ _ _ _ _ _ _ _) (fun e => hgb e.symm), hg5'.set9 hgn _ _ _ _ _ _ _ _ _⟩, hj4, h0n.out⟩

theorem part_c (s : ByteArray) (hs : s.size ≤ 65536) : ∀ r, r ≤ 24 → PartOk s r
  | 0, _ => part_0 s
  | r + 1, h => part_s s hs r (part_c s hs r (by omega)) (by omega)
end Go.Proofs.YtdmichjhmfinpaaGreatDoor
/-
  The whole of a text.
-/
namespace Go.Proofs.YtdmichjhmfinpaaGreatDoor
open Go.RowKit Go.Maps

/-- What a text is: a term, or what is wrong and where. -/
def prs (s : ByteArray) : Except (Nat × Int) Tm :=
  match prt s 24 0 0 with
  | .error e => .error e
  | .ok (T, j, _) => if j < s.size then .error (j, 42) else .ok T
def EndW (W : World) (b : Nat) (e : Ending) (w' : World) : Except (Nat × Int) Tm → Prop
  | .ok T => ∃ v, e = .returned v ∧ Rep (fun k => W.heap.size ≤ k) w' T v ∧ Gr (fun k => k = b) W w'
  | .error (j, c) => e = gives j c ∧ Gr (fun k => k = b) W w'

set_option maxRecDepth 100000 in
set_option maxHeartbeats 1600000 in
theorem whole_c (s : ByteArray) (hs : s.size ≤ 65536) (W : World) (b : Nat) (h : Rd W b s 0 0) (hE : Er W) (hb4 : b ≠ 4) :
    Calls Tryz.prog 16 #[pt b] W fun e w' => EndW W b e w' (prs s) := by
  have hb := h.lt
  obtain ⟨q, hq⟩ : ∃ q, q = prs s := ⟨_, rfl⟩
  rw [← hq]
  have Hq := Lib.hid hq
  clear hq
  go_enter Tryz.func16, Tryz.ntmps16
  go_wp2_with fail
  generalize hW1 : W.alloc _ = W1
  have hg1 : Gr (fun k => k = b) W W1 := hW1 ▸ Gr.alloc _ _ _
  have hr1 : Rd W1 b s 0 0 := hW1 ▸ h.gr (Gr.alloc _ _ (fun _ => False)) (fun e => e)
  have hc1 : W1.heap[W.heap.size]? = some (.cells #[.int .i64 0, .int .i64 0, .complex .f64 0 0, .string e0, .int .i64 0, .int .u32 0, .int .u64 0, nl, nl] 31 (0, 0)) := hW1 ▸ heap_alloc_new W _
  obtain ⟨g, hgg⟩ : ∃ g, g = W.heap.size := ⟨_, rfl⟩
  rw [← hgg] at hc1 ⊢
  have hgn : W.heap.size ≤ g := by omega
  have hgb : ¬ (g = b) := by omega
  have hg1s : g < W1.heap.size := (Array.getElem?_eq_some_iff.1 hc1).1
  clear hW1 hgg
  have hE1 := hE.gr hg1 (Ne.symm hb4)
  have hcall := part_c s hs 24 (by omega) W1 b 0 0 1 (by decide) hr1 (by omega) (by omega) hE1 hb4
  cases hr : prt s 24 0 0 with
  | error e =>
    obtain ⟨j', c'⟩ := e
    rw [hr] at hcall
    have e : q = .error (j', c') := by rw [Hq.out, prs, hr]
    subst e
    refine hcall.mono ?_
    rintro e w2 ⟨rfl, hg2⟩
    exact ⟨rfl, rfl, hg1.trans hg2⟩
  | ok v =>
    obtain ⟨T, j, m⟩ := v
    rw [hr] at hcall
    have He : Hid (q = if j < s.size then .error (j, 42) else .ok T) := by show q = _; rw [Hq.out, prs, hr]
    clear hr Hq
    refine hcall.mono ?_
    rintro e w2 ⟨v, rfl, hrep, hs2, hj, hm⟩
    clear hm hcall
    obtain ⟨tk, tn, tx, ty, ts, ta, tc, td, a1, n1, c1, a2, n2, c2, rfl⟩ := hrep.agg
    have hc2 := hs2.2.keep hc1 hgb
    have hg2 := hg1.trans hs2.2
    have hb2 := hs2.1.lt
    go_wp2_with fail
    generalize hW3 : w2.alloc _ = w3
    have ha3 : Gr (fun _ => False) w2 w3 := hW3 ▸ Gr.alloc _ _ _
    have hB3 : Bx w3 w2.heap.size tk tn tx ty ts ta tc td (.slice a1 n1 c1) (.slice a2 n2 c2) := hW3 ▸ heap_alloc_new w2 _
    clear hW3
    have hr3 := hs2.1.gr ha3 (fun e => e)
    have hc3 := ha3.keep hc2 (fun e => e)
    have hg3 := hg2.trans (ha3.mono (S' := fun k => k = b) (fun _ _ e => e.elim))
    have hrep3 := hrep.turn (A' := fun k => W1.heap.size ≤ k) (fun z hz hlt => ⟨hz, ha3.block z hlt (fun e => e)⟩)
    obtain ⟨k0, k1, k2, l0, l1, l2⟩ := hr3.facts
    obtain ⟨⟨m0, m1, m2, m3, m4, m5, m6, m7, m8⟩, mf⟩ := nine hc3
    obtain ⟨b0, b1, b2, b3, b4, b5, b6, b7, b8⟩ := hB3.facts
    have hgw : W.heap.size ≤ W1.heap.size := hg1.size
    by_cases hlt : j < s.size
    · have e : q = .error (j, 42) := by rw [He.out, if_pos hlt]
      subst e
      have hI : (j : Int) < (s.size : Int) := by omega
      go_quiet (fail)
      go_wp2_with fail
      exact ⟨rfl, rfl, hg3.trans (Gr.drewN _ _ _)⟩
    · have e : q = .ok T := by rw [He.out, if_neg hlt]
      subst e
      have hI : decide ((j : Int) < (s.size : Int)) = false := by simp; omega
      go_quiet (fail)
      go_wp2_with fail
      have ht : ∀ (v0 v1 v2 v3 v4 v5 v6 v7 v8 : Value), Turn (fun k => W1.heap.size ≤ k) (fun k => W.heap.size ≤ k) w3 _ := fun v0 v1 v2 v3 v4 v5 v6 v7 v8 z hz hlt => ⟨by omega, ((Gr.drewN w3 nq (fun k => k = g)).trans (Gr.own9 (w3.drewN nq) g v0 v1 v2 v3 v4 v5 v6 v7 v8)).block z hlt (by omega)⟩
      exact bodyPost_ret (v := tv tk tn tx ty ts ta tc td (.slice a1 n1 c1) (.slice a2 n2 c2)) (by simp [results, Tryz.results16, go_sem, m0, m1, m2, m3, m4, m5, m6, m7, m8]) rfl
        ⟨_, rfl, hrep3.turn (ht _ _ _ _ _ _ _ _ _), (hg3.trans (Gr.drewN _ _ _)).set9 hgn _ _ _ _ _ _ _ _ _⟩
end Go.Proofs.YtdmichjhmfinpaaGreatDoor
