/-
  Flight: copies of those in flight.
-/
import Derived.Test.YtjffhnpoipolfaaI
set_option linter.unusedVariables false
set_option linter.unusedSimpArgs false
namespace Go.Proofs.Ytjffhnpoipolfaa
open Go.RowKit Go.Maps Go.WideMaps
variable {S S' : Nat → Prop} {W W1 W' : World}

theorem flight_nil (W : World) : Calls Try.prog 16 #[.pointer none] W fun e w' => e = .returned nl ∧ W = w' := by
  go_enter Try.func16, Try.ntmps16
  go_wp2
  go_ret
  exact ⟨rfl, rfl⟩
/-- A datagram without its place. -/
def ab (d : Dg) : Int × Int × Nat × List Nat × Bool := (d.f, d.t, d.n, d.by', d.sp)
theorem set5_take (L : List Value) (k : Nat) (v0 v1 v2 v3 v4 : Value) (h : k + 5 ≤ L.length) :
    (((((L.set k v0).set (k + 1) v1).set (k + 2) v2).set (k + 3) v3).set (k + 4) v4).take (k + 5) = L.take k ++ [v0, v1, v2, v3, v4] := by
  apply List.ext_getElem?
  intro j
  have hk : min k L.length = k := by omega
  rcases Nat.lt_or_ge j k with hj | hj
  · rw [List.getElem?_take_of_lt (by omega), List.getElem?_append_left (by rw [List.length_take]; omega), List.getElem?_take_of_lt hj]
    simp only [List.getElem?_set]
    rw [if_neg (by omega), if_neg (by omega), if_neg (by omega), if_neg (by omega), if_neg (by omega)]
  · rw [List.getElem?_append_right (by rw [List.length_take]; omega), List.length_take, hk]
    obtain ⟨m, rfl⟩ : ∃ m, j = k + m := ⟨j - k, by omega⟩
    rw [Nat.add_sub_cancel_left]
    rcases Nat.lt_or_ge m 5 with hm | hm
    · rw [List.getElem?_take_of_lt (by omega)]
      simp only [List.getElem?_set, List.length_set]
      match m, hm with
      | 0, _ => rw [if_neg (by omega), if_neg (by omega), if_neg (by omega), if_neg (by omega), if_pos (by omega), if_pos (by omega)]; rfl
      | 1, _ => rw [if_neg (by omega), if_neg (by omega), if_neg (by omega), if_pos (by omega), if_pos (by omega)]; rfl
      | 2, _ => rw [if_neg (by omega), if_neg (by omega), if_pos (by omega), if_pos (by omega)]; rfl
      | 3, _ => rw [if_neg (by omega), if_pos (by omega), if_pos (by omega)]; rfl
      | 4, _ => rw [if_pos (by omega), if_pos (by omega)]; rfl
    · rw [List.getElem?_eq_none (by rw [List.length_take]; omega), List.getElem?_eq_none (by simp; omega)]
theorem Rw.put {g cap m : Nat} {xs : List Value} (h : Rw W g cap m xs) (hm : m + 1 ≤ cap) (v0 v1 v2 v3 v4 : Value) :
    Rw (((((W.setCell ⟨g, m * 5, none⟩ v0).setCell ⟨g, m * 5 + 1, none⟩ v1).setCell ⟨g, m * 5 + 2, none⟩ v2).setCell ⟨g, m * 5 + 3, none⟩ v3).setCell ⟨g, m * 5 + 4, none⟩ v4) g cap (m + 1) (xs ++ [v0, v1, v2, v3, v4]) := by
  obtain ⟨cur, h1, h2, h3⟩ := h
  have e0 := heap_setCell_same W g (m * 5) _ 39 v0 h1
  have e1 := heap_setCell_same _ g (m * 5 + 1) _ 39 v1 e0
  have e2 := heap_setCell_same _ g (m * 5 + 2) _ 39 v2 e1
  have e3 := heap_setCell_same _ g (m * 5 + 3) _ 39 v3 e2
  have e4 := heap_setCell_same _ g (m * 5 + 4) _ 39 v4 e3
  refine ⟨_, e4, by simpa using h2, ?_⟩
  simp only [Array.toList_setIfInBounds]
  rw [show (m + 1) * 5 = m * 5 + 5 by omega, set5_take _ _ _ _ _ _ _ (by rw [Array.length_toList]; omega), h3]
theorem Rw.gr {g cap m : Nat} {xs : List Value} (h : Rw W g cap m xs) (k : Gr S W W') (hs : ¬ S g) : Rw W' g cap m xs := by
  obtain ⟨cur, h1, h2⟩ := h
  exact ⟨cur, (k.block g (lt_of_blk h1) hs).trans h1, h2⟩
theorem mk30 (n : Nat) (hn : n ≤ 1024) : ∃ M : Array Value, M.size = n * 5 ∧ ∀ W : World, (Instr.makeSlice 30 (.int .i64 (n : Int)) (.int .i64 (n : Int))).run Try.prog W = .ok (.slice (some ⟨W.heap.size, 0, none⟩) n n) (W.alloc (.cells M 39)) := by
  obtain ⟨i0, hi, hz0, hz1, hz2⟩ := info_parts info39
  refine ⟨madeCells (dv 0 0 0 nl false).cells (n * 5), ?_, fun W => ?_⟩
  · simp [madeCells]
  · have := run_makeSlice (P := Try.prog) (w := W) 30 39 i0 (dv 0 0 0 nl false) Try.underlying30 hi hz0 .i64 .i64 n n (by omega) (Int.le_refl _) (by rw [hz1]; omega) (by rw [hz2]; omega) (by omega)
    rw [this, hz1]
    simp
/-- Copies: the same datagrams, at places of their own. -/
structure Cps (N : Nat) (W : World) (l l' : List Dg) : Prop where
  ab : l'.map ab = l.map ab
  byt : ∀ d ∈ l', W.heap[d.bk]? = some (.cells (bs d.by').toArray 5 (0, 0)) ∧ N ≤ d.bk
theorem take_get {l : List Dg} {j : Nat} {d : Dg} (h : l[j]? = some d) : l.take (j + 1) = l.take j ++ [d] := by
  rw [List.take_add_one, h]; rfl
set_option maxRecDepth 20000 in
set_option maxHeartbeats 1600000 in
theorem flight_c (W : World) (s : Ns) (h : Nt W s) :
    Calls Try.prog 16 #[pt s.p] W fun e w' => ∃ g l', e = .returned (.slice (some ⟨g, 0, none⟩) (s.q none).length (s.q none).length) ∧ w'.ownsRow 0 39 5 (.slice (some ⟨g, 0, none⟩) (s.q none).length (s.q none).length) (s.q none).length (flat l') ∧ Cps W.heap.size w' (s.q none) l' ∧ W.heap.size ≤ g ∧ G0 W w' := by
  obtain ⟨c0, c1, c2, c3, c4, _⟩ := five h.blk
  obtain ⟨a, cap, e, hc1, hc2⟩ := ownsRow_sv (h.row none)
  rw [e] at c3
  obtain ⟨n, hn⟩ : ∃ n, (s.q none).length = n := ⟨_, rfl⟩
  obtain ⟨M, hM, hmk⟩ := mk30 n (by have := h.wl; omega)
  have hl : (n : Int) ≤ 1024 := by have := h.wl; omega
  have hlt := lt_of_blk h.blk
  have Hn := Lib.hid hn
  have Hh := Lib.hid h
  have He := Lib.hid e
  rw [hn] at c3 hc1
  have hat := Lib.hid (fun W' (g : G0 W W') j d (hd : (s.q none)[j]? = some d) => flight_at (h.g0 g) hd)
  clear h hn e
  go_enter Try.func16, Try.ntmps16
  go_wp2_with fail
  go_loopw [4, 5, 19] (fun _ _ i wr => ∃ j : Nat, ∃ l', j ≤ n ∧ i = .int .i64 (j : Int) ∧ l'.length = j ∧ Rw wr W.heap.size n j (flat l') ∧ Cps W.heap.size wr ((s.q none).take j) l' ∧ G0 W wr) (fun _ _ i _ => n - (intOf i).toNat)
  case atStart => exact ⟨0, [], Nat.zero_le _, rfl, rfl, ⟨M, heap_alloc_new _ _, hM, by simp⟩, ⟨rfl, by simp⟩, Gr.alloc _ _ _⟩
  case round =>
    obtain ⟨j, l', hj, rfl, hl', hrw, hcp, hg⟩ := hrel
    by_cases hlt2 : j < n
    · obtain ⟨d, hd⟩ : ∃ d, (s.q none)[j]? = some d := ⟨_, List.getElem?_eq_getElem (by rw [Hn.out]; exact hlt2)⟩
      obtain ⟨g, cap', n', e', hn', hi, hl2, hc1', hc2', hf, a0, a1, a2, a3, a4, hgl, hgp⟩ := hat.out wr hg j d hd
      have e2 := He.out.symm.trans e'
      injection e2 with e3 e4 e5
      subst e3 e5
      have hdm : d ∈ s.q none := List.mem_of_getElem? hd
      have hok := Hh.out.ok none d hdm
      have hby := Hh.out.byt none d hdm
      have hsl : Hid (∀ W', G0 W W' → Sl W' d.bv d.by') := Lib.hid (fun W' g => ⟨hok.2.1, by have := hok.1; omega, .inr ⟨⟨d.bk, 0, none⟩, _, rfl, Nat.le_refl _, by have := hok.1; omega, fun j hj => by
        rw [Addr.add_lit, Nat.zero_add]; simp only [World.cell?, (g.block _ (lt_of_blk hby) (fun e => e)).trans hby]
        have := bs_get d.by' j hj
        simpa using this⟩⟩)
      have hI : (j : Int) < (n : Int) := by omega
      have Hl' := Lib.hid hl'
      have Hrw := Lib.hid hrw
      have Hcp := Lib.hid hcp
      have Hg := Lib.hid hg
      have Hd := Lib.hid hd
      have Hok := Lib.hid hok.1
      clear hn' hi hl2 hc1' hc2' e' e4 hdm hok hby hl' hrw hcp hg hd hf
      go_wp2_with fail
      refine (another_c _ d.f d.t d.n d.bv d.by' d.sp (hsl.out _ (Hg.out.trans (Gr.alloc _ _ _))) Hok.out).mono ?_
      rintro e w2 ⟨bk, rfl, hb2, hb3, hg2⟩
      have hG2 := Lib.hid ((Gr.alloc wr _ _).trans hg2)
      have hrw2 := Lib.hid (Hrw.out.gr hG2.out (fun e => e))
      obtain ⟨hf2, hc2x⟩ := hrw2.out.facts (by omega)
      obtain ⟨y0, z0⟩ := hc2x 0 (by omega)
      obtain ⟨y1, z1⟩ := hc2x 1 (by omega)
      obtain ⟨y2, z2⟩ := hc2x 2 (by omega)
      obtain ⟨y3, z3⟩ := hc2x 3 (by omega)
      obtain ⟨y4, z4⟩ := hc2x 4 (by omega)
      rw [Nat.add_zero] at z0
      have hbk : Hid (wr.heap.size ≤ bk) := Lib.hid (by rw [size_alloc] at hb3; omega)
      clear hc2x hg2 hb3
      go_wp2_with fail
      have g5 := (((((Gr.refl (fun i => i = W.heap.size) w2).cell ⟨W.heap.size, j * 5, none⟩ (.int .i64 d.f) (.inl rfl)).cell ⟨W.heap.size, j * 5 + 1, none⟩ (.int .i64 d.t) (.inl rfl)).cell ⟨W.heap.size, j * 5 + 2, none⟩ (.int .u64 (d.n : Int)) (.inl rfl)).cell ⟨W.heap.size, j * 5 + 3, none⟩ (.slice (some ⟨bk, 0, none⟩) d.by'.length d.by'.length) (.inl rfl)).cell ⟨W.heap.size, j * 5 + 4, none⟩ (.bool d.sp) (.inl rfl)
      have hrw5 := hrw2.out.put (by omega) (.int .i64 d.f) (.int .i64 d.t) (.int .u64 (d.n : Int)) (.slice (some ⟨bk, 0, none⟩) d.by'.length d.by'.length) (.bool d.sp)
      obtain ⟨cur, hcur, _⟩ := hrw2.out
      have hne : ∀ {k : Nat} {c : Array Value}, w2.heap[k]? = some (.cells c 5 (0, 0)) → k ≠ W.heap.size := fun hk e => by rw [e, hcur] at hk; simp at hk
      have hgs := Hg.out.size
      refine ⟨⟨j + 1, l' ++ [⟨d.f, d.t, d.n, bk, d.by', d.sp⟩], by omega, by go_num, by simp [Hl'.out], ?_, ⟨?_, ?_⟩, ?_⟩, by simp [intOf]; omega⟩
      · rw [flat_append]; exact hrw5
      · rw [take_get Hd.out, List.map_append, List.map_append, Hcp.out.ab]; rfl
      · intro d' hd'
        rcases List.mem_append.1 hd' with hd' | hd'
        · have h1 := Hcp.out.byt d' hd'
          have h2 := (hG2.out.block _ (lt_of_blk h1.1) (fun e => e)).trans h1.1
          exact ⟨(g5.block _ (lt_of_blk h2) (hne h2)).trans h2, h1.2⟩
        · rw [List.mem_singleton] at hd'
          subst hd'
          exact ⟨(g5.block _ (lt_of_blk hb2) (hne hb2)).trans hb2, by show W.heap.size ≤ bk; have := hbk.out; omega⟩
      · exact (Hg.out.trans hG2.out).trans' g5 (fun i hi e => by omega)
    · obtain rfl : j = n := by omega
      have htk : (s.q none).take j = s.q none := List.take_of_length_le (by rw [Hn.out]; exact Nat.le_refl _)
      rw [htk] at hcp
      have Hl' := Lib.hid hl'
      have Hrw := Lib.hid hrw
      have Hcp := Lib.hid hcp
      have Hg := Lib.hid hg
      clear hl' hrw hcp hg
      go_wp2
      go_ret
      refine ⟨W.heap.size, l', by rw [Hn.out]; rfl, ?_, Hcp.out, Nat.le_refl _, Hg.out⟩
      rw [Hn.out]
      exact Hrw.out.owns (by rw [flat_length, Hl'.out]) (Nat.le_refl _) (by unfold maxLen; omega)
end Go.Proofs.Ytjffhnpoipolfaa
