/-
  The reference's Do: Take.
-/
import Derived.Test.YtjffhnpoipolfaaZF
set_option linter.unusedVariables false
set_option linter.unusedSimpArgs false
namespace Go.Proofs.Ytjffhnpoipolfaa
open Go.RowKit Go.Maps Go.WideMaps
variable {S S' Y : Nat → Prop} {W W1 W' : World}

set_option maxRecDepth 20000 in
set_option maxHeartbeats 4000000 in
theorem do5_ok (W : World) (nodes : Int) (sent : Nat) (wa : Option Addr) (wl wc : Nat) (bv : Value) (lb : List Dx) (lost : Nat) (f t i a m : Int) (oa : Option Addr) (ol oc : Nat) (h : Rg Y W bv lb) (hY : ∀ k, Y k → k < W.heap.size) (hlb : (lb.length : Int) ≤ 1000000) (hlb2 : lb.length ≤ 40000) (hf : nod f nodes = true) :
    Calls Try.prog 13 #[rv nodes sent (.slice wa wl wc) bv lost, ov 5 f t i a m (.slice oa ol oc)] W (EndD W (fun w' nv dd ok c => c = 0 ∧ ((ok = false ∧ dd = zdv ∧ nv = rv nodes sent (.slice wa wl wc) bv lost ∧ ∀ x ∈ lb, x.t ≠ f) ∨ (ok = true ∧ ∃ j d bv', lb[j]? = some d ∧ d.t = f ∧ (∀ i, i < j → ∀ x, lb[i]? = some x → x.t ≠ f) ∧ dd = d.val ∧ nv = rv nodes sent (.slice wa wl wc) bv' lost ∧ Rg (fun k => Y k ∨ W.heap.size ≤ k) w' bv' (lb.eraseIdx j))))) := by
  obtain ⟨ba, bc, rfl, hc1, hc2⟩ := ownsRow_sv h.row
  have HB := Lib.hid (b5_new W nodes sent (.slice wa wl wc) (.slice ba lb.length bc) lost 5 f t i a m (.slice oa ol oc))
  have hn1 := fun w => node_r w nodes sent (.slice wa wl wc) (.slice ba lb.length bc) lost f
  rw [hf] at hn1
  have Hh := Lib.hid h
  have HY := Lib.hid hY
  clear h hY
  go_enter Try.func13, Try.ntmps13
  go_wp2_with fail
  refine (hn1 _).mono ?_
  rintro e w1 ⟨rfl, hg1⟩
  have X1 := Lib.hid (HB.out.g0 hg1)
  clear hg1
  obtain ⟨a01, a11, a21, a31, a41, _⟩ := five X1.out.xa
  obtain ⟨b01, b11, b21, b31, b41, b51, b61⟩ := seven X1.out.xb
  go_wp2_with fail
  go_loopw [10, 11] (fun x _ wr => ∃ j : Nat, j ≤ lb.length ∧ x = .int .i64 (j : Int) ∧ G0 w1 wr ∧ ∀ i, i < j → ∀ x, lb[i]? = some x → x.t ≠ f) (fun x _ _ => lb.length - (intOf x).toNat)
  case atStart => exact ⟨0, Nat.zero_le _, rfl, Gr.refl _ _, fun i hi => by omega⟩
  case round =>
    obtain ⟨j, hj, rfl, hg, hfst⟩ := hrel
    have X2 := Lib.hid (X1.out.g0 hg)
    have Hfst := Lib.hid hfst
    have Hg := Lib.hid hg
    clear hg hfst
    obtain ⟨a0, a1, a2, a3, a4, fa0, fa1, fa2, fa3, fa4⟩ := five X2.out.xa
    obtain ⟨b0, b1, b2, b3, b4, b5, b6⟩ := seven X2.out.xb
    have hltA : W.heap.size < wr.heap.size := lt_of_blk X2.out.xa
    have hltB : W.heap.size + 1 < wr.heap.size := lt_of_blk X2.out.xb
    by_cases hlt : j < lb.length
    · obtain ⟨d, hd⟩ : ∃ d, lb[j]? = some d := ⟨_, List.getElem?_eq_getElem hlt⟩
      obtain ⟨g, cap, e, _, _, y0, y1, y2, y3, y4⟩ := rowx_at (ownsRow_g0 Hh.out.row X2.out.xg) hd
      cases e
      have hI : (j : Int) < (lb.length : Int) := by omega
      have Hd := Lib.hid hd
      clear hd
      by_cases hq : d.t = f
      · have hqb : (d.t == f) = true := by simpa using hq
        have Hq := Lib.hid hq
        clear hq
        go_wp2_with fail
        go_region
        all_goals
          go_wp2_with fail
          generalize hw3 : World.drew (World.alloc wr _) = w3
          have g3 : G0 wr w3 := by rw [← hw3]; exact (Gr.alloc _ _ _).trans (Gr.drew _ _)
          have L3 : w3.heap[wr.heap.size]? = some (.cells #[.int .i64 d.f, .int .i64 d.t, .int .u64 (d.n : Int), d.bv, .bool d.sp] 39 (0, 0)) := by rw [← hw3]; exact heap_alloc_new wr _
          clear hw3
          have X3 := X2.out.g0 g3
          have hs0 : W.heap.size + 1 + 1 + 1 + 1 < wr.heap.size := lt_of_blk X2.out.xe
          refine (without_r w3 _ lb j hlt (ownsRow_g0 Hh.out.row X3.xg) (by omega) (by omega)).mono ?_
          rintro e w4 ⟨v', rfl, hr4, ho4, hg4⟩
          obtain ⟨a5, cap5, rfl, _, _⟩ := ownsRow_sv hr4
          have X4 := Lib.hid (X3.g0 hg4)
          have L4 := (hg4.block _ (lt_of_blk L3) (fun e => e)).trans L3
          have hz : w3.heap.size ≤ w4.heap.size := hg4.size
          have hz3 : wr.heap.size ≤ w3.heap.size := g3.size
          have R4 := Lib.hid hr4
          have O4 := Lib.hid ho4
          have hne : wr.heap.size ≠ W.heap.size := by omega
          have hne2 : wr.heap.size ≠ W.heap.size + 1 + 1 := by omega
          have hne3 : wr.heap.size ≠ W.heap.size + 1 + 1 + 1 := by omega
          obtain ⟨l0, l1, l2, l3, l4, _⟩ := five L4
          obtain ⟨a04, a14, a24, a34, a44, fa04, fa14, fa24, fa34, fa44⟩ := five X4.out.xa
          obtain ⟨c0, c1, c2, c3, c4, c5, c6, c7, c8, c9⟩ := five X4.out.xc
          obtain ⟨d0, d1, d2, d3, d4, d5, d6, d7, d8, d9⟩ := five X4.out.xd
          clear hr4 ho4 hg4 X3 L3
          go_wp2_with fail
          go_region
          all_goals
            go_wp2
            refine bodyPost_ret (v := .tuple #[rv nodes sent (.slice wa wl wc) (.slice a5 (lb.eraseIdx j).length cap5) lost, d.val, .bool true, .int .i64 0]) (by simp [results, Try.results13, go_sem, c0, c1, c2, c3, c4, d0, d1, d2, d3, d4]) rfl ?_
            have gA := X4.out.xg.cell ⟨W.heap.size, 3, none⟩ (.slice a5 (lb.eraseIdx j).length cap5) (.inr (Nat.le_refl _))
            have key : ∀ w', G0 W w' → (∀ k, w3.heap.size ≤ k → w'.heap[k]? = w4.heap[k]?) → Rg (fun k => Y k ∨ W.heap.size ≤ k) w' (.slice a5 (lb.eraseIdx j).length cap5) (lb.eraseIdx j) := fun w' gw hk =>
              ⟨ownsRow_of_block R4.out (fun k e => hk k (O4.out k e)), fun k e => .inr (by have := O4.out k e; omega), fun x hx => by
                have h1 := (Hh.out.byt x (mem_erase hx)).keep (W' := w') (fun k hk => gw.block k (HY.out k hk) (fun e => e))
                exact ⟨h1.1, fun b off e => (h1.2.1 b off e).imp id .inl, h1.2.2⟩⟩
            refine ⟨_, _, _, _, rfl, ⟨rfl, .inr ⟨rfl, j, d, _, Hd.out, Hq.out, Hfst.out, rfl, rfl, key _ ?_ ?_⟩⟩, ?_⟩
            · exact (fin10 gA _ _ _ _ _ _ _ _ _ _).trans (Gr.drew _ _)
            · intro k hk
              exact (keep10 (by omega) (by omega) _ _ _ _ _ _ _ _ _ _).trans (keep1 (by omega) _)
            · exact (fin10 gA _ _ _ _ _ _ _ _ _ _).trans (Gr.drew _ _)
      · have hqb : (d.t == f) = false := by simpa using hq
        have Hq := Lib.hid hq
        clear hq
        go_wp2_with fail
        go_region
        all_goals
          go_wp2_with fail
          refine ⟨⟨j + 1, by omega, by go_num, Hg.out.trans (by first | exact Gr.drew _ _ | exact Gr.refl _ _), fun i hi x hx => ?_⟩, by simp [intOf]; omega⟩
          rcases Nat.lt_or_ge i j with h1 | h1
          · exact Hfst.out i h1 x hx
          · obtain rfl : i = j := by omega
            rw [Hd.out] at hx; cases hx; exact Hq.out
    · have hI : ¬ (j : Int) < (lb.length : Int) := by omega
      obtain ⟨c0, c1, c2, c3, c4, c5, c6, c7, c8, c9⟩ := five X2.out.xc
      obtain ⟨d0, d1, d2, d3, d4, d5, d6, d7, d8, d9⟩ := five X2.out.xd
      obtain ⟨e0, e1, e2, e3, e4, _⟩ := five X2.out.xe
      go_wp2_with fail
      go_region
      all_goals
        go_wp2
        refine bodyPost_ret (v := .tuple #[rv nodes sent (.slice wa wl wc) (.slice ba lb.length bc) lost, zdv, .bool false, .int .i64 0]) (by simp [results, Try.results13, go_sem, c0, c1, c2, c3, c4, d0, d1, d2, d3, d4]) rfl ?_
        refine ⟨_, _, _, _, rfl, ⟨rfl, .inl ⟨rfl, rfl, rfl, fun x hx => ?_⟩⟩, (fin10 X2.out.xg _ _ _ _ _ _ _ _ _ _).trans (Gr.drew _ _)⟩
        obtain ⟨i, hi⟩ := List.mem_iff_getElem?.1 hx
        exact Hfst.out i (by have := (List.getElem?_eq_some_iff.1 hi).1; omega) x hi
end Go.Proofs.Ytjffhnpoipolfaa
