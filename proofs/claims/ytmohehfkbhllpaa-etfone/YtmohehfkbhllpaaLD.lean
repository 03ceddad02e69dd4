/-
  The writer: parts without elements.
-/
import Derived.Test.YtmohehfkbhllpaaLA
import Derived.Test.YtmohehfkbhllpaaBC
set_option linter.unusedVariables false
set_option linter.unusedSimpArgs false
namespace Go.Proofs.Ytmohehfkbhllpaa
open Go.RowKit Go.Maps
variable {S S' G : Nat → Prop} {W W1 W' : World}

theorem Wt.fit {wb tb : Nat} {l : List Int} {ns : List ByteArray} {bv : Value} (h : Wt G W wb tb l ns bv) : Wt (fun k => G k ∧ k < W.heap.size) W wb tb l ns bv := by
  obtain ⟨mp, sv, ht, hf⟩ := h.tab
  exact ⟨h.blk, h.row, ⟨mp, sv, ht, fun k e => ⟨hf k e, ht.lt k e⟩⟩, ⟨h.gw, h.lt⟩, fun k e => ⟨h.gb k e, (ownsRow_lt h.row.row k e).2⟩⟩
/-- part lays the bytes x behind what is there, behind the names ns; ns': the names behind it. -/
def WpOk (T : Tm) (ns : List ByteArray) (x : List Int) (ns' : List ByteArray) : Prop := ∀ (A G : Nat → Prop) (W : World) (wb tb : Nat) (l : List Int) (v bv : Value), Rep A W T v → (∀ k, A k → k < W.heap.size ∧ ¬ G k) → (∀ k, G k → k < W.heap.size) → Wt G W wb tb l ns bv → l.length + x.length + 1000 ≤ 800000 →
  Calls Try.prog 16 #[pt wb, v] W fun e w' => e = .returned (.tuple #[]) ∧ Wn G W wb tb w' (l ++ x) ns'
theorem Wn.gr0 {wb tb : Nat} {l : List Int} {ns : List ByteArray} {w w' : World} (g : Gr (fun _ => False) W w) (h : Wn G w wb tb w' l ns) : Wn G W wb tb w' l ns := by
  obtain ⟨G', bv, h1, h2⟩ := h.at_
  exact ⟨⟨G', bv, h1, fun k e => (h2 k e).imp id (fun e => Nat.le_trans g.size e)⟩, (g.mono (fun _ _ e => e.elim)).trans h.gr⟩
set_option maxRecDepth 20000 in
set_option maxHeartbeats 1600000 in
theorem wp_int (n : Int) (hn : inR n = true) (ns : List ByteArray) : WpOk (.mk { k := 1, n := n } [] []) ns (1 :: vq (fol n)) ns := by
  intro A G W wb tb l v bv hrep hA hG h hl
  have hfo := fun w => folded_c n hn w
  have hfl : fol n < 18446744073709551616 := by
    simp only [inR, Bool.and_eq_true, decide_eq_true_eq] at hn
    unfold fol; split <;> omega
  have hnum := fun w G' bv' (h : Wt G' w wb tb (l ++ [1]) ns bv') => wnumber_c w wb tb (l ++ [1]) ns bv' (fol n) hfl h (by simp; omega)
  have hq : Hid (l ++ 1 :: vq (fol n) = l ++ [1] ++ vq (fol n)) := Lib.hid (by simp)
  rw [hq.out]
  clear hfl hq hn
  obtain ⟨a1, c1, a2, c2, rfl⟩ := len0 hrep
  obtain ⟨xa, xc, rfl⟩ := h.row.sv
  obtain ⟨m1, hm1⟩ : ∃ m, Hid ((l ++ [1]).length = m) := ⟨_, Lib.hid rfl⟩
  have hll : l.length ≤ 799000 := by omega
  go_enter Try.func16, Try.ntmps16
  go_wp2_with fail
  generalize hW0 : W.alloc _ = W0
  have g0 : Gr (fun _ => False) W W0 := hW0 ▸ Gr.alloc _ _ _
  have hBx : Bx W0 W.heap.size 1 n 0 0 e0 0 0 0 (.slice a1 0 c1) (.slice a2 0 c2) := hW0 ▸ heap_alloc_new W _
  clear hW0
  have h0 := h.g0 g0 (fun _ _ e => e)
  obtain ⟨q0, q1, qf⟩ := two50 h0.blk
  have hwb := h0.lt
  have hXl := hBx.lt
  obtain ⟨b0, b1, b2, b3, b4, b5, b6, b7, b8⟩ := hBx.facts
  have g1 : Gr (fun _ => False) W0 (W0.alloc (.cells #[.int .u8 1] 5)).drew := (Gr.alloc _ _ _).trans (Gr.drew _ _)
  have hlit : Lit (W0.alloc (.cells #[.int .u8 1] 5)).drew W0.heap.size 1 := (Lit.new W0 _).g0 (Gr.drew _ _)
  have hnX : ¬ G W.heap.size := fun e => by have := hG _ e; omega
  go_region_law
    (first
      | (refine step_ap rfl _ _ rfl 0 (.slice xa l.length xc) _ l [1] rfl rfl (h0.row.g0 g1) hlit.sb (by simp; omega) (Nat.zero_le _) ?_; intro v1 w1 o1 k1; have gg := Loc.pre g1 k1; have hc1 := k1.gr.keep (g1.keep h0.blk (fun e => e)) (by exact h0.nb); obtain ⟨p0, p1, pf⟩ := two50 hc1; have hb1 : wb < w1.heap.size := (Array.getElem?_eq_some_iff.1 hc1).1; have hnw : v1.ownBlock ≠ some W.heap.size := gg.own_ne hXl (fun e => hnX (h0.gb _ e)); obtain ⟨ya, yc, rfl⟩ := o1.sv; rw [hm1.out] at o1 gg k1 hnw ⊢)
      | fail)
  all_goals
    have hw2 := h0.app o1 gg
    generalize hW2 : World.setCell w1 _ _ = w2
    replace hw2 : Wn G W0 wb tb w2 (l ++ [1]) ns := hW2 ▸ hw2
    clear hW2 b0 b1 b2 b3 b4 b5 b6 b7 b8 p0 p1 pf q0 q1 qf hlit g1 gg k1 o1 hc1 hb1 hnw
    have hB2 : Bx w2 W.heap.size 1 n 0 0 e0 0 0 0 (.slice a1 0 c1) (.slice a2 0 c2) := hBx.gr hw2.gr hnX
    obtain ⟨b0, b1, b2, b3, b4, b5, b6, b7, b8⟩ := hB2.facts
    have hX2 := hB2.lt
    obtain ⟨G2, bv2, h2, hG2⟩ := hw2.at_
    go_wp2_with fail
    refine (hfo w2).mono ?_
    rintro e w3 ⟨rfl, rfl⟩
    go_wp2_with fail
    refine (hnum w2 G2 bv2 h2).mono ?_
    rintro e w3 ⟨rfl, hw3⟩
    have hw4 := Wn.gr0 g0 (Wn.step hw2.gr hG2 hw3)
    go_wp2_with fail
    go_end0
    exact ⟨rfl, hw4⟩
end Go.Proofs.Ytmohehfkbhllpaa
