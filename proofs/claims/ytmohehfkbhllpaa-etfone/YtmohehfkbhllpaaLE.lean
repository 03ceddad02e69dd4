/-
  The writer: complex numbers, names, ids, bytes.
-/
import Derived.Test.YtmohehfkbhllpaaLD
set_option linter.unusedVariables false
set_option linter.unusedSimpArgs false
namespace Go.Proofs.Ytmohehfkbhllpaa
open Go.RowKit Go.Maps
variable {S S' G : Nat → Prop} {W W1 W' : World}
set_option maxRecDepth 20000 in
set_option maxHeartbeats 1600000 in
theorem wp_cx (x y : Nat) (hx : x < 18446744073709551616) (hy : y < 18446744073709551616) (ns : List ByteArray) : WpOk (.mk { k := 2, x := x, y := y } [] []) ns (2 :: (bq 8 x ++ bq 8 y)) ns := by
  intro A G W wb tb l v bv hrep hA hG h hl
  have hl1 : (l ++ [2] ++ bq 8 x).length ≤ 800000 := by simp [bq_len]; omega
  have hb1 := fun w G' bv' (h : Wt G' w wb tb (l ++ [2]) ns bv') => wbits_c w wb tb (l ++ [2]) ns bv' x hx h (by simp; omega)
  have hb2 := fun w G' bv' (h : Wt G' w wb tb (l ++ [2] ++ bq 8 x) ns bv') => wbits_c w wb tb (l ++ [2] ++ bq 8 x) ns bv' y hy h (by omega)
  have hq : Hid (l ++ 2 :: (bq 8 x ++ bq 8 y) = l ++ [2] ++ bq 8 x ++ bq 8 y) := Lib.hid (by simp)
  rw [hq.out]
  clear hq hx hy hl1
  generalize bq 8 x = P at *
  generalize bq 8 y = P2 at *
  obtain ⟨a1, c1, a2, c2, rfl⟩ := len0 hrep
  obtain ⟨xa, xc, rfl⟩ := h.row.sv
  obtain ⟨m1, hm1⟩ : ∃ m, Hid ((l ++ [2]).length = m) := ⟨_, Lib.hid rfl⟩
  have hll : l.length ≤ 799000 := by omega
  go_enter Try.func16, Try.ntmps16
  go_wp2_with fail
  generalize hW0 : W.alloc _ = W0
  have g0 : Gr (fun _ => False) W W0 := hW0 ▸ Gr.alloc _ _ _
  have hBx : Bx W0 W.heap.size 2 0 x y e0 0 0 0 (.slice a1 0 c1) (.slice a2 0 c2) := hW0 ▸ heap_alloc_new W _
  clear hW0
  have h0 := h.g0 g0 (fun _ _ e => e)
  obtain ⟨q0, q1, qf⟩ := two50 h0.blk
  have hwb := h0.lt
  have hXl := hBx.lt
  obtain ⟨b0, b1, b2, b3, b4, b5, b6, b7, b8⟩ := hBx.facts
  have g1 : Gr (fun _ => False) W0 (W0.alloc (.cells #[.int .u8 2] 5)).drew := (Gr.alloc _ _ _).trans (Gr.drew _ _)
  have hlit : Lit (W0.alloc (.cells #[.int .u8 2] 5)).drew W0.heap.size 2 := (Lit.new W0 _).g0 (Gr.drew _ _)
  have hnX : ¬ G W.heap.size := fun e => by have := hG _ e; omega
  go_region_law
    (first
      | (refine step_ap rfl _ _ rfl 0 (.slice xa l.length xc) _ l [2] rfl rfl (h0.row.g0 g1) hlit.sb (by simp; omega) (Nat.zero_le _) ?_; intro v1 w1 o1 k1; have gg := Loc.pre g1 k1; have hc1 := k1.gr.keep (g1.keep h0.blk (fun e => e)) (by exact h0.nb); obtain ⟨p0, p1, pf⟩ := two50 hc1; have hb1 : wb < w1.heap.size := (Array.getElem?_eq_some_iff.1 hc1).1; have hnw : v1.ownBlock ≠ some W.heap.size := gg.own_ne hXl (fun e => hnX (h0.gb _ e)); obtain ⟨ya, yc, rfl⟩ := o1.sv; rw [hm1.out] at o1 gg k1 hnw ⊢)
      | fail)
  all_goals
    have hw2 := h0.app o1 gg
    generalize hW2 : World.setCell w1 _ _ = w2
    replace hw2 : Wn G W0 wb tb w2 (l ++ [2]) ns := hW2 ▸ hw2
    clear hW2 b0 b1 b2 b3 b4 b5 b6 b7 b8 p0 p1 pf q0 q1 qf hlit g1 gg k1 o1 hc1 hb1 hnw
    have hB2 : Bx w2 W.heap.size 2 0 x y e0 0 0 0 (.slice a1 0 c1) (.slice a2 0 c2) := hBx.gr hw2.gr hnX
    obtain ⟨b0, b1, b2, b3, b4, b5, b6, b7, b8⟩ := hB2.facts
    have hX2 := hB2.lt
    obtain ⟨G2, bv2, h2, hG2⟩ := hw2.at_
    have hw2' := hw2
    go_wp2_with fail
    refine (hb1 w2 G2 bv2 h2).mono ?_
    rintro e w3 ⟨rfl, hw3⟩
    have hn2 : ¬ G2 W.heap.size := fun e => by
      rcases hG2 _ e with e | e
      · exact hnX e
      · omega
    have hB3 : Bx w3 W.heap.size 2 0 x y e0 0 0 0 (.slice a1 0 c1) (.slice a2 0 c2) := hB2.gr hw3.gr hn2
    obtain ⟨d0, d1, d2, d3, d4, d5, d6, d7, d8⟩ := hB3.facts
    have hX3 := hB3.lt
    have hw3' := Wn.step hw2'.gr hG2 hw3
    obtain ⟨G3, bv3, h3, hG3⟩ := hw3'.at_
    go_wp2_with fail
    refine (hb2 w3 G3 bv3 h3).mono ?_
    rintro e w4 ⟨rfl, hw4⟩
    have hw5 := Wn.gr0 g0 (Wn.step hw3'.gr hG3 hw4)
    go_wp2_with fail
    go_end0
    exact ⟨rfl, hw5⟩
set_option maxRecDepth 20000 in
set_option maxHeartbeats 1600000 in
theorem wp_atom (s : ByteArray) (hs : isName s = true) (ns : List ByteArray) (h4 : ns.length < 4096) : WpOk (.mk { k := 3, s := s } [] []) ns (3 :: nq s ns) (putL ns s) := by
  intro A G W wb tb l v bv hrep hA hG h hl
  have hnm := fun w G' bv' (h : Wt G' w wb tb (l ++ [3]) ns bv') => wname_c w wb tb (l ++ [3]) ns bv' s hs h4 h (by simp; omega)
  have hq : Hid (l ++ 3 :: nq s ns = l ++ [3] ++ nq s ns) := Lib.hid (by simp)
  rw [hq.out]
  clear hq h4 hs
  generalize nq s ns = P at *
  generalize putL ns s = ns' at *
  obtain ⟨a1, c1, a2, c2, rfl⟩ := len0 hrep
  obtain ⟨xa, xc, rfl⟩ := h.row.sv
  obtain ⟨m1, hm1⟩ : ∃ m, Hid ((l ++ [3]).length = m) := ⟨_, Lib.hid rfl⟩
  have hll : l.length ≤ 799000 := by omega
  go_enter Try.func16, Try.ntmps16
  go_wp2_with fail
  generalize hW0 : W.alloc _ = W0
  have g0 : Gr (fun _ => False) W W0 := hW0 ▸ Gr.alloc _ _ _
  have hBx : Bx W0 W.heap.size 3 0 0 0 s 0 0 0 (.slice a1 0 c1) (.slice a2 0 c2) := hW0 ▸ heap_alloc_new W _
  clear hW0
  have h0 := h.g0 g0 (fun _ _ e => e)
  obtain ⟨q0, q1, qf⟩ := two50 h0.blk
  have hwb := h0.lt
  have hXl := hBx.lt
  obtain ⟨b0, b1, b2, b3, b4, b5, b6, b7, b8⟩ := hBx.facts
  have g1 : Gr (fun _ => False) W0 (W0.alloc (.cells #[.int .u8 3] 5)).drew := (Gr.alloc _ _ _).trans (Gr.drew _ _)
  have hlit : Lit (W0.alloc (.cells #[.int .u8 3] 5)).drew W0.heap.size 3 := (Lit.new W0 _).g0 (Gr.drew _ _)
  have hnX : ¬ G W.heap.size := fun e => by have := hG _ e; omega
  go_region_law
    (first
      | (refine step_ap rfl _ _ rfl 0 (.slice xa l.length xc) _ l [3] rfl rfl (h0.row.g0 g1) hlit.sb (by simp; omega) (Nat.zero_le _) ?_; intro v1 w1 o1 k1; have gg := Loc.pre g1 k1; have hc1 := k1.gr.keep (g1.keep h0.blk (fun e => e)) (by exact h0.nb); obtain ⟨p0, p1, pf⟩ := two50 hc1; have hb1 : wb < w1.heap.size := (Array.getElem?_eq_some_iff.1 hc1).1; have hnw : v1.ownBlock ≠ some W.heap.size := gg.own_ne hXl (fun e => hnX (h0.gb _ e)); obtain ⟨ya, yc, rfl⟩ := o1.sv; rw [hm1.out] at o1 gg k1 hnw ⊢)
      | fail)
  all_goals
    have hw2 := h0.app o1 gg
    generalize hW2 : World.setCell w1 _ _ = w2
    replace hw2 : Wn G W0 wb tb w2 (l ++ [3]) ns := hW2 ▸ hw2
    clear hW2 b0 b1 b2 b3 b4 b5 b6 b7 b8 p0 p1 pf q0 q1 qf hlit g1 gg k1 o1 hc1 hb1 hnw
    have hB2 : Bx w2 W.heap.size 3 0 0 0 s 0 0 0 (.slice a1 0 c1) (.slice a2 0 c2) := hBx.gr hw2.gr hnX
    obtain ⟨b0, b1, b2, b3, b4, b5, b6, b7, b8⟩ := hB2.facts
    have hX2 := hB2.lt
    obtain ⟨G2, bv2, h2, hG2⟩ := hw2.at_
    go_wp2_with fail
    refine (hnm w2 G2 bv2 h2).mono ?_
    rintro e w3 ⟨rfl, hw3⟩
    have hw4 := Wn.gr0 g0 (Wn.step hw2.gr hG2 hw3)
    go_wp2_with fail
    go_end0
    exact ⟨rfl, hw4⟩
set_option maxRecDepth 20000 in
set_option maxHeartbeats 1600000 in
theorem wp_ref (i1 i2 i3 : Int) (p1 : 0 ≤ i1) (p2 : i1 < 256) (p3 : 0 ≤ i2) (p4 : i2 ≤ 4294967295) (p5 : 0 ≤ i3) (p6 : i3 ≤ 18446744073709551615) (ns : List ByteArray) :
    WpOk (.mk { k := 4, a := i1, c := i2, d := i3 } [] []) ns (4 :: (i1 :: (vq i2.toNat ++ vq i3.toNat))) ns := by
  intro A G W wb tb l v bv hrep hA hG h hl
  have hv2 := vqF_len 9 i2.toNat
  have hv3 := vqF_len 9 i3.toNat
  have hnu2 := fun w G' bv' (h : Wt G' w wb tb (l ++ [4] ++ [i1]) ns bv') => wnumber_c w wb tb (l ++ [4] ++ [i1]) ns bv' i2.toNat (by omega) h (by simp; omega)
  have hnu3 := fun w G' bv' (h : Wt G' w wb tb (l ++ [4] ++ [i1] ++ vq i2.toNat) ns bv') => wnumber_c w wb tb (l ++ [4] ++ [i1] ++ vq i2.toNat) ns bv' i3.toNat (by omega) h (by simp [vq]; omega)
  rw [Int.toNat_of_nonneg p3] at hnu2
  rw [Int.toNat_of_nonneg p5] at hnu3
  have hq : Hid (l ++ 4 :: (i1 :: (vq i2.toNat ++ vq i3.toNat)) = l ++ [4] ++ [i1] ++ vq i2.toNat ++ vq i3.toNat) := Lib.hid (by simp)
  rw [hq.out]
  have hwi : IntKind.u8.wrap i1 = i1 := by rw [IntKind.wrap_u8]; omega
  have hwi2 : IntKind.u64.wrap i2 = i2 := by rw [IntKind.wrap_u64]; omega
  clear hq p5 p6 hv2 hv3
  generalize vq i2.toNat = P at *
  generalize vq i3.toNat = P2 at *
  obtain ⟨a1, c1, a2, c2, rfl⟩ := len0 hrep
  obtain ⟨xa, xc, rfl⟩ := h.row.sv
  obtain ⟨m1, hm1⟩ : ∃ m, Hid ((l ++ [4]).length = m) := ⟨_, Lib.hid rfl⟩
  have hll : l.length ≤ 799000 := by omega
  go_enter Try.func16, Try.ntmps16
  go_wp2_with fail
  generalize hW0 : W.alloc _ = W0
  have g0 : Gr (fun _ => False) W W0 := hW0 ▸ Gr.alloc _ _ _
  have hBx : Bx W0 W.heap.size 4 0 0 0 e0 i1 i2 i3 (.slice a1 0 c1) (.slice a2 0 c2) := hW0 ▸ heap_alloc_new W _
  clear hW0
  have h0 := h.g0 g0 (fun _ _ e => e)
  obtain ⟨q0, q1, qf⟩ := two50 h0.blk
  have hwb := h0.lt
  have hXl := hBx.lt
  obtain ⟨b0, b1, b2, b3, b4, b5, b6, b7, b8⟩ := hBx.facts
  have g1 : Gr (fun _ => False) W0 (W0.alloc (.cells #[.int .u8 4] 5)).drew := (Gr.alloc _ _ _).trans (Gr.drew _ _)
  have hlit : Lit (W0.alloc (.cells #[.int .u8 4] 5)).drew W0.heap.size 4 := (Lit.new W0 _).g0 (Gr.drew _ _)
  have hnX : ¬ G W.heap.size := fun e => by have := hG _ e; omega
  go_region_law
    (first
      | (refine step_ap rfl _ _ rfl 0 (.slice xa l.length xc) _ l [4] rfl rfl (h0.row.g0 g1) hlit.sb (by simp; omega) (Nat.zero_le _) ?_; intro v1 w1 o1 k1; have gg := Loc.pre g1 k1; have hc1 := k1.gr.keep (g1.keep h0.blk (fun e => e)) (by exact h0.nb); obtain ⟨p0, p1, pf⟩ := two50 hc1; have hb1 : wb < w1.heap.size := (Array.getElem?_eq_some_iff.1 hc1).1; have hnw : v1.ownBlock ≠ some W.heap.size := gg.own_ne hXl (fun e => hnX (h0.gb _ e)); obtain ⟨ya, yc, rfl⟩ := o1.sv; rw [hm1.out] at o1 gg k1 hnw ⊢)
      | fail)
  all_goals
    have hw2 := h0.app o1 gg
    generalize hW2 : World.setCell w1 _ _ = w2
    replace hw2 : Wn G W0 wb tb w2 (l ++ [4]) ns := hW2 ▸ hw2
    clear hW2 b0 b1 b2 b3 b4 b5 b6 b7 b8 p0 p1 pf q0 q1 qf hlit g1 gg k1 o1 hc1 hb1 hnw
    have hB2 : Bx w2 W.heap.size 4 0 0 0 e0 i1 i2 i3 (.slice a1 0 c1) (.slice a2 0 c2) := hBx.gr hw2.gr hnX
    obtain ⟨b0, b1, b2, b3, b4, b5, b6, b7, b8⟩ := hB2.facts
    have hX2 := hB2.lt
    obtain ⟨G2, bv2, h2, hG2⟩ := hw2.at_
    have hw2' := hw2
    obtain ⟨xa2, xc2, rfl⟩ := h2.row.sv
    obtain ⟨m2, hm2⟩ : ∃ m, Hid ((l ++ [4]).length = m) := ⟨_, Lib.hid rfl⟩
    obtain ⟨m3, hm3⟩ : ∃ m, Hid ((l ++ [4] ++ [i1]).length = m) := ⟨_, Lib.hid rfl⟩
    rw [hm2.out] at h2
    obtain ⟨q0, q1, qf⟩ := two50 h2.blk
    have hwb2 := h2.lt
    have g3 : Gr (fun _ => False) w2 (w2.alloc (.cells #[.int .u8 i1] 5)).drew := (Gr.alloc _ _ _).trans (Gr.drew _ _)
    have hlit3 : Lit (w2.alloc (.cells #[.int .u8 i1] 5)).drew w2.heap.size i1 := (Lit.new w2 _).g0 (Gr.drew _ _)
    have hn2X : ¬ G2 W.heap.size := fun e => by
      rcases hG2 _ e with e | e
      · exact hnX e
      · omega
    go_wp2_with fail
    go_region_law
      (first
        | (refine step_ap rfl _ _ rfl 0 (.slice xa2 m2 xc2) _ (l ++ [4]) [i1] rfl rfl (h2.row.g0 g3) hlit3.sb (by simp; omega) (Nat.zero_le _) ?_; intro v5 w5 o5 k5; have gg5 := Loc.pre g3 k5; have hc5 := k5.gr.keep (g3.keep h2.blk (fun e => e)) (by exact h2.nb); obtain ⟨p50, p51, pf5⟩ := two50 hc5; have hb5 : wb < w5.heap.size := (Array.getElem?_eq_some_iff.1 hc5).1; obtain ⟨ya5, yc5, rfl⟩ := o5.sv; rw [hm3.out] at o5 gg5 k5 ⊢)
        | fail)
  all_goals
    have hw5 := h2.app o5 gg5
    generalize hW5 : World.setCell w5 _ _ = w6
    replace hw5 : Wn G2 w2 wb tb w6 (l ++ [4] ++ [i1]) ns := hW5 ▸ hw5
    clear hW5 b0 b1 b2 b3 b4 b5 b6 b7 b8 p50 p51 pf5 q0 q1 qf hlit3 g3 gg5 k5 o5 hc5 hb5
    have hn2 : ¬ G2 W.heap.size := fun e => by
      rcases hG2 _ e with e | e
      · exact hnX e
      · omega
    have hB3 : Bx w6 W.heap.size 4 0 0 0 e0 i1 i2 i3 (.slice a1 0 c1) (.slice a2 0 c2) := hB2.gr hw5.gr hn2
    obtain ⟨d0, d1, d2, d3, d4, d5, d6, d7, d8⟩ := hB3.facts
    have hX3 := hB3.lt
    have hw3' := Wn.step hw2'.gr hG2 hw5
    obtain ⟨G3, bv3, h3, hG3⟩ := hw3'.at_
    go_wp2_with fail
    refine (hnu2 w6 G3 bv3 h3).mono ?_
    rintro e w7 ⟨rfl, hw7⟩
    clear d0 d1 d2 d3 d4 d5 d6 d7 d8
    have hn3 : ¬ G3 W.heap.size := fun e => by
      rcases hG3 _ e with e | e
      · exact hnX e
      · omega
    have hB4 : Bx w7 W.heap.size 4 0 0 0 e0 i1 i2 i3 (.slice a1 0 c1) (.slice a2 0 c2) := hB3.gr hw7.gr hn3
    obtain ⟨d0, d1, d2, d3, d4, d5, d6, d7, d8⟩ := hB4.facts
    have hX4 := hB4.lt
    have hw4' := Wn.step hw3'.gr hG3 hw7
    obtain ⟨G4, bv4, h4, hG4⟩ := hw4'.at_
    go_wp2_with fail
    refine (hnu3 w7 G4 bv4 h4).mono ?_
    rintro e w8 ⟨rfl, hw8⟩
    have hw9 := Wn.gr0 g0 (Wn.step hw4'.gr hG4 hw8)
    go_wp2_with fail
    go_end0
    exact ⟨rfl, hw9⟩
set_option maxRecDepth 20000 in
set_option maxHeartbeats 1600000 in
theorem wp_pid (i1 i2 i3 : Int) (p1 : 0 ≤ i1) (p2 : i1 < 256) (p3 : 0 ≤ i2) (p4 : i2 ≤ 4294967295) (p5 : 0 ≤ i3) (p6 : i3 ≤ 18446744073709551615) (ns : List ByteArray) :
    WpOk (.mk { k := 5, a := i1, c := i2, d := i3 } [] []) ns (5 :: (i1 :: (vq i2.toNat ++ vq i3.toNat))) ns := by
  intro A G W wb tb l v bv hrep hA hG h hl
  have hv2 := vqF_len 9 i2.toNat
  have hv3 := vqF_len 9 i3.toNat
  have hnu2 := fun w G' bv' (h : Wt G' w wb tb (l ++ [5] ++ [i1]) ns bv') => wnumber_c w wb tb (l ++ [5] ++ [i1]) ns bv' i2.toNat (by omega) h (by simp; omega)
  have hnu3 := fun w G' bv' (h : Wt G' w wb tb (l ++ [5] ++ [i1] ++ vq i2.toNat) ns bv') => wnumber_c w wb tb (l ++ [5] ++ [i1] ++ vq i2.toNat) ns bv' i3.toNat (by omega) h (by simp [vq]; omega)
  rw [Int.toNat_of_nonneg p3] at hnu2
  rw [Int.toNat_of_nonneg p5] at hnu3
  have hq : Hid (l ++ 5 :: (i1 :: (vq i2.toNat ++ vq i3.toNat)) = l ++ [5] ++ [i1] ++ vq i2.toNat ++ vq i3.toNat) := Lib.hid (by simp)
  rw [hq.out]
  have hwi : IntKind.u8.wrap i1 = i1 := by rw [IntKind.wrap_u8]; omega
  have hwi2 : IntKind.u64.wrap i2 = i2 := by rw [IntKind.wrap_u64]; omega
  clear hq p5 p6 hv2 hv3
  generalize vq i2.toNat = P at *
  generalize vq i3.toNat = P2 at *
  obtain ⟨a1, c1, a2, c2, rfl⟩ := len0 hrep
  obtain ⟨xa, xc, rfl⟩ := h.row.sv
  obtain ⟨m1, hm1⟩ : ∃ m, Hid ((l ++ [5]).length = m) := ⟨_, Lib.hid rfl⟩
  have hll : l.length ≤ 799000 := by omega
  go_enter Try.func16, Try.ntmps16
  go_wp2_with fail
  generalize hW0 : W.alloc _ = W0
  have g0 : Gr (fun _ => False) W W0 := hW0 ▸ Gr.alloc _ _ _
  have hBx : Bx W0 W.heap.size 5 0 0 0 e0 i1 i2 i3 (.slice a1 0 c1) (.slice a2 0 c2) := hW0 ▸ heap_alloc_new W _
  clear hW0
  have h0 := h.g0 g0 (fun _ _ e => e)
  obtain ⟨q0, q1, qf⟩ := two50 h0.blk
  have hwb := h0.lt
  have hXl := hBx.lt
  obtain ⟨b0, b1, b2, b3, b4, b5, b6, b7, b8⟩ := hBx.facts
  have g1 : Gr (fun _ => False) W0 (W0.alloc (.cells #[.int .u8 5] 5)).drew := (Gr.alloc _ _ _).trans (Gr.drew _ _)
  have hlit : Lit (W0.alloc (.cells #[.int .u8 5] 5)).drew W0.heap.size 5 := (Lit.new W0 _).g0 (Gr.drew _ _)
  have hnX : ¬ G W.heap.size := fun e => by have := hG _ e; omega
  go_region_law
    (first
      | (refine step_ap rfl _ _ rfl 0 (.slice xa l.length xc) _ l [5] rfl rfl (h0.row.g0 g1) hlit.sb (by simp; omega) (Nat.zero_le _) ?_; intro v1 w1 o1 k1; have gg := Loc.pre g1 k1; have hc1 := k1.gr.keep (g1.keep h0.blk (fun e => e)) (by exact h0.nb); obtain ⟨p0, p1, pf⟩ := two50 hc1; have hb1 : wb < w1.heap.size := (Array.getElem?_eq_some_iff.1 hc1).1; have hnw : v1.ownBlock ≠ some W.heap.size := gg.own_ne hXl (fun e => hnX (h0.gb _ e)); obtain ⟨ya, yc, rfl⟩ := o1.sv; rw [hm1.out] at o1 gg k1 hnw ⊢)
      | fail)
  all_goals
    have hw2 := h0.app o1 gg
    generalize hW2 : World.setCell w1 _ _ = w2
    replace hw2 : Wn G W0 wb tb w2 (l ++ [5]) ns := hW2 ▸ hw2
    clear hW2 b0 b1 b2 b3 b4 b5 b6 b7 b8 p0 p1 pf q0 q1 qf hlit g1 gg k1 o1 hc1 hb1 hnw
    have hB2 : Bx w2 W.heap.size 5 0 0 0 e0 i1 i2 i3 (.slice a1 0 c1) (.slice a2 0 c2) := hBx.gr hw2.gr hnX
    obtain ⟨b0, b1, b2, b3, b4, b5, b6, b7, b8⟩ := hB2.facts
    have hX2 := hB2.lt
    obtain ⟨G2, bv2, h2, hG2⟩ := hw2.at_
    have hw2' := hw2
    obtain ⟨xa2, xc2, rfl⟩ := h2.row.sv
    obtain ⟨m2, hm2⟩ : ∃ m, Hid ((l ++ [5]).length = m) := ⟨_, Lib.hid rfl⟩
    obtain ⟨m3, hm3⟩ : ∃ m, Hid ((l ++ [5] ++ [i1]).length = m) := ⟨_, Lib.hid rfl⟩
    rw [hm2.out] at h2
    obtain ⟨q0, q1, qf⟩ := two50 h2.blk
    have hwb2 := h2.lt
    have g3 : Gr (fun _ => False) w2 (w2.alloc (.cells #[.int .u8 i1] 5)).drew := (Gr.alloc _ _ _).trans (Gr.drew _ _)
    have hlit3 : Lit (w2.alloc (.cells #[.int .u8 i1] 5)).drew w2.heap.size i1 := (Lit.new w2 _).g0 (Gr.drew _ _)
    have hn2X : ¬ G2 W.heap.size := fun e => by
      rcases hG2 _ e with e | e
      · exact hnX e
      · omega
    go_wp2_with fail
    go_region_law
      (first
        | (refine step_ap rfl _ _ rfl 0 (.slice xa2 m2 xc2) _ (l ++ [5]) [i1] rfl rfl (h2.row.g0 g3) hlit3.sb (by simp; omega) (Nat.zero_le _) ?_; intro v5 w5 o5 k5; have gg5 := Loc.pre g3 k5; have hc5 := k5.gr.keep (g3.keep h2.blk (fun e => e)) (by exact h2.nb); obtain ⟨p50, p51, pf5⟩ := two50 hc5; have hb5 : wb < w5.heap.size := (Array.getElem?_eq_some_iff.1 hc5).1; obtain ⟨ya5, yc5, rfl⟩ := o5.sv; rw [hm3.out] at o5 gg5 k5 ⊢)
        | fail)
  all_goals
    have hw5 := h2.app o5 gg5
    generalize hW5 : World.setCell w5 _ _ = w6
    replace hw5 : Wn G2 w2 wb tb w6 (l ++ [5] ++ [i1]) ns := hW5 ▸ hw5
    clear hW5 b0 b1 b2 b3 b4 b5 b6 b7 b8 p50 p51 pf5 q0 q1 qf hlit3 g3 gg5 k5 o5 hc5 hb5
    have hn2 : ¬ G2 W.heap.size := fun e => by
      rcases hG2 _ e with e | e
      · exact hnX e
      · omega
    have hB3 : Bx w6 W.heap.size 5 0 0 0 e0 i1 i2 i3 (.slice a1 0 c1) (.slice a2 0 c2) := hB2.gr hw5.gr hn2
    obtain ⟨d0, d1, d2, d3, d4, d5, d6, d7, d8⟩ := hB3.facts
    have hX3 := hB3.lt
    have hw3' := Wn.step hw2'.gr hG2 hw5
    obtain ⟨G3, bv3, h3, hG3⟩ := hw3'.at_
    go_wp2_with fail
    refine (hnu2 w6 G3 bv3 h3).mono ?_
    rintro e w7 ⟨rfl, hw7⟩
    clear d0 d1 d2 d3 d4 d5 d6 d7 d8
    have hn3 : ¬ G3 W.heap.size := fun e => by
      rcases hG3 _ e with e | e
      · exact hnX e
      · omega
    have hB4 : Bx w7 W.heap.size 5 0 0 0 e0 i1 i2 i3 (.slice a1 0 c1) (.slice a2 0 c2) := hB3.gr hw7.gr hn3
    obtain ⟨d0, d1, d2, d3, d4, d5, d6, d7, d8⟩ := hB4.facts
    have hX4 := hB4.lt
    have hw4' := Wn.step hw3'.gr hG3 hw7
    obtain ⟨G4, bv4, h4, hG4⟩ := hw4'.at_
    go_wp2_with fail
    refine (hnu3 w7 G4 bv4 h4).mono ?_
    rintro e w8 ⟨rfl, hw8⟩
    have hw9 := Wn.gr0 g0 (Wn.step hw4'.gr hG4 hw8)
    go_wp2_with fail
    go_end0
    exact ⟨rfl, hw9⟩
set_option maxRecDepth 20000 in
set_option maxHeartbeats 1600000 in
theorem wp_bytes (bs : List Int) (hbl : bs.length ≤ 4096) (ns : List ByteArray) : WpOk (.mk { k := 8 } bs []) ns (8 :: (vq bs.length ++ bs)) ns := by
  intro A G W wb tb l v bv hrep hA hG h hl
  have hrep0 := hrep
  have hv1 := vqF_len 9 bs.length
  have hl1 : (l ++ [8] ++ vq bs.length).length + bs.length ≤ 900000 := by simp [vq] at hl ⊢; omega
  have hnum := fun w G' bv' (h : Wt G' w wb tb (l ++ [8]) ns bv') => wnumber_c w wb tb (l ++ [8]) ns bv' bs.length (by omega) h (by simp; omega)
  have hq : Hid (l ++ 8 :: (vq bs.length ++ bs) = l ++ [8] ++ vq bs.length ++ bs) := Lib.hid (by simp)
  rw [hq.out]
  have hnI : (bs.length : Int) ≤ 4096 := by omega
  have hn0 : (0 : Int) ≤ (bs.length : Int) := by omega
  clear hq hv1 hbl
  obtain ⟨a1, c1, a2, c2, rfl⟩ := len0 hrep
  obtain ⟨bvv, lvv, vsv, hvv, hrb, -, -⟩ := hrep0
  obtain rfl : bvv = .slice a1 bs.length c1 := by simp [tv] at hvv; exact hvv.1.symm
  clear hvv
  have hsrc : ∀ w (Gx : Nat → Prop), Gr Gx W w → (∀ k, Gx k → G k ∨ W.heap.size ≤ k) → Sb w (.slice a1 bs.length c1) bs := fun w Gx g hx => (hrb.turn (A' := A) (fun k hk hk2 => ⟨hk, g.block k hk2 (fun e => by rcases hx k e with e | e; exact (hA k hk).2 e; omega)⟩)).sb
  generalize hnn : bs.length = n at *
  obtain ⟨xa, xc, rfl⟩ := h.row.sv
  obtain ⟨m1, hm1⟩ : ∃ m, Hid ((l ++ [8]).length = m) := ⟨_, Lib.hid rfl⟩
  have hll : l.length ≤ 799000 := by omega
  go_enter Try.func16, Try.ntmps16
  go_wp2_with fail
  generalize hW0 : W.alloc _ = W0
  have g0 : Gr (fun _ => False) W W0 := hW0 ▸ Gr.alloc _ _ _
  have hBx : Bx W0 W.heap.size 8 0 0 0 e0 0 0 0 (.slice a1 n c1) (.slice a2 0 c2) := hW0 ▸ heap_alloc_new W _
  clear hW0
  have h0 := h.g0 g0 (fun _ _ e => e)
  obtain ⟨q0, q1, qf⟩ := two50 h0.blk
  have hwb := h0.lt
  have hXl := hBx.lt
  obtain ⟨b0, b1, b2, b3, b4, b5, b6, b7, b8⟩ := hBx.facts
  have g1 : Gr (fun _ => False) W0 (W0.alloc (.cells #[.int .u8 8] 5)).drew := (Gr.alloc _ _ _).trans (Gr.drew _ _)
  have hlit : Lit (W0.alloc (.cells #[.int .u8 8] 5)).drew W0.heap.size 8 := (Lit.new W0 _).g0 (Gr.drew _ _)
  have hnX : ¬ G W.heap.size := fun e => by have := hG _ e; omega
  go_region_law
    (first
      | (refine step_ap rfl _ _ rfl 0 (.slice xa l.length xc) _ l [8] rfl rfl (h0.row.g0 g1) hlit.sb (by simp; omega) (Nat.zero_le _) ?_; intro v1 w1 o1 k1; have gg := Loc.pre g1 k1; have hc1 := k1.gr.keep (g1.keep h0.blk (fun e => e)) (by exact h0.nb); obtain ⟨p0, p1, pf⟩ := two50 hc1; have hb1 : wb < w1.heap.size := (Array.getElem?_eq_some_iff.1 hc1).1; have hnw : v1.ownBlock ≠ some W.heap.size := gg.own_ne hXl (fun e => hnX (h0.gb _ e)); obtain ⟨ya, yc, rfl⟩ := o1.sv; rw [hm1.out] at o1 gg k1 hnw ⊢)
      | fail)
  all_goals
    have hw2 := h0.app o1 gg
    generalize hW2 : World.setCell w1 _ _ = w2
    replace hw2 : Wn G W0 wb tb w2 (l ++ [8]) ns := hW2 ▸ hw2
    clear hW2 b0 b1 b2 b3 b4 b5 b6 b7 b8 p0 p1 pf q0 q1 qf hlit g1 gg k1 o1 hc1 hb1 hnw
    have hB2 : Bx w2 W.heap.size 8 0 0 0 e0 0 0 0 (.slice a1 n c1) (.slice a2 0 c2) := hBx.gr hw2.gr hnX
    obtain ⟨b0, b1, b2, b3, b4, b5, b6, b7, b8⟩ := hB2.facts
    have hX2 := hB2.lt
    obtain ⟨G2, bv2, h2, hG2⟩ := hw2.at_
    have hw2' := hw2
    go_wp2_with fail
    refine (hnum w2 G2 bv2 h2).mono ?_
    rintro e w3 ⟨rfl, hw3⟩
    clear b0 b1 b2 b3 b4 b5 b6 b7 b8
    have hn2 : ¬ G2 W.heap.size := fun e => by
      rcases hG2 _ e with e | e
      · exact hnX e
      · omega
    have hB3 : Bx w3 W.heap.size 8 0 0 0 e0 0 0 0 (.slice a1 n c1) (.slice a2 0 c2) := hB2.gr hw3.gr hn2
    obtain ⟨d0, d1, d2, d3, d4, d5, d6, d7, d8⟩ := hB3.facts
    have hX3 := hB3.lt
    have hw3' := Wn.step hw2'.gr hG2 hw3
    obtain ⟨G3, bv3, h3, hG3⟩ := hw3'.at_
    have hsb := hsrc w3 G (g0.mono (fun _ _ e => e.elim) |>.trans hw3'.gr) (fun k e => .inl e)
    obtain ⟨xa3, xc3, rfl⟩ := h3.row.sv
    obtain ⟨m3, hm3⟩ : ∃ m, Hid ((l ++ [8] ++ vq n).length = m) := ⟨_, Lib.hid rfl⟩
    obtain ⟨m4, hm4⟩ : ∃ m, Hid ((l ++ [8] ++ vq n ++ bs).length = m) := ⟨_, Lib.hid rfl⟩
    rw [hm3.out] at h3
    obtain ⟨q0, q1, qf⟩ := two50 h3.blk
    have hwb3 := h3.lt
    have g4 : Gr (fun _ => False) w3 w3.drew := Gr.drew _ _
    have hsb4 : Sb w3.drew (.slice a1 n c1) bs := hsrc w3.drew G ((g0.mono (fun _ _ e => e.elim) |>.trans hw3'.gr).trans (Gr.drew _ _)) (fun k e => .inl e)
    have hl4 := hl1
    go_wp2_with fail
    go_region_law
      (first
        | (refine step_ap rfl _ _ rfl 0 (.slice xa3 m3 xc3) _ (l ++ [8] ++ vq n) bs rfl rfl (h3.row.g0 g4) hsb4 (by omega) (Nat.zero_le _) ?_; intro v5 w5 o5 k5; have gg5 := Loc.pre g4 k5; have hc5 := k5.gr.keep (g4.keep h3.blk (fun e => e)) (by exact h3.nb); obtain ⟨p50, p51, pf5⟩ := two50 hc5; have hb5 : wb < w5.heap.size := (Array.getElem?_eq_some_iff.1 hc5).1; obtain ⟨ya5, yc5, rfl⟩ := o5.sv; rw [hm4.out] at o5 gg5 k5 ⊢)
        | fail)
  all_goals
    have hw5 := Wn.gr0 g0 (Wn.step hw3'.gr hG3 (h3.app o5 gg5))
    go_wp2_with fail
    go_end0
    exact ⟨rfl, hw5⟩
end Go.Proofs.Ytmohehfkbhllpaa
