/-
  FrameBack's walk.
-/
import Derived.Test.YtnaapgjjombdpaaQ
import Derived.Test.YtnaapgjjombdpaaH
namespace Go.Proofs.Ytnaapgjjombdpaa
open Go.RowKit Go.Maps
variable {S S' : Nat → Prop} {W W1 W' : World}

theorem open_no' (W : World) (v : Value) (l : List Nat) (h : Sl W v l) (c : Int) (hc : opn l = c) (h0 : c ≠ 0) : Calls Try.prog 17 #[v] W fun e w' => e = .returned (.tuple #[fr 0 0 0 (.slice none 0 0), .int .i64 c]) ∧ G0 W w' := by
  refine (open_c W v l h).mono ?_
  rintro e w' ⟨hg, ⟨-, rfl⟩ | ⟨h1, -⟩⟩
  · exact ⟨by rw [hc], hg⟩
  · exact absurd (hc.symm.trans h1) h0
theorem open_yes' (W : World) (v : Value) (l : List Nat) (h : Sl W v l) (hc : opn l = 0) (f t bo : Nat) (m : List Nat) (hf : l.getD 2 0 = f) (ht : l.getD 3 0 = t) (hb : hi4 l 4 = bo) (hm : body l = m) :
    Calls Try.prog 17 #[v] W fun e w' => ∃ a cap, e = .returned (.tuple #[fr f t bo (.slice a m.length cap), .int .i64 0]) ∧ Ow W.heap.size w' (.slice a m.length cap) m ∧ G0 W w' := by
  refine (open_c W v l h).mono ?_
  rintro e w' ⟨hg, ⟨h1, -⟩ | ⟨-, v', rfl, ho⟩⟩
  · exact absurd hc h1
  · rw [hm] at ho
    obtain ⟨a, cap, rfl⟩ := ho.sv
    rw [hf, ht, hb]
    exact ⟨a, cap, rfl, ho, hg⟩
theorem pack_no' (W : World) (f t bo : Int) (v : Value) (l : List Nat) (h : Sl W v l) (c : Int) (hc : chk f t bo l.length = c) (h0 : c ≠ 0) :
    Calls Try.prog 13 #[fr f t bo v] W fun e w' => e = .returned (.tuple #[.slice none 0 0, .int .i64 c]) ∧ G0 W w' := by
  subst hc; exact pack_no W f t bo v l h h0
theorem pack_yes' (W : World) (f t bo : Nat) (v : Value) (l wi : List Nat) (h : Sl W v l) (hb : bo < 4294967296) (hc : chk f t bo l.length = 0) (hw : wire f t bo l = wi) :
    Calls Try.prog 13 #[fr f t bo v] W fun e w' => ∃ a cap, e = .returned (.tuple #[.slice a wi.length cap, .int .i64 0]) ∧ Ow W.heap.size w' (.slice a wi.length cap) wi ∧ G0 W w' := by
  subst hw
  refine (pack_yes W f t bo v l h hb hc).mono ?_
  rintro e w' ⟨v', rfl, ho, hg⟩
  obtain ⟨a, cap, rfl⟩ := ho.sv
  exact ⟨a, cap, rfl, ho, hg⟩
theorem same_yes (W : World) (f t bo : Int) (v v' : Value) (l : List Nat) (h : Sl W v l) (h' : Sl W v' l) :
    Calls Try.prog 15 #[fr f t bo v, fr f t bo v'] W fun e w' => e = .returned (.bool true) ∧ G0 W w' := by
  refine (same_r W f t bo f t bo v v' l l h h').mono ?_
  rintro e w' ⟨rfl, hg⟩
  exact ⟨by simp, hg⟩

set_option maxRecDepth 20000 in
set_option maxHeartbeats 1000000 in
theorem back_nn (W : World) (f t bo : Int) (v vb : Value) (l lb : List Nat) (h : Sl W v l) (hb : Sl W vb lb) (c : Int) (hc : chk f t bo l.length = c) (h0 : c ≠ 0) (c' : Int) (ho : opn lb = c') (ho0 : c' ≠ 0) :
    Calls Try.prog 6 #[fr f t bo v, vb] W fun e W' => e = .returned (.bool true) ∧ Below W.heap.size W W' := by
  have hp := fun w h => pack_no' w f t bo v l h c hc h0
  have q1 : (c == 0) = false := by simpa using h0
  clear hc h0
  have hq := fun w h => open_no' w vb lb h c' ho ho0
  have q2 : (c' != 0) = true := by simpa using ho0
  clear ho ho0
  obtain ⟨a, cap, rfl, h1, h2, -⟩ := h.sv
  obtain ⟨a', cap', rfl, h1', h2', -⟩ := hb.sv
  have g0 : G0 W (W.alloc (.cells #[.int .i64 f, .int .i64 t, .int .u32 bo, .slice a l.length cap] 28)) := Gr.alloc _ _ _
  have hB := heap_alloc_new W (.cells #[.int .i64 f, .int .i64 t, .int .u32 bo, .slice a l.length cap] 28)
  have hlt : W.heap.size < (W.alloc (.cells #[.int .i64 f, .int .i64 t, .int .u32 bo, .slice a l.length cap] 28)).heap.size := by simp
  go_enter Try.func6, Try.ntmps6
  go_wp2_with fail
  refine (alive_c _).mono ?_
  rintro e w1 ⟨rfl, hg1⟩
  have hB1 := (hg1.block _ hlt (fun e => e)).trans hB
  have hlt1 := Nat.lt_of_lt_of_le hlt hg1.size
  have f1 := fr_cells hB1
  go_wp2_with fail
  refine (hp _ ((h.g0 g0).g0 hg1)).mono ?_
  rintro e w2 ⟨rfl, hg2⟩
  have gg := (g0.trans hg1).trans hg2
  go_wp2_with fail
  refine (hq _ (hb.g0 gg)).mono ?_
  rintro e w3 ⟨rfl, hg3⟩
  go_wp2_with fail
  go_ret
  exact ⟨rfl, ((gg.trans hg3).trans (Gr.alloc _ _ _)).below (Nat.le_refl _) (fun _ e => e.elim)⟩

set_option maxRecDepth 20000 in
set_option maxHeartbeats 1000000 in
theorem back_ny (W : World) (f t bo : Int) (v vb : Value) (l lb : List Nat) (h : Sl W v l) (hb : Sl W vb lb) (c : Int) (hc : chk f t bo l.length = c) (h0 : c ≠ 0) (ho : opn lb = 0) :
    Calls Try.prog 6 #[fr f t bo v, vb] W fun e W' => e = .returned (.bool true) ∧ Below W.heap.size W W' := by
  have hp := fun w h => pack_no' w f t bo v l h c hc h0
  have q1 : (c == 0) = false := by simpa using h0
  clear hc h0
  obtain ⟨r1, r2, r3⟩ := wire_opn lb hb.byte ho
  obtain ⟨F, hF⟩ : ∃ F, lb.getD 2 0 = F := ⟨_, rfl⟩
  obtain ⟨T, hT⟩ : ∃ T, lb.getD 3 0 = T := ⟨_, rfl⟩
  obtain ⟨B, hBB⟩ : ∃ B, hi4 lb 4 = B := ⟨_, rfl⟩
  obtain ⟨M, hM⟩ : ∃ M, body lb = M := ⟨_, rfl⟩
  rw [hF, hT, hBB, hM] at r1 r2
  rw [hBB] at r3
  have hq := fun w h => open_yes' w vb lb h ho F T B M hF hT hBB hM
  have hp2 := fun w v h => pack_yes' w F T B v M lb h r3 r2 r1
  have hbb := str_beq hb.byte hb.byte
  rw [decide_eq_true rfl] at hbb
  clear ho r1 r2 r3 hF hT hBB hM
  obtain ⟨a, cap, rfl, h1, h2, -⟩ := h.sv
  obtain ⟨a', cap', rfl, h1', h2', -⟩ := hb.sv
  have g0 : G0 W (W.alloc (.cells #[.int .i64 f, .int .i64 t, .int .u32 bo, .slice a l.length cap] 28)) := Gr.alloc _ _ _
  have hB := heap_alloc_new W (.cells #[.int .i64 f, .int .i64 t, .int .u32 bo, .slice a l.length cap] 28)
  have hlt : W.heap.size < (W.alloc (.cells #[.int .i64 f, .int .i64 t, .int .u32 bo, .slice a l.length cap] 28)).heap.size := by simp
  go_enter Try.func6, Try.ntmps6
  go_wp2_with fail
  refine (alive_c _).mono ?_
  rintro e w1 ⟨rfl, hg1⟩
  have hB1 := (hg1.block _ hlt (fun e => e)).trans hB
  have hlt1 := Nat.lt_of_lt_of_le hlt hg1.size
  have f1 := fr_cells hB1
  go_wp2_with fail
  refine (hp _ ((h.g0 g0).g0 hg1)).mono ?_
  rintro e w2 ⟨rfl, hg2⟩
  have gg := (g0.trans hg1).trans hg2
  go_wp2_with fail
  refine (hq _ (hb.g0 gg)).mono ?_
  rintro e w3 ⟨x3, c3, rfl, ow3, hg3⟩
  go_wp2_with fail
  refine (hp2 _ _ (ow3.sl.g0 (Gr.alloc _ _ _))).mono ?_
  rintro e w4 ⟨x4, c4, rfl, ow4, hg4⟩
  have gz := ((gg.trans hg3).trans (Gr.alloc _ _ _)).trans hg4
  have k1 := conv ow4.sl
  have k2 := conv (hb.g0 gz)
  go_wp2_with fail
  go_ret
  exact ⟨by rw [← hbb]; rfl, gz.below (Nat.le_refl _) (fun _ e => e.elim)⟩

set_option maxRecDepth 20000 in
set_option maxHeartbeats 1000000 in
theorem back_yn (W : World) (f t bo : Nat) (v vb : Value) (l lb : List Nat) (h : Sl W v l) (hb : Sl W vb lb) (hbo : bo < 4294967296) (hc : chk f t bo l.length = 0) (c' : Int) (ho : opn lb = c') (ho0 : c' ≠ 0) :
    Calls Try.prog 6 #[fr f t bo v, vb] W fun e W' => e = .returned (.bool true) ∧ Below W.heap.size W W' := by
  obtain ⟨wi, hwi⟩ : ∃ wi, wire f t bo l = wi := ⟨_, rfl⟩
  obtain ⟨p1, p2, p3, p4, p5, p6⟩ := opn_wire f t bo l hc
  rw [hwi] at p1 p2 p3 p4 p5 p6
  have hp := fun w h => pack_yes' w f t bo v l wi h hbo hc hwi
  have hq0 := fun w v h => open_yes' w v wi h p1 f t bo l p2 p3 p4 p5
  have hsm := fun w v v' h h' => same_yes w f t bo v v' l h h'
  have hll := h.len
  have q0 : ((l.length : Int) + 12 != 12 + (l.length : Int)) = false := by simp; omega
  have q00 : (l.length : Int) ≤ 1200 := by have := (chk_zero hc).2.2.2.2.2.2; omega
  rw [p6] at hp
  clear hc hwi p1 p2 p3 p4 p5 p6 hll
  have hq := fun w h => open_no' w vb lb h c' ho ho0
  have q2 : (c' != 0) = true := by simpa using ho0
  clear ho ho0
  obtain ⟨a, cap, rfl, h1, h2, -⟩ := h.sv
  obtain ⟨a', cap', rfl, h1', h2', -⟩ := hb.sv
  have g0 : G0 W (W.alloc (.cells #[.int .i64 f, .int .i64 t, .int .u32 bo, .slice a l.length cap] 28)) := Gr.alloc _ _ _
  have hB := heap_alloc_new W (.cells #[.int .i64 f, .int .i64 t, .int .u32 bo, .slice a l.length cap] 28)
  have hlt : W.heap.size < (W.alloc (.cells #[.int .i64 f, .int .i64 t, .int .u32 bo, .slice a l.length cap] 28)).heap.size := by simp
  go_enter Try.func6, Try.ntmps6
  go_wp2_with fail
  refine (alive_c _).mono ?_
  rintro e w1 ⟨rfl, hg1⟩
  have hB1 := (hg1.block _ hlt (fun e => e)).trans hB
  have hlt1 := Nat.lt_of_lt_of_le hlt hg1.size
  have f1 := fr_cells hB1
  go_wp2_with fail
  refine (hp _ ((h.g0 g0).g0 hg1)).mono ?_
  rintro e w2 ⟨x2, c2, rfl, ow2, hg2⟩
  have hB2 := (hg2.block _ hlt1 (fun e => e)).trans hB1
  have hlt2 := Nat.lt_of_lt_of_le hlt1 hg2.size
  have g2 := (g0.trans hg1).trans hg2
  go_wp2_with fail
  refine (hq0 _ _ ow2.sl).mono ?_
  rintro e w5 ⟨x5, c5, rfl, ow5, hg5⟩
  have hB5 := (hg5.block _ hlt2 (fun e => e)).trans hB2
  have hlt5 := Nat.lt_of_lt_of_le hlt2 hg5.size
  have f5 := fr_cells hB5
  have g5 := g2.trans hg5
  go_wp2_with fail
  refine (hsm _ _ _ ((h.g0 g5).g0 (Gr.alloc _ _ _)) (ow5.sl.g0 (Gr.alloc _ _ _))).mono ?_
  rintro e w6 ⟨rfl, hg6⟩
  have gg := (g5.trans (Gr.alloc _ _ _)).trans hg6
  have hB6 := ((hg6.block W.heap.size (Nat.lt_of_lt_of_le hlt5 (by simp)) (fun e => e)).trans (heap_alloc_old w5 _ hlt5)).trans hB5
  have f6 := fr_cells hB6
  go_wp2_with fail
  refine (hq _ (hb.g0 gg)).mono ?_
  rintro e w3 ⟨rfl, hg3⟩
  go_wp2_with fail
  go_ret
  exact ⟨rfl, ((gg.trans hg3).trans (Gr.alloc _ _ _)).below (Nat.le_refl _) (fun _ e => e.elim)⟩

set_option maxRecDepth 20000 in
set_option maxHeartbeats 1000000 in
theorem back_yy (W : World) (f t bo : Nat) (v vb : Value) (l lb : List Nat) (h : Sl W v l) (hb : Sl W vb lb) (hbo : bo < 4294967296) (hc : chk f t bo l.length = 0) (ho : opn lb = 0) :
    Calls Try.prog 6 #[fr f t bo v, vb] W fun e W' => e = .returned (.bool true) ∧ Below W.heap.size W W' := by
  obtain ⟨wi, hwi⟩ : ∃ wi, wire f t bo l = wi := ⟨_, rfl⟩
  obtain ⟨p1, p2, p3, p4, p5, p6⟩ := opn_wire f t bo l hc
  rw [hwi] at p1 p2 p3 p4 p5 p6
  have hp := fun w h => pack_yes' w f t bo v l wi h hbo hc hwi
  have hq0 := fun w v h => open_yes' w v wi h p1 f t bo l p2 p3 p4 p5
  have hsm := fun w v v' h h' => same_yes w f t bo v v' l h h'
  have hll := h.len
  have q0 : ((l.length : Int) + 12 != 12 + (l.length : Int)) = false := by simp; omega
  have q00 : (l.length : Int) ≤ 1200 := by have := (chk_zero hc).2.2.2.2.2.2; omega
  rw [p6] at hp
  clear hc hwi p1 p2 p3 p4 p5 p6 hll
  obtain ⟨r1, r2, r3⟩ := wire_opn lb hb.byte ho
  obtain ⟨F, hF⟩ : ∃ F, lb.getD 2 0 = F := ⟨_, rfl⟩
  obtain ⟨T, hT⟩ : ∃ T, lb.getD 3 0 = T := ⟨_, rfl⟩
  obtain ⟨B, hBB⟩ : ∃ B, hi4 lb 4 = B := ⟨_, rfl⟩
  obtain ⟨M, hM⟩ : ∃ M, body lb = M := ⟨_, rfl⟩
  rw [hF, hT, hBB, hM] at r1 r2
  rw [hBB] at r3
  have hq := fun w h => open_yes' w vb lb h ho F T B M hF hT hBB hM
  have hp2 := fun w v h => pack_yes' w F T B v M lb h r3 r2 r1
  have hbb := str_beq hb.byte hb.byte
  rw [decide_eq_true rfl] at hbb
  clear ho r1 r2 r3 hF hT hBB hM
  obtain ⟨a, cap, rfl, h1, h2, -⟩ := h.sv
  obtain ⟨a', cap', rfl, h1', h2', -⟩ := hb.sv
  have g0 : G0 W (W.alloc (.cells #[.int .i64 f, .int .i64 t, .int .u32 bo, .slice a l.length cap] 28)) := Gr.alloc _ _ _
  have hB := heap_alloc_new W (.cells #[.int .i64 f, .int .i64 t, .int .u32 bo, .slice a l.length cap] 28)
  have hlt : W.heap.size < (W.alloc (.cells #[.int .i64 f, .int .i64 t, .int .u32 bo, .slice a l.length cap] 28)).heap.size := by simp
  go_enter Try.func6, Try.ntmps6
  go_wp2_with fail
  refine (alive_c _).mono ?_
  rintro e w1 ⟨rfl, hg1⟩
  have hB1 := (hg1.block _ hlt (fun e => e)).trans hB
  have hlt1 := Nat.lt_of_lt_of_le hlt hg1.size
  have f1 := fr_cells hB1
  go_wp2_with fail
  refine (hp _ ((h.g0 g0).g0 hg1)).mono ?_
  rintro e w2 ⟨x2, c2, rfl, ow2, hg2⟩
  have hB2 := (hg2.block _ hlt1 (fun e => e)).trans hB1
  have hlt2 := Nat.lt_of_lt_of_le hlt1 hg2.size
  have g2 := (g0.trans hg1).trans hg2
  go_wp2_with fail
  refine (hq0 _ _ ow2.sl).mono ?_
  rintro e w5 ⟨x5, c5, rfl, ow5, hg5⟩
  have hB5 := (hg5.block _ hlt2 (fun e => e)).trans hB2
  have hlt5 := Nat.lt_of_lt_of_le hlt2 hg5.size
  have f5 := fr_cells hB5
  have g5 := g2.trans hg5
  go_wp2_with fail
  refine (hsm _ _ _ ((h.g0 g5).g0 (Gr.alloc _ _ _)) (ow5.sl.g0 (Gr.alloc _ _ _))).mono ?_
  rintro e w6 ⟨rfl, hg6⟩
  have gg := (g5.trans (Gr.alloc _ _ _)).trans hg6
  have hB6 := ((hg6.block W.heap.size (Nat.lt_of_lt_of_le hlt5 (by simp)) (fun e => e)).trans (heap_alloc_old w5 _ hlt5)).trans hB5
  have f6 := fr_cells hB6
  go_wp2_with fail
  refine (hq _ (hb.g0 gg)).mono ?_
  rintro e w3 ⟨x3, c3, rfl, ow3, hg3⟩
  go_wp2_with fail
  refine (hp2 _ _ (ow3.sl.g0 (Gr.alloc _ _ _))).mono ?_
  rintro e w4 ⟨x4, c4, rfl, ow4, hg4⟩
  have gz := ((gg.trans hg3).trans (Gr.alloc _ _ _)).trans hg4
  have k1 := conv ow4.sl
  have k2 := conv (hb.g0 gz)
  go_wp2_with fail
  go_ret
  exact ⟨by rw [← hbb]; rfl, gz.below (Nat.le_refl _) (fun _ e => e.elim)⟩

end Go.Proofs.Ytnaapgjjombdpaa
