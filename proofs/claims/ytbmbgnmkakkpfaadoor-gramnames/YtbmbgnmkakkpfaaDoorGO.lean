/-
  Parts of a tree in memory; the chapter's examples.
-/
import Derived.Test.YtbmbgnmkakkpfaaDoorGN
set_option linter.unusedVariables false
set_option linter.unusedSimpArgs false
namespace Go.Proofs.YtbmbgnmkakkpfaaDoor
open Go.RowKit Go.Maps
variable {W W' : World}

theorem Reps.at {A : Nat → Prop} : ∀ {l : List Tr} {vs : List Value}, Reps A W l vs → ∀ (i : Nat) (T : Tr), l[i]? = some T → ∃ v', Rep A W T v' ∧ ∀ j u, (cellsOf v')[j]? = some u → (vs.flatMap cellsOf)[i * 5 + j]? = some u
  | [], vs, k, i, T, h => by simp at h
  | t :: l, vs, k, 0, T, h => by
    obtain ⟨v', r, rfl, k1, k2⟩ := k
    simp at h; subst h
    refine ⟨v', k1, fun j u hj => ?_⟩
    rw [List.flatMap_cons, Nat.zero_mul, Nat.zero_add, List.getElem?_append_left (List.getElem?_eq_some_iff.1 hj).1]
    exact hj
  | t :: l, vs, k, i + 1, T, h => by
    obtain ⟨v', r, rfl, k1, k2⟩ := k
    obtain ⟨v2, h1, h2⟩ := Reps.at k2 i T (by simpa using h)
    refine ⟨v2, h1, fun j u hj => ?_⟩
    obtain ⟨_, _, _, _, _, _, _, _, _, rfl⟩ := Rep.agg k1
    rw [List.flatMap_cons, List.getElem?_append_right (by simp [cellsOf]; omega), ← h2 j u hj]
    congr 1
    simp [cellsOf]
    omega
theorem Rep.kids {A : Nat → Prop} {k : Int} {s : ByteArray} {n : Int} {b : List Int} {l : List Tr} {v : Value} (h : Rep A W (.mk k s n b l) v) (hl : 0 < l.length) :
    ∃ ba bc g c, v = trv k s n (.slice ba b.length bc) (.slice (some ⟨g, 0, none⟩) l.length c) ∧ A g ∧ g < W.heap.size ∧ l.length ≤ c ∧ ∀ i T, l[i]? = some T → ∃ v', Rep A W T v' ∧ ∀ j u, (cellsOf v')[j]? = some u → W.cell? ⟨g, i * 5 + j, none⟩ = some u := by
  obtain ⟨bv, lv, vs, rfl, hb, hr, hreps⟩ := h
  obtain ⟨ba, bc, rfl⟩ := hb.sv
  rcases hr with ⟨h0, _⟩ | ⟨g, cap, cur, rfl, hg, hc, h1, h2⟩
  · omega
  · refine ⟨ba, bc, g, cap, rfl, hg, (Array.getElem?_eq_some_iff.1 hc).1, h1, fun i T hi => ?_⟩
    obtain ⟨v', k1, k2⟩ := Reps.at hreps i T hi
    refine ⟨v', k1, fun j u hj => ?_⟩
    have e := k2 j u hj
    rw [← h2] at e
    have hlt : i * 5 + j < l.length * 5 := by
      rcases Nat.lt_or_ge (i * 5 + j) (l.length * 5) with h | h
      · exact h
      · rw [List.getElem?_eq_none (by simp; omega)] at e; cases e
    rw [List.getElem?_take_of_lt hlt] at e
    simp only [World.cell?, hc]
    simpa using e

abbrev ax1 : ByteArray := ⟨#[102, 40, 41, 32, 45, 62, 32, 49, 32, 45, 32, 50, 32, 45, 32, 51, 46]⟩
abbrev ax2 : ByteArray := ⟨#[102, 40, 41, 32, 45, 62, 32, 65, 32, 61, 32, 66, 32, 33, 32, 67, 46]⟩
abbrev ax3 : ByteArray := ⟨#[102, 40, 41, 32, 45, 62, 32, 46]⟩
def is1 : Except (Nat × Int) Tr → Bool
  | .ok (.mk _ _ _ _ [.mk _ _ _ _ [.mk _ _ _ _ [.mk k s _ _ [.mk k1 _ _ _ _, .mk _ _ n2 _ _]]]]) => (k == 8) && (s.toList == [45]) && (k1 == 8) && (n2 == 3)
  | _ => false
def is2 : Except (Nat × Int) Tr → Bool
  | .ok (.mk _ _ _ _ [.mk _ _ _ _ [.mk _ _ _ _ [.mk k s _ _ [_, .mk k1 _ _ _ _]]]]) => (k == 9) && (k1 == 10)
  | _ => false
def is3 : Except (Nat × Int) Tr → Bool
  | .error (i, c) => (i == 4) && (c == 160)
  | _ => false
theorem is1_ok : is1 (textV ax1) = true := by decide +kernel
theorem is2_ok : is2 (textV ax2) = true := by decide +kernel
theorem is3_ok : is3 (textV ax3) = true := by decide +kernel
/-- The example's trees in memory, as far as they are looked at. -/
def M1 (w : World) (g1 : Nat) : Prop := ∃ g2 c2 g3 c3 n4 b1 b2 b3 g4 c4, (w.cell? ⟨g1, 4, none⟩ = some (.slice (some ⟨g2, 0, none⟩) 1 c2) ∧ w.cell? ⟨g2, 4, none⟩ = some (.slice (some ⟨g3, 0, none⟩) 1 c3)) ∧
  (w.cell? ⟨g3, 0, none⟩ = some (.int .i64 8) ∧ w.cell? ⟨g3, 1, none⟩ = some (.string ⟨#[45]⟩) ∧ w.cell? ⟨g3, 2, none⟩ = some (.int .i64 n4) ∧ w.cell? ⟨g3, 3, none⟩ = some (.slice b1 b2 b3) ∧ w.cell? ⟨g3, 4, none⟩ = some (.slice (some ⟨g4, 0, none⟩) 2 c4)) ∧
  w.cell? ⟨g4, 0, none⟩ = some (.int .i64 8) ∧ w.cell? ⟨g4, 7, none⟩ = some (.int .i64 3)
def M2 (w : World) (g1 : Nat) : Prop := ∃ g2 c2 g3 c3 s4 n4 b1 b2 b3 g4 c4, (w.cell? ⟨g1, 4, none⟩ = some (.slice (some ⟨g2, 0, none⟩) 1 c2) ∧ w.cell? ⟨g2, 4, none⟩ = some (.slice (some ⟨g3, 0, none⟩) 1 c3)) ∧
  (w.cell? ⟨g3, 0, none⟩ = some (.int .i64 9) ∧ w.cell? ⟨g3, 1, none⟩ = some (.string s4) ∧ w.cell? ⟨g3, 2, none⟩ = some (.int .i64 n4) ∧ w.cell? ⟨g3, 3, none⟩ = some (.slice b1 b2 b3) ∧ w.cell? ⟨g3, 4, none⟩ = some (.slice (some ⟨g4, 0, none⟩) 2 c4)) ∧
  w.cell? ⟨g4, 5, none⟩ = some (.int .i64 10)
theorem M1.gr {g1 : Nat} (h : M1 W g1) (g : Gr (fun _ => False) W W') : M1 W' g1 := by
  obtain ⟨g2, c2, g3, c3, n4, b1, b2, b3, g4, c4, ⟨h1, h2⟩, ⟨h3, h4, h5, h6, h7⟩, h8, h9⟩ := h
  have k : ∀ {b o : Nat} {v : Value}, W.cell? ⟨b, o, none⟩ = some v → W'.cell? ⟨b, o, none⟩ = some v := fun h => cell_gr h g (fun e => e)
  exact ⟨g2, c2, g3, c3, n4, b1, b2, b3, g4, c4, ⟨k h1, k h2⟩, ⟨k h3, k h4, k h5, k h6, k h7⟩, k h8, k h9⟩
theorem M2.gr {g1 : Nat} (h : M2 W g1) (g : Gr (fun _ => False) W W') : M2 W' g1 := by
  obtain ⟨g2, c2, g3, c3, s4, n4, b1, b2, b3, g4, c4, ⟨h1, h2⟩, ⟨h3, h4, h5, h6, h7⟩, h8⟩ := h
  have k : ∀ {b o : Nat} {v : Value}, W.cell? ⟨b, o, none⟩ = some v → W'.cell? ⟨b, o, none⟩ = some v := fun h => cell_gr h g (fun e => e)
  exact ⟨g2, c2, g3, c3, s4, n4, b1, b2, b3, g4, c4, ⟨k h1, k h2⟩, ⟨k h3, k h4, k h5, k h6, k h7⟩, k h8⟩
theorem ex1_c (W : World) (hE : Er W) (hS : Sg W) (hL : Lv W) : Calls Tryd.prog 15 #[.string ax1] W fun e w' => ∃ k s n ba bn bc g c, e = .returned (.tuple #[trv k s n (.slice ba bn bc) (.slice (some ⟨g, 0, none⟩) 1 c), .int .i64 0, .int .i64 0]) ∧ M1 w' g ∧ Gr (fun _ => False) W w' := by
  refine (text_c W ax1 hE hS hL).mono ?_
  intro e w' h
  have ho := is1_ok
  generalize textV ax1 = r at h ho
  match r, ho with
  | .ok (.mk k0 s0 n0 q0 [.mk k1 s1 n1 q1 [.mk k2 s2 n2 q2 [.mk k3 s3 n3 q3 [.mk k4 s4 n4 q4 l4, .mk k5 s5 n5 q5 l5]]]]), ho =>
    simp only [is1, Bool.and_eq_true, beq_iff_eq] at ho
    obtain ⟨⟨⟨rfl, hs⟩, rfl⟩, rfl⟩ := ho
    obtain ⟨v, rfl, hr, hg⟩ := h
    obtain ⟨ba, bc, g, c, rfl, _, _, _, hk⟩ := hr.kids (Nat.succ_pos _)
    obtain ⟨v1, r1, e1⟩ := hk 0 _ rfl
    obtain ⟨_, _, g2, c2, rfl, _, _, _, hk1⟩ := Rep.kids r1 (Nat.succ_pos _)
    obtain ⟨v2, r2, e2⟩ := hk1 0 _ rfl
    obtain ⟨_, _, g3, c3, rfl, _, _, _, hk2⟩ := Rep.kids r2 (Nat.succ_pos _)
    obtain ⟨v3, r3, e3⟩ := hk2 0 _ rfl
    obtain ⟨_, _, g4, c4, rfl, _, _, _, hk3⟩ := Rep.kids r3 (Nat.succ_pos _)
    obtain ⟨v4, r4, e4⟩ := hk3 0 _ rfl
    obtain ⟨v5, r5, e5⟩ := hk3 1 _ rfl
    obtain ⟨_, _, _, rfl, _⟩ := r4
    obtain ⟨_, _, _, rfl, _⟩ := r5
    have hs' : s3 = ⟨#[45]⟩ := list_ba hs
    subst hs'
    exact ⟨_, _, _, _, _, _, g, c, rfl, ⟨g2, c2, g3, c3, n3, _, _, _, g4, c4, ⟨e1 4 _ rfl, e2 4 _ rfl⟩, ⟨e3 0 _ rfl, e3 1 _ rfl, e3 2 _ rfl, e3 3 _ rfl, e3 4 _ rfl⟩, e4 0 _ rfl, e5 2 _ rfl⟩, hg⟩
theorem ex2_c (W : World) (hE : Er W) (hS : Sg W) (hL : Lv W) : Calls Tryd.prog 15 #[.string ax2] W fun e w' => ∃ k s n ba bn bc g c, e = .returned (.tuple #[trv k s n (.slice ba bn bc) (.slice (some ⟨g, 0, none⟩) 1 c), .int .i64 0, .int .i64 0]) ∧ M2 w' g ∧ Gr (fun _ => False) W w' := by
  refine (text_c W ax2 hE hS hL).mono ?_
  intro e w' h
  have ho := is2_ok
  generalize textV ax2 = r at h ho
  match r, ho with
  | .ok (.mk k0 s0 n0 q0 [.mk k1 s1 n1 q1 [.mk k2 s2 n2 q2 [.mk k3 s3 n3 q3 [T4, .mk k5 s5 n5 q5 l5]]]]), ho =>
    simp only [is2, Bool.and_eq_true, beq_iff_eq] at ho
    obtain ⟨rfl, rfl⟩ := ho
    obtain ⟨v, rfl, hr, hg⟩ := h
    obtain ⟨ba, bc, g, c, rfl, _, _, _, hk⟩ := hr.kids (Nat.succ_pos _)
    obtain ⟨v1, r1, e1⟩ := hk 0 _ rfl
    obtain ⟨_, _, g2, c2, rfl, _, _, _, hk1⟩ := Rep.kids r1 (Nat.succ_pos _)
    obtain ⟨v2, r2, e2⟩ := hk1 0 _ rfl
    obtain ⟨_, _, g3, c3, rfl, _, _, _, hk2⟩ := Rep.kids r2 (Nat.succ_pos _)
    obtain ⟨v3, r3, e3⟩ := hk2 0 _ rfl
    obtain ⟨_, _, g4, c4, rfl, _, _, _, hk3⟩ := Rep.kids r3 (Nat.succ_pos _)
    obtain ⟨v5, r5, e5⟩ := hk3 1 _ rfl
    obtain ⟨_, _, _, rfl, _⟩ := r5
    exact ⟨_, _, _, _, _, _, g, c, rfl, ⟨g2, c2, g3, c3, _, n3, _, _, _, g4, c4, ⟨e1 4 _ rfl, e2 4 _ rfl⟩, ⟨e3 0 _ rfl, e3 1 _ rfl, e3 2 _ rfl, e3 3 _ rfl, e3 4 _ rfl⟩, e5 0 _ rfl⟩, hg⟩
theorem ex3_c (W : World) (hE : Er W) (hS : Sg W) (hL : Lv W) : Calls Tryd.prog 15 #[.string ax3] W fun e w' => e = .returned (.tuple #[tr0v, .int .i64 4, .int .i64 160]) ∧ Gr (fun _ => False) W w' := by
  refine (text_c W ax3 hE hS hL).mono ?_
  intro e w' h
  have ho := is3_ok
  generalize textV ax3 = r at h ho
  match r, ho with
  | .error (i, c), ho =>
    simp only [is3, Bool.and_eq_true, beq_iff_eq] at ho
    obtain ⟨rfl, rfl⟩ := ho
    exact h
set_option maxRecDepth 100000 in
set_option maxHeartbeats 4000000 in
theorem alive_c (W : World) (hE : Er W) (hS : Sg W) (hL : Lv W) : Calls Tryd.prog 7 #[] W fun e w' => e = .returned (.bool true) ∧ Gr (fun _ => False) W w' := by
  have h1 := ex1_c W hE hS hL
  have h2 := fun w (g : Gr (fun _ => False) W w) => ex2_c w (hE.gr g (fun e => e)) (hS.gr g (fun e => e)) (hL.gr g (fun e => e) (fun e => e))
  have h3 := fun w (g : Gr (fun _ => False) W w) => ex3_c w (hE.gr g (fun e => e)) (hS.gr g (fun e => e)) (hL.gr g (fun e => e) (fun e => e))
  clear hE hS hL
  replace h2 := Lib.hid h2
  replace h3 := Lib.hid h3
  go_enter Tryd.func7, Tryd.ntmps7
  go_wp2_with fail
  refine h1.mono ?_
  rintro e w1 ⟨k1, s1, n1, ba1, bn1, bc1, g1, c1, rfl, m1, gr1⟩
  have G2 : Gr (fun _ => False) w1 (w1.alloc (.cells #[.int .i64 k1, .string s1, .int .i64 n1, .slice ba1 bn1 bc1, .slice (some ⟨g1, 0, none⟩) 1 c1] 25)) := Gr.alloc _ _ _
  have hl2 := heap_alloc_new w1 (.cells #[.int .i64 k1, .string s1, .int .i64 n1, .slice ba1 bn1 bc1, .slice (some ⟨g1, 0, none⟩) 1 c1] 25)
  go_wp2_with fail
  generalize w1.alloc _ = w2 at G2 hl2 ⊢
  obtain ⟨p1, hp1⟩ : ∃ p, w1.heap.size = p := ⟨_, rfl⟩
  rw [hp1] at hl2 ⊢
  refine (h2.out w2 (gr1.trans G2)).mono ?_
  rintro e w3 ⟨k2, s2, n2, ba2, bn2, bc2, g2, c2, rfl, m2, gr3⟩
  have G4 : Gr (fun _ => False) w3 (w3.alloc (.cells #[.int .i64 k2, .string s2, .int .i64 n2, .slice ba2 bn2 bc2, .slice (some ⟨g2, 0, none⟩) 1 c2] 25)) := Gr.alloc _ _ _
  have hl4 := heap_alloc_new w3 (.cells #[.int .i64 k2, .string s2, .int .i64 n2, .slice ba2 bn2 bc2, .slice (some ⟨g2, 0, none⟩) 1 c2] 25)
  go_wp2_with fail
  generalize w3.alloc _ = w4 at G4 hl4 ⊢
  obtain ⟨p2, hp2⟩ : ∃ p, w3.heap.size = p := ⟨_, rfl⟩
  rw [hp2] at hl4 ⊢
  refine (h3.out w4 (((gr1.trans G2).trans gr3).trans G4)).mono ?_
  rintro e w5 ⟨rfl, gr5⟩
  have G5 : Gr (fun _ => False) W w5 := (((gr1.trans G2).trans gr3).trans G4).trans gr5
  obtain ⟨x2, d2, x3, d3, n4, b1, b2, b3, x4, d4, ⟨q1, q2⟩, ⟨q3, q4, q5, q6, q7⟩, q8, q9⟩ := m1.gr (((G2.trans gr3).trans G4).trans gr5)
  obtain ⟨y2, e2, y3, e3, s4, n4', b1', b2', b3', y4, e4, ⟨r1, r2⟩, ⟨r3, r4, r5, r6, r7⟩, r8⟩ := m2.gr (G4.trans gr5)
  obtain ⟨⟨t0, t1, t2, t3, t4⟩, _⟩ := five_cells (((gr3.trans G4).trans gr5).keep hl2 (fun e => e))
  obtain ⟨⟨v0, v1, v2, v3, v4⟩, _⟩ := five_cells (gr5.keep hl4 (fun e => e))
  have z1 : g1 < w5.heap.size := World.block_lt_of_cell? _ _ q1
  have z2 : x2 < w5.heap.size := World.block_lt_of_cell? _ _ q2
  have z3 : x3 < w5.heap.size := World.block_lt_of_cell? _ _ q3
  have z4 : x4 < w5.heap.size := World.block_lt_of_cell? _ _ q8
  have z5 : g2 < w5.heap.size := World.block_lt_of_cell? _ _ r1
  have z6 : y2 < w5.heap.size := World.block_lt_of_cell? _ _ r2
  have z7 : y3 < w5.heap.size := World.block_lt_of_cell? _ _ r3
  have z8 : y4 < w5.heap.size := World.block_lt_of_cell? _ _ r8
  have z9 : p1 < w5.heap.size := World.block_lt_of_cell? _ _ t0
  have z10 : p2 < w5.heap.size := World.block_lt_of_cell? _ _ v0
  have l0a : g1 < w5.heap.size + 1 := by omega
  have l0b : g1 < w5.heap.size + 1 + 1 := by omega
  have l0c : g1 ≠ w5.heap.size := by omega
  have l0d : g1 ≠ w5.heap.size + 1 := by omega
  have l0e : g1 ≠ w5.heap.size + 1 + 1 := by omega
  have l1a : x2 < w5.heap.size + 1 := by omega
  have l1b : x2 < w5.heap.size + 1 + 1 := by omega
  have l1c : x2 ≠ w5.heap.size := by omega
  have l1d : x2 ≠ w5.heap.size + 1 := by omega
  have l1e : x2 ≠ w5.heap.size + 1 + 1 := by omega
  have l2a : x3 < w5.heap.size + 1 := by omega
  have l2b : x3 < w5.heap.size + 1 + 1 := by omega
  have l2c : x3 ≠ w5.heap.size := by omega
  have l2d : x3 ≠ w5.heap.size + 1 := by omega
  have l2e : x3 ≠ w5.heap.size + 1 + 1 := by omega
  have l3a : x4 < w5.heap.size + 1 := by omega
  have l3b : x4 < w5.heap.size + 1 + 1 := by omega
  have l3c : x4 ≠ w5.heap.size := by omega
  have l3d : x4 ≠ w5.heap.size + 1 := by omega
  have l3e : x4 ≠ w5.heap.size + 1 + 1 := by omega
  have l4a : g2 < w5.heap.size + 1 := by omega
  have l4b : g2 < w5.heap.size + 1 + 1 := by omega
  have l4c : g2 ≠ w5.heap.size := by omega
  have l4d : g2 ≠ w5.heap.size + 1 := by omega
  have l4e : g2 ≠ w5.heap.size + 1 + 1 := by omega
  have l5a : y2 < w5.heap.size + 1 := by omega
  have l5b : y2 < w5.heap.size + 1 + 1 := by omega
  have l5c : y2 ≠ w5.heap.size := by omega
  have l5d : y2 ≠ w5.heap.size + 1 := by omega
  have l5e : y2 ≠ w5.heap.size + 1 + 1 := by omega
  have l6a : y3 < w5.heap.size + 1 := by omega
  have l6b : y3 < w5.heap.size + 1 + 1 := by omega
  have l6c : y3 ≠ w5.heap.size := by omega
  have l6d : y3 ≠ w5.heap.size + 1 := by omega
  have l6e : y3 ≠ w5.heap.size + 1 + 1 := by omega
  have l7a : y4 < w5.heap.size + 1 := by omega
  have l7b : y4 < w5.heap.size + 1 + 1 := by omega
  have l7c : y4 ≠ w5.heap.size := by omega
  have l7d : y4 ≠ w5.heap.size + 1 := by omega
  have l7e : y4 ≠ w5.heap.size + 1 + 1 := by omega
  have l8a : p1 < w5.heap.size + 1 := by omega
  have l8b : p1 < w5.heap.size + 1 + 1 := by omega
  have l8c : p1 ≠ w5.heap.size := by omega
  have l8d : p1 ≠ w5.heap.size + 1 := by omega
  have l8e : p1 ≠ w5.heap.size + 1 + 1 := by omega
  have l9a : p2 < w5.heap.size + 1 := by omega
  have l9b : p2 < w5.heap.size + 1 + 1 := by omega
  have l9c : p2 ≠ w5.heap.size := by omega
  have l9d : p2 ≠ w5.heap.size + 1 := by omega
  have l9e : p2 ≠ w5.heap.size + 1 + 1 := by omega
  clear h1 h2 h3 m1 m2 hl2 hl4 G2 G4 gr1 gr3 gr5
  go_wp2_with fail
  go_ret
  refine ⟨rfl, ?_⟩
  first
    | exact ((G5.trans (Gr.alloc _ _ _)).trans (Gr.alloc _ _ _)).trans (Gr.alloc _ _ _)
    | exact (G5.trans (Gr.alloc _ _ _)).trans (Gr.alloc _ _ _)
end Go.Proofs.YtbmbgnmkakkpfaaDoor
