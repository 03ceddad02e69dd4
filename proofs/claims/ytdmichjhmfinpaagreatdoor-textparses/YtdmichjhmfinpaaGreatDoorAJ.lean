/-
  The reference's reader: an int.
-/
import Derived.Test.YtdmichjhmfinpaaGreatDoorAI
set_option linter.unusedVariables false
set_option linter.unusedSimpArgs false
namespace Go.Proofs.YtdmichjhmfinpaaGreatDoor
open Go.RowKit Go.Maps

/-- A state of the reference's in its block, blocks for the answer: a state, a term. -/
structure Sy (W : World) (N : Nat) (s : ByteArray) (i n : Nat) (c a : Int) (X : World) : Prop where
  sx : Sx W N s i n c a X
  tm : X.heap[N + 1 + 1]? = some (.cells #[.int .i64 0, .int .i64 0, .complex .f64 0 0, .string e0, .int .i64 0, .int .u32 0, .int .u64 0, nl, nl] 31 (0, 0))
theorem Sy.turn {W : World} {N : Nat} {s : ByteArray} {i n : Nat} {c a : Int} {X X' : World} (h : Sy W N s i n c a X) (g : Gr (fun _ => False) X X') : Sy W N s i n c a X' :=
  ⟨h.sx.turn g, g.keep h.tm (fun e => e)⟩
theorem Sy.set {W : World} {N : Nat} {s : ByteArray} {i n : Nat} {c a : Int} {X : World} (hN : W.heap.size ≤ N) (h : Sy W N s i n c a X) (i' n' : Nat) (c' a' : Int) :
    Sy W N s i' n' c' a' (((((X.setCell ⟨N, 0, none⟩ (.string s)).setCell ⟨N, 1, none⟩ (.int .i64 (i' : Int))).setCell ⟨N, 2, none⟩ (.int .i64 (n' : Int))).setCell ⟨N, 3, none⟩ (.int .i64 c')).setCell ⟨N, 4, none⟩ (.int .i64 a')) :=
  ⟨h.sx.set hN i' n' c' a', (Gr.own5 X N _ _ _ _ _).keep h.tm (by omega)⟩
/-- Three blocks of a call's own, one behind the other. -/
theorem Sy.lt {W : World} {N : Nat} {s : ByteArray} {i n : Nat} {c a : Int} {X : World} (h : Sy W N s i n c a X) : N < X.heap.size ∧ N + 1 < X.heap.size ∧ N + 1 + 1 < X.heap.size :=
  ⟨(Array.getElem?_eq_some_iff.1 h.sx.st).1, (Array.getElem?_eq_some_iff.1 h.sx.out).1, (Array.getElem?_eq_some_iff.1 h.tm).1⟩

/-- What the reference answers at an int. -/
def whV (s : ByteArray) (i n : Nat) (a : Int) : Except Nat (Int × Nat) → Value
  | .error j => .tuple #[sv s j n 41 (j : Int), lf 0 0 0 0 e0 0 0 0]
  | .ok (v, j) => if inR v = true then .tuple #[sv s j n 0 a, lf 1 v 0 0 e0 0 0 0] else .tuple #[sv s j n 41 (i : Int), lf 0 0 0 0 e0 0 0 0]

theorem dvx_nonneg {s : ByteArray} {i j : Nat} (hi : i ≤ s.size) (h : dgs s i = .ok j) : 0 ≤ dvx s i j :=
  dva_nonneg (dgs_dig hi h).2.2 _ (Nat.le_refl _)
set_option maxRecDepth 200000 in
set_option maxHeartbeats 3200000 in
theorem whole_pos (s : ByteArray) (hs : s.size ≤ 65536) (i n : Nat) (a : Int) (hi : i ≤ s.size) (h : pk s i ≠ 45) (W : World) :
    Calls Tryz.prog 29 #[sv s i n 0 a] W fun e w' => e = .returned (whV s i n a (itg s i)) ∧ Gr (fun _ => False) W w' := by
  replace hs := Lib.hid hs
  have hI : (i : Int) ≤ 65536 := by have := hs.out; omega
  have hp := hi
  have hi1 := fun W => is_c s i n a 45 (by decide) W
  rw [show (pk s i == 45) = false by simpa using h] at hi1
  have hn := fun W => number_c s hs.out i n a hi W
  have e : itg s i = match dgs s i with
    | .error j => .error j
    | .ok j => .ok (posV (dvx s i j), j) := by rw [itg, if_neg h]; rfl
  rw [e]
  obtain ⟨r, hr⟩ : ∃ r, dgs s i = r := ⟨_, rfl⟩
  rw [hr] at hn ⊢
  clear e h
  cases r with
  | error j =>
    replace hn : ∀ W, Calls Tryz.prog 66 #[sv s (i) n 0 a] W fun e w' => e = .returned (.tuple #[sv s j n 41 (j : Int), .int .u64 0, .bool true]) ∧ Gr (fun _ => False) W w' := hn
    rw [show whV s i n a (match (Except.error j : Except Nat Nat) with | .error j => .error j | .ok j => .ok (posV (dvx s (i) j), j)) = .tuple #[sv s j n 41 (j : Int), lf 0 0 0 0 e0 0 0 0] from rfl]
    go_enter Tryz.func29, Tryz.ntmps29
    go_wp2_with fail
    generalize hW1 : World.alloc (World.alloc (World.alloc W _) _) _ = W1
    have hx1 : Sy W W.heap.size s i n 0 a W1 := by
      subst hW1
      refine ⟨⟨?_, ?_, ((Gr.alloc _ _ _).trans (Gr.alloc _ _ _)).trans (Gr.alloc _ _ _)⟩, ?_⟩ <;> (simp only [al, World.size_alloc]; repeat (first | rw [if_pos trivial] | rw [if_pos (by omega)] | rw [if_neg (by omega)]))
    clear hW1
    refine (hi1 _).mono ?_
    rintro e w2 ⟨rfl, hg2⟩
    have hst2 := hx1.turn hg2
    obtain ⟨⟨x0, x1, x2, x3, x4⟩, xf⟩ := five hst2.sx.st
    go_wp2_with fail
    refine (hn _).mono ?_
    rintro e w3 ⟨rfl, hg3⟩
    have hst3 := hst2.turn hg3
    obtain ⟨l0, l1, l2⟩ := hst3.lt
    obtain ⟨⟨x0, x1, x2, x3, x4⟩, xf⟩ := five hst3.sx.st
    obtain ⟨⟨y0, y1, y2, y3, y4⟩, yf⟩ := five hst3.sx.out
    obtain ⟨⟨z0, z1, z2, z3, z4, z5, z6, z7, z8⟩, zf⟩ := nine hst3.tm
    have hst4 := hst3.set (Nat.le_refl _) j n 41 (j : Int)
    go_wp2_with fail
    exact bodyPost_ret (v := .tuple #[sv s j n 41 (j : Int), lf 0 0 0 0 e0 0 0 0]) (by simp [results, Tryz.results29, go_sem, y0, y1, y2, y3, y4, z0, z1, z2, z3, z4, z5, z6, z7, z8, l0, l1, l2]) rfl ⟨rfl, ((hst4.sx.gr.set5 (g := W.heap.size + 1) (Nat.le_succ _) _ _ _ _ _).set9 (g := W.heap.size + 1 + 1) (by omega) _ _ _ _ _ _ _ _ _)⟩
  | ok j =>
    have hD0 := dvx_nonneg hp hr
    clear hr
    replace hn : ∀ W, Calls Tryz.prog 66 #[sv s (i) n 0 a] W fun e w' => (∃ v, e = .returned (.tuple #[sv s j n 0 a, .int .u64 v, .bool (decide (dvx s (i) j ≤ 18446744073709551615))]) ∧ (dvx s (i) j ≤ 18446744073709551615 → v = dvx s (i) j)) ∧ Gr (fun _ => False) W w' := hn
    show Calls Tryz.prog 29 _ W fun e w' => e = .returned (whV s i n a (.ok (posV (dvx s (i) j), j))) ∧ Gr (fun _ => False) W w'
    obtain ⟨D, hD⟩ : ∃ D, dvx s (i) j = D := ⟨_, rfl⟩
    rw [hD] at hn hD0 ⊢
    clear hD
    by_cases q : D ≤ 18446744073709551615
    · rw [show decide (D ≤ 18446744073709551615) = true by simpa using q] at hn
      by_cases g1 : 4611686018427387904 < D
      · rw [show whV s i n a (.ok (posV D, j)) = .tuple #[sv s j n 41 (i : Int), lf 0 0 0 0 e0 0 0 0] by rw [whV, if_neg]; simp only [inR, posV]; split <;> simp <;> omega]
        have g2 : decide (4611686018427387904 < D) = true := by simpa using g1
        go_enter Tryz.func29, Tryz.ntmps29
        go_wp2_with fail
        generalize hW1 : World.alloc (World.alloc (World.alloc W _) _) _ = W1
        have hx1 : Sy W W.heap.size s i n 0 a W1 := by
          subst hW1
          refine ⟨⟨?_, ?_, ((Gr.alloc _ _ _).trans (Gr.alloc _ _ _)).trans (Gr.alloc _ _ _)⟩, ?_⟩ <;> (simp only [al, World.size_alloc]; repeat (first | rw [if_pos trivial] | rw [if_pos (by omega)] | rw [if_neg (by omega)]))
        clear hW1
        refine (hi1 _).mono ?_
        rintro e w2 ⟨rfl, hg2⟩
        have hst2 := hx1.turn hg2
        obtain ⟨⟨x0, x1, x2, x3, x4⟩, xf⟩ := five hst2.sx.st
        go_wp2_with fail
        refine (hn _).mono ?_
        rintro e w3 ⟨⟨v, rfl, hv⟩, hg3⟩
        have hst3 := hst2.turn hg3
        obtain ⟨l0, l1, l2⟩ := hst3.lt
        obtain ⟨⟨x0, x1, x2, x3, x4⟩, xf⟩ := five hst3.sx.st
        obtain ⟨⟨y0, y1, y2, y3, y4⟩, yf⟩ := five hst3.sx.out
        obtain ⟨⟨z0, z1, z2, z3, z4, z5, z6, z7, z8⟩, zf⟩ := nine hst3.tm
        have hv := hv q
        subst hv
        have hst4 := hst3.set (Nat.le_refl _) j n 0 a
        go_wp2_with fail
        refine (fail_new s j n a (i : Int) 41 _).mono ?_
        rintro e w4 ⟨rfl, hg4⟩
        have hst5 := hst4.turn hg4
        obtain ⟨l0, l1, l2⟩ := hst5.lt
        obtain ⟨⟨x0, x1, x2, x3, x4⟩, xf⟩ := five hst5.sx.st
        obtain ⟨⟨y0, y1, y2, y3, y4⟩, yf⟩ := five hst5.sx.out
        obtain ⟨⟨z0, z1, z2, z3, z4, z5, z6, z7, z8⟩, zf⟩ := nine hst5.tm
        go_wp2_with fail
        exact bodyPost_ret (v := .tuple #[sv s j n 41 (i : Int), lf 0 0 0 0 e0 0 0 0]) (by simp [results, Tryz.results29, go_sem, y0, y1, y2, y3, y4, z0, z1, z2, z3, z4, z5, z6, z7, z8, l0, l1, l2]) rfl ⟨rfl, ((hst5.sx.gr.set5 (g := W.heap.size + 1) (Nat.le_succ _) _ _ _ _ _).set9 (g := W.heap.size + 1 + 1) (by omega) _ _ _ _ _ _ _ _ _)⟩
      have g2 : decide (4611686018427387904 < D) = false := by simpa using g1
      by_cases g3 : D = 4611686018427387904
      · subst g3
        rw [show whV s i n a (.ok (posV 4611686018427387904, j)) = .tuple #[sv s j n 41 (i : Int), lf 0 0 0 0 e0 0 0 0] from rfl]
        go_enter Tryz.func29, Tryz.ntmps29
        go_wp2_with fail
        generalize hW1 : World.alloc (World.alloc (World.alloc W _) _) _ = W1
        have hx1 : Sy W W.heap.size s i n 0 a W1 := by
          subst hW1
          refine ⟨⟨?_, ?_, ((Gr.alloc _ _ _).trans (Gr.alloc _ _ _)).trans (Gr.alloc _ _ _)⟩, ?_⟩ <;> (simp only [al, World.size_alloc]; repeat (first | rw [if_pos trivial] | rw [if_pos (by omega)] | rw [if_neg (by omega)]))
        clear hW1
        refine (hi1 _).mono ?_
        rintro e w2 ⟨rfl, hg2⟩
        have hst2 := hx1.turn hg2
        obtain ⟨⟨x0, x1, x2, x3, x4⟩, xf⟩ := five hst2.sx.st
        go_wp2_with fail
        refine (hn _).mono ?_
        rintro e w3 ⟨⟨v, rfl, hv⟩, hg3⟩
        have hst3 := hst2.turn hg3
        obtain ⟨l0, l1, l2⟩ := hst3.lt
        obtain ⟨⟨x0, x1, x2, x3, x4⟩, xf⟩ := five hst3.sx.st
        obtain ⟨⟨y0, y1, y2, y3, y4⟩, yf⟩ := five hst3.sx.out
        obtain ⟨⟨z0, z1, z2, z3, z4, z5, z6, z7, z8⟩, zf⟩ := nine hst3.tm
        have hv := hv q
        subst hv
        have hst4 := hst3.set (Nat.le_refl _) j n 0 a
        go_wp2_with fail
        refine (fail_new s j n a (i : Int) 41 _).mono ?_
        rintro e w4 ⟨rfl, hg4⟩
        have hst5 := hst4.turn hg4
        obtain ⟨l0, l1, l2⟩ := hst5.lt
        obtain ⟨⟨x0, x1, x2, x3, x4⟩, xf⟩ := five hst5.sx.st
        obtain ⟨⟨y0, y1, y2, y3, y4⟩, yf⟩ := five hst5.sx.out
        obtain ⟨⟨z0, z1, z2, z3, z4, z5, z6, z7, z8⟩, zf⟩ := nine hst5.tm
        go_wp2_with fail
        exact bodyPost_ret (v := .tuple #[sv s j n 41 (i : Int), lf 0 0 0 0 e0 0 0 0]) (by simp [results, Tryz.results29, go_sem, y0, y1, y2, y3, y4, z0, z1, z2, z3, z4, z5, z6, z7, z8, l0, l1, l2]) rfl ⟨rfl, ((hst5.sx.gr.set5 (g := W.heap.size + 1) (Nat.le_succ _) _ _ _ _ _).set9 (g := W.heap.size + 1 + 1) (by omega) _ _ _ _ _ _ _ _ _)⟩
      have g4 : (D == 4611686018427387904) = false := by simpa using g3
      have g5 : D < 4611686018427387904 := by omega
      rw [show whV s i n a (.ok (posV D, j)) = .tuple #[sv s j n 0 a, lf 1 (D) 0 0 e0 0 0 0] by rw [show posV D = D by rw [posV, if_pos (by omega)], whV, if_pos]; simp [inR]; omega]
      go_enter Tryz.func29, Tryz.ntmps29
      go_wp2_with fail
      generalize hW1 : World.alloc (World.alloc (World.alloc W _) _) _ = W1
      have hx1 : Sy W W.heap.size s i n 0 a W1 := by
        subst hW1
        refine ⟨⟨?_, ?_, ((Gr.alloc _ _ _).trans (Gr.alloc _ _ _)).trans (Gr.alloc _ _ _)⟩, ?_⟩ <;> (simp only [al, World.size_alloc]; repeat (first | rw [if_pos trivial] | rw [if_pos (by omega)] | rw [if_neg (by omega)]))
      clear hW1
      refine (hi1 _).mono ?_
      rintro e w2 ⟨rfl, hg2⟩
      have hst2 := hx1.turn hg2
      obtain ⟨⟨x0, x1, x2, x3, x4⟩, xf⟩ := five hst2.sx.st
      go_wp2_with fail
      refine (hn _).mono ?_
      rintro e w3 ⟨⟨v, rfl, hv⟩, hg3⟩
      have hst3 := hst2.turn hg3
      obtain ⟨l0, l1, l2⟩ := hst3.lt
      obtain ⟨⟨x0, x1, x2, x3, x4⟩, xf⟩ := five hst3.sx.st
      obtain ⟨⟨y0, y1, y2, y3, y4⟩, yf⟩ := five hst3.sx.out
      obtain ⟨⟨z0, z1, z2, z3, z4, z5, z6, z7, z8⟩, zf⟩ := nine hst3.tm
      have hv := hv q
      subst hv
      have hst4 := hst3.set (Nat.le_refl _) j n 0 a
      go_wp2_with fail
      exact bodyPost_ret (v := .tuple #[sv s j n 0 a, lf 1 (v) 0 0 e0 0 0 0]) (by simp [results, Tryz.results29, go_sem, y0, y1, y2, y3, y4, z0, z1, z2, z3, z4, z5, z6, z7, z8, l0, l1, l2]) rfl ⟨rfl, ((hst4.sx.gr.set5 (g := W.heap.size + 1) (Nat.le_succ _) _ _ _ _ _).set9 (g := W.heap.size + 1 + 1) (by omega) _ _ _ _ _ _ _ _ _)⟩
    · rw [show decide (D ≤ 18446744073709551615) = false by simpa using q] at hn
      rw [show whV s i n a (.ok (posV D, j)) = .tuple #[sv s j n 41 (i : Int), lf 0 0 0 0 e0 0 0 0] by rw [whV, if_neg]; simp only [inR, posV]; split <;> simp <;> omega]
      go_enter Tryz.func29, Tryz.ntmps29
      go_wp2_with fail
      generalize hW1 : World.alloc (World.alloc (World.alloc W _) _) _ = W1
      have hx1 : Sy W W.heap.size s i n 0 a W1 := by
        subst hW1
        refine ⟨⟨?_, ?_, ((Gr.alloc _ _ _).trans (Gr.alloc _ _ _)).trans (Gr.alloc _ _ _)⟩, ?_⟩ <;> (simp only [al, World.size_alloc]; repeat (first | rw [if_pos trivial] | rw [if_pos (by omega)] | rw [if_neg (by omega)]))
      clear hW1
      refine (hi1 _).mono ?_
      rintro e w2 ⟨rfl, hg2⟩
      have hst2 := hx1.turn hg2
      obtain ⟨⟨x0, x1, x2, x3, x4⟩, xf⟩ := five hst2.sx.st
      go_wp2_with fail
      refine (hn _).mono ?_
      rintro e w3 ⟨⟨v, rfl, hv⟩, hg3⟩
      have hst3 := hst2.turn hg3
      obtain ⟨l0, l1, l2⟩ := hst3.lt
      obtain ⟨⟨x0, x1, x2, x3, x4⟩, xf⟩ := five hst3.sx.st
      obtain ⟨⟨y0, y1, y2, y3, y4⟩, yf⟩ := five hst3.sx.out
      obtain ⟨⟨z0, z1, z2, z3, z4, z5, z6, z7, z8⟩, zf⟩ := nine hst3.tm
      have hst4 := hst3.set (Nat.le_refl _) j n 0 a
      go_wp2_with fail
      refine (fail_new s j n a (i : Int) 41 _).mono ?_
      rintro e w4 ⟨rfl, hg4⟩
      have hst5 := hst4.turn hg4
      obtain ⟨l0, l1, l2⟩ := hst5.lt
      obtain ⟨⟨x0, x1, x2, x3, x4⟩, xf⟩ := five hst5.sx.st
      obtain ⟨⟨y0, y1, y2, y3, y4⟩, yf⟩ := five hst5.sx.out
      obtain ⟨⟨z0, z1, z2, z3, z4, z5, z6, z7, z8⟩, zf⟩ := nine hst5.tm
      go_wp2_with fail
      exact bodyPost_ret (v := .tuple #[sv s j n 41 (i : Int), lf 0 0 0 0 e0 0 0 0]) (by simp [results, Tryz.results29, go_sem, y0, y1, y2, y3, y4, z0, z1, z2, z3, z4, z5, z6, z7, z8, l0, l1, l2]) rfl ⟨rfl, ((hst5.sx.gr.set5 (g := W.heap.size + 1) (Nat.le_succ _) _ _ _ _ _).set9 (g := W.heap.size + 1 + 1) (by omega) _ _ _ _ _ _ _ _ _)⟩
set_option maxRecDepth 200000 in
set_option maxHeartbeats 3200000 in
theorem whole_neg (s : ByteArray) (hs : s.size ≤ 65536) (i n : Nat) (a : Int) (hi : i ≤ s.size) (h : pk s i = 45) (W : World) :
    Calls Tryz.prog 29 #[sv s i n 0 a] W fun e w' => e = .returned (whV s i n a (itg s i)) ∧ Gr (fun _ => False) W w' := by
  replace hs := Lib.hid hs
  have hI : (i : Int) ≤ 65536 := by have := hs.out; omega
  have hp := hi
  have hi1 := fun W => is_c s i n a 45 (by decide) W
  have hlt : i < s.size := lt_of_pk (by rw [h]; decide)
  replace hp : i + 1 ≤ s.size := hlt
  have hI2 : (i : Int) < 65536 := by have := hs.out; omega
  rw [show (pk s i == 45) = true by simpa using h] at hi1
  have hb1 := fun W => between_c s (i + 1) n a 49 57 (by decide) W
  cases h2 : btw (pk s (i + 1)) 49 57 with
  | false =>
    have e : itg s i = .error (i + 1) := by
      rw [itg, if_pos h]
      by_cases h3 : pk s (i + 1) = 48
      · rw [if_pos h3]
      · rw [if_neg h3, dgs, if_pos]
        simp [btw, dig] at h2 ⊢
        omega
    rw [e, show whV s i n a (.error (i + 1)) = .tuple #[sv s (i + 1) n 41 ((i + 1 : Nat) : Int), lf 0 0 0 0 e0 0 0 0] from rfl]
    rw [h2] at hb1
    clear e h h2
    go_enter Tryz.func29, Tryz.ntmps29
    go_wp2_with fail
    generalize hW1 : World.alloc (World.alloc (World.alloc W _) _) _ = W1
    have hx1 : Sy W W.heap.size s i n 0 a W1 := by
      subst hW1
      refine ⟨⟨?_, ?_, ((Gr.alloc _ _ _).trans (Gr.alloc _ _ _)).trans (Gr.alloc _ _ _)⟩, ?_⟩ <;> (simp only [al, World.size_alloc]; repeat (first | rw [if_pos trivial] | rw [if_pos (by omega)] | rw [if_neg (by omega)]))
    clear hW1
    refine (hi1 _).mono ?_
    rintro e w2 ⟨rfl, hg2⟩
    have hst2 := hx1.turn hg2
    obtain ⟨⟨x0, x1, x2, x3, x4⟩, xf⟩ := five hst2.sx.st
    have hst2b : Sy W W.heap.size s (i + 1) n 0 a (w2.setCell ⟨W.heap.size, 1, none⟩ (.int .i64 ((i : Int) + 1))) :=
      ⟨⟨heap_setCell_same w2 _ 1 _ 53 _ hst2.sx.st, (own1 w2 W.heap.size 1 _).keep hst2.sx.out (by omega), hst2.sx.gr.setNew (Nat.le_refl _)⟩, (own1 w2 W.heap.size 1 _).keep hst2.tm (by omega)⟩
    go_wp2_with fail
    refine (hb1 _).mono ?_
    rintro e w2c ⟨rfl, hg2c⟩
    have hst2c := hst2b.turn hg2c
    obtain ⟨⟨x0, x1, x2, x3, x4⟩, xf⟩ := five hst2c.sx.st
    go_wp2_with fail
    refine (fail_new s (i + 1) n a ((i + 1 : Nat) : Int) 41 _).mono ?_
    rintro e w4 ⟨rfl, hg4⟩
    have hst5 := hst2c.turn hg4
    obtain ⟨l0, l1, l2⟩ := hst5.lt
    obtain ⟨⟨x0, x1, x2, x3, x4⟩, xf⟩ := five hst5.sx.st
    obtain ⟨⟨y0, y1, y2, y3, y4⟩, yf⟩ := five hst5.sx.out
    obtain ⟨⟨z0, z1, z2, z3, z4, z5, z6, z7, z8⟩, zf⟩ := nine hst5.tm
    go_wp2_with fail
    exact bodyPost_ret (v := .tuple #[sv s (i + 1) n 41 ((i + 1 : Nat) : Int), lf 0 0 0 0 e0 0 0 0]) (by simp [results, Tryz.results29, go_sem, y0, y1, y2, y3, y4, z0, z1, z2, z3, z4, z5, z6, z7, z8, l0, l1, l2]) rfl ⟨rfl, ((hst5.sx.gr.set5 (g := W.heap.size + 1) (Nat.le_succ _) _ _ _ _ _).set9 (g := W.heap.size + 1 + 1) (by omega) _ _ _ _ _ _ _ _ _)⟩
  | true =>
    have hn := fun W => number_c s hs.out (i + 1) n a hp W
    have e : itg s i = match dgs s (i + 1) with
      | .error j => .error j
      | .ok j => .ok (negV (dvx s (i + 1) j), j) := by
      rw [itg, if_pos h, if_neg (by simp [btw] at h2; omega)]; rfl
    rw [e]
    rw [h2] at hb1
    obtain ⟨r, hr⟩ : ∃ r, dgs s (i + 1) = r := ⟨_, rfl⟩
    rw [hr] at hn ⊢
    clear e h h2
    cases r with
    | error j =>
      replace hn : ∀ W, Calls Tryz.prog 66 #[sv s (i + 1) n 0 a] W fun e w' => e = .returned (.tuple #[sv s j n 41 (j : Int), .int .u64 0, .bool true]) ∧ Gr (fun _ => False) W w' := hn
      rw [show whV s i n a (match (Except.error j : Except Nat Nat) with | .error j => .error j | .ok j => .ok (negV (dvx s (i + 1) j), j)) = .tuple #[sv s j n 41 (j : Int), lf 0 0 0 0 e0 0 0 0] from rfl]
      go_enter Tryz.func29, Tryz.ntmps29
      go_wp2_with fail
      generalize hW1 : World.alloc (World.alloc (World.alloc W _) _) _ = W1
      have hx1 : Sy W W.heap.size s i n 0 a W1 := by
        subst hW1
        refine ⟨⟨?_, ?_, ((Gr.alloc _ _ _).trans (Gr.alloc _ _ _)).trans (Gr.alloc _ _ _)⟩, ?_⟩ <;> (simp only [al, World.size_alloc]; repeat (first | rw [if_pos trivial] | rw [if_pos (by omega)] | rw [if_neg (by omega)]))
      clear hW1
      refine (hi1 _).mono ?_
      rintro e w2 ⟨rfl, hg2⟩
      have hst2 := hx1.turn hg2
      obtain ⟨⟨x0, x1, x2, x3, x4⟩, xf⟩ := five hst2.sx.st
      have hst2b : Sy W W.heap.size s (i + 1) n 0 a (w2.setCell ⟨W.heap.size, 1, none⟩ (.int .i64 ((i : Int) + 1))) :=
        ⟨⟨heap_setCell_same w2 _ 1 _ 53 _ hst2.sx.st, (own1 w2 W.heap.size 1 _).keep hst2.sx.out (by omega), hst2.sx.gr.setNew (Nat.le_refl _)⟩, (own1 w2 W.heap.size 1 _).keep hst2.tm (by omega)⟩
      go_wp2_with fail
      refine (hb1 _).mono ?_
      rintro e w2c ⟨rfl, hg2c⟩
      have hst2c := hst2b.turn hg2c
      obtain ⟨⟨x0, x1, x2, x3, x4⟩, xf⟩ := five hst2c.sx.st
      go_wp2_with fail
      refine (hn _).mono ?_
      rintro e w3 ⟨rfl, hg3⟩
      have hst3 := hst2c.turn hg3
      obtain ⟨l0, l1, l2⟩ := hst3.lt
      obtain ⟨⟨x0, x1, x2, x3, x4⟩, xf⟩ := five hst3.sx.st
      obtain ⟨⟨y0, y1, y2, y3, y4⟩, yf⟩ := five hst3.sx.out
      obtain ⟨⟨z0, z1, z2, z3, z4, z5, z6, z7, z8⟩, zf⟩ := nine hst3.tm
      have hst4 := hst3.set (Nat.le_refl _) j n 41 (j : Int)
      go_wp2_with fail
      exact bodyPost_ret (v := .tuple #[sv s j n 41 (j : Int), lf 0 0 0 0 e0 0 0 0]) (by simp [results, Tryz.results29, go_sem, y0, y1, y2, y3, y4, z0, z1, z2, z3, z4, z5, z6, z7, z8, l0, l1, l2]) rfl ⟨rfl, ((hst4.sx.gr.set5 (g := W.heap.size + 1) (Nat.le_succ _) _ _ _ _ _).set9 (g := W.heap.size + 1 + 1) (by omega) _ _ _ _ _ _ _ _ _)⟩
    | ok j =>
      have hD0 := dvx_nonneg hp hr
      clear hr
      replace hn : ∀ W, Calls Tryz.prog 66 #[sv s (i + 1) n 0 a] W fun e w' => (∃ v, e = .returned (.tuple #[sv s j n 0 a, .int .u64 v, .bool (decide (dvx s (i + 1) j ≤ 18446744073709551615))]) ∧ (dvx s (i + 1) j ≤ 18446744073709551615 → v = dvx s (i + 1) j)) ∧ Gr (fun _ => False) W w' := hn
      show Calls Tryz.prog 29 _ W fun e w' => e = .returned (whV s i n a (.ok (negV (dvx s (i + 1) j), j))) ∧ Gr (fun _ => False) W w'
      obtain ⟨D, hD⟩ : ∃ D, dvx s (i + 1) j = D := ⟨_, rfl⟩
      rw [hD] at hn hD0 ⊢
      clear hD
      by_cases q : D ≤ 18446744073709551615
      · rw [show decide (D ≤ 18446744073709551615) = true by simpa using q] at hn
        by_cases g1 : 4611686018427387904 < D
        · rw [show whV s i n a (.ok (negV D, j)) = .tuple #[sv s j n 41 (i : Int), lf 0 0 0 0 e0 0 0 0] by rw [whV, if_neg]; simp only [inR, negV]; split <;> simp <;> omega]
          have g2 : decide (4611686018427387904 < D) = true := by simpa using g1
          go_enter Tryz.func29, Tryz.ntmps29
          go_wp2_with fail
          generalize hW1 : World.alloc (World.alloc (World.alloc W _) _) _ = W1
          have hx1 : Sy W W.heap.size s i n 0 a W1 := by
            subst hW1
            refine ⟨⟨?_, ?_, ((Gr.alloc _ _ _).trans (Gr.alloc _ _ _)).trans (Gr.alloc _ _ _)⟩, ?_⟩ <;> (simp only [al, World.size_alloc]; repeat (first | rw [if_pos trivial] | rw [if_pos (by omega)] | rw [if_neg (by omega)]))
          clear hW1
          refine (hi1 _).mono ?_
          rintro e w2 ⟨rfl, hg2⟩
          have hst2 := hx1.turn hg2
          obtain ⟨⟨x0, x1, x2, x3, x4⟩, xf⟩ := five hst2.sx.st
          have hst2b : Sy W W.heap.size s (i + 1) n 0 a (w2.setCell ⟨W.heap.size, 1, none⟩ (.int .i64 ((i : Int) + 1))) :=
            ⟨⟨heap_setCell_same w2 _ 1 _ 53 _ hst2.sx.st, (own1 w2 W.heap.size 1 _).keep hst2.sx.out (by omega), hst2.sx.gr.setNew (Nat.le_refl _)⟩, (own1 w2 W.heap.size 1 _).keep hst2.tm (by omega)⟩
          go_wp2_with fail
          refine (hb1 _).mono ?_
          rintro e w2c ⟨rfl, hg2c⟩
          have hst2c := hst2b.turn hg2c
          obtain ⟨⟨x0, x1, x2, x3, x4⟩, xf⟩ := five hst2c.sx.st
          go_wp2_with fail
          refine (hn _).mono ?_
          rintro e w3 ⟨⟨v, rfl, hv⟩, hg3⟩
          have hst3 := hst2c.turn hg3
          obtain ⟨l0, l1, l2⟩ := hst3.lt
          obtain ⟨⟨x0, x1, x2, x3, x4⟩, xf⟩ := five hst3.sx.st
          obtain ⟨⟨y0, y1, y2, y3, y4⟩, yf⟩ := five hst3.sx.out
          obtain ⟨⟨z0, z1, z2, z3, z4, z5, z6, z7, z8⟩, zf⟩ := nine hst3.tm
          have hv := hv q
          subst hv
          have hst4 := hst3.set (Nat.le_refl _) j n 0 a
          go_wp2_with fail
          refine (fail_new s j n a (i : Int) 41 _).mono ?_
          rintro e w4 ⟨rfl, hg4⟩
          have hst5 := hst4.turn hg4
          obtain ⟨l0, l1, l2⟩ := hst5.lt
          obtain ⟨⟨x0, x1, x2, x3, x4⟩, xf⟩ := five hst5.sx.st
          obtain ⟨⟨y0, y1, y2, y3, y4⟩, yf⟩ := five hst5.sx.out
          obtain ⟨⟨z0, z1, z2, z3, z4, z5, z6, z7, z8⟩, zf⟩ := nine hst5.tm
          go_wp2_with fail
          exact bodyPost_ret (v := .tuple #[sv s j n 41 (i : Int), lf 0 0 0 0 e0 0 0 0]) (by simp [results, Tryz.results29, go_sem, y0, y1, y2, y3, y4, z0, z1, z2, z3, z4, z5, z6, z7, z8, l0, l1, l2]) rfl ⟨rfl, ((hst5.sx.gr.set5 (g := W.heap.size + 1) (Nat.le_succ _) _ _ _ _ _).set9 (g := W.heap.size + 1 + 1) (by omega) _ _ _ _ _ _ _ _ _)⟩
        have g2 : decide (4611686018427387904 < D) = false := by simpa using g1
        by_cases g3 : D = 4611686018427387904
        · subst g3
          rw [show whV s i n a (.ok (negV 4611686018427387904, j)) = .tuple #[sv s j n 0 a, lf 1 (-4611686018427387904) 0 0 e0 0 0 0] from rfl]
          go_enter Tryz.func29, Tryz.ntmps29
          go_wp2_with fail
          generalize hW1 : World.alloc (World.alloc (World.alloc W _) _) _ = W1
          have hx1 : Sy W W.heap.size s i n 0 a W1 := by
            subst hW1
            refine ⟨⟨?_, ?_, ((Gr.alloc _ _ _).trans (Gr.alloc _ _ _)).trans (Gr.alloc _ _ _)⟩, ?_⟩ <;> (simp only [al, World.size_alloc]; repeat (first | rw [if_pos trivial] | rw [if_pos (by omega)] | rw [if_neg (by omega)]))
          clear hW1
          refine (hi1 _).mono ?_
          rintro e w2 ⟨rfl, hg2⟩
          have hst2 := hx1.turn hg2
          obtain ⟨⟨x0, x1, x2, x3, x4⟩, xf⟩ := five hst2.sx.st
          have hst2b : Sy W W.heap.size s (i + 1) n 0 a (w2.setCell ⟨W.heap.size, 1, none⟩ (.int .i64 ((i : Int) + 1))) :=
            ⟨⟨heap_setCell_same w2 _ 1 _ 53 _ hst2.sx.st, (own1 w2 W.heap.size 1 _).keep hst2.sx.out (by omega), hst2.sx.gr.setNew (Nat.le_refl _)⟩, (own1 w2 W.heap.size 1 _).keep hst2.tm (by omega)⟩
          go_wp2_with fail
          refine (hb1 _).mono ?_
          rintro e w2c ⟨rfl, hg2c⟩
          have hst2c := hst2b.turn hg2c
          obtain ⟨⟨x0, x1, x2, x3, x4⟩, xf⟩ := five hst2c.sx.st
          go_wp2_with fail
          refine (hn _).mono ?_
          rintro e w3 ⟨⟨v, rfl, hv⟩, hg3⟩
          have hst3 := hst2c.turn hg3
          obtain ⟨l0, l1, l2⟩ := hst3.lt
          obtain ⟨⟨x0, x1, x2, x3, x4⟩, xf⟩ := five hst3.sx.st
          obtain ⟨⟨y0, y1, y2, y3, y4⟩, yf⟩ := five hst3.sx.out
          obtain ⟨⟨z0, z1, z2, z3, z4, z5, z6, z7, z8⟩, zf⟩ := nine hst3.tm
          have hv := hv q
          subst hv
          have hst4 := hst3.set (Nat.le_refl _) j n 0 a
          go_wp2_with fail
          exact bodyPost_ret (v := .tuple #[sv s j n 0 a, lf 1 (-4611686018427387904) 0 0 e0 0 0 0]) (by simp [results, Tryz.results29, go_sem, y0, y1, y2, y3, y4, z0, z1, z2, z3, z4, z5, z6, z7, z8, l0, l1, l2]) rfl ⟨rfl, ((hst4.sx.gr.set5 (g := W.heap.size + 1) (Nat.le_succ _) _ _ _ _ _).set9 (g := W.heap.size + 1 + 1) (by omega) _ _ _ _ _ _ _ _ _)⟩
        have g4 : (D == 4611686018427387904) = false := by simpa using g3
        have g5 : D < 4611686018427387904 := by omega
        rw [show whV s i n a (.ok (negV D, j)) = .tuple #[sv s j n 0 a, lf 1 (-D) 0 0 e0 0 0 0] by rw [show negV D = -D by rw [negV, if_pos (by omega)], whV, if_pos]; simp [inR]; omega]
        go_enter Tryz.func29, Tryz.ntmps29
        go_wp2_with fail
        generalize hW1 : World.alloc (World.alloc (World.alloc W _) _) _ = W1
        have hx1 : Sy W W.heap.size s i n 0 a W1 := by
          subst hW1
          refine ⟨⟨?_, ?_, ((Gr.alloc _ _ _).trans (Gr.alloc _ _ _)).trans (Gr.alloc _ _ _)⟩, ?_⟩ <;> (simp only [al, World.size_alloc]; repeat (first | rw [if_pos trivial] | rw [if_pos (by omega)] | rw [if_neg (by omega)]))
        clear hW1
        refine (hi1 _).mono ?_
        rintro e w2 ⟨rfl, hg2⟩
        have hst2 := hx1.turn hg2
        obtain ⟨⟨x0, x1, x2, x3, x4⟩, xf⟩ := five hst2.sx.st
        have hst2b : Sy W W.heap.size s (i + 1) n 0 a (w2.setCell ⟨W.heap.size, 1, none⟩ (.int .i64 ((i : Int) + 1))) :=
          ⟨⟨heap_setCell_same w2 _ 1 _ 53 _ hst2.sx.st, (own1 w2 W.heap.size 1 _).keep hst2.sx.out (by omega), hst2.sx.gr.setNew (Nat.le_refl _)⟩, (own1 w2 W.heap.size 1 _).keep hst2.tm (by omega)⟩
        go_wp2_with fail
        refine (hb1 _).mono ?_
        rintro e w2c ⟨rfl, hg2c⟩
        have hst2c := hst2b.turn hg2c
        obtain ⟨⟨x0, x1, x2, x3, x4⟩, xf⟩ := five hst2c.sx.st
        go_wp2_with fail
        refine (hn _).mono ?_
        rintro e w3 ⟨⟨v, rfl, hv⟩, hg3⟩
        have hst3 := hst2c.turn hg3
        obtain ⟨l0, l1, l2⟩ := hst3.lt
        obtain ⟨⟨x0, x1, x2, x3, x4⟩, xf⟩ := five hst3.sx.st
        obtain ⟨⟨y0, y1, y2, y3, y4⟩, yf⟩ := five hst3.sx.out
        obtain ⟨⟨z0, z1, z2, z3, z4, z5, z6, z7, z8⟩, zf⟩ := nine hst3.tm
        have hv := hv q
        subst hv
        have hst4 := hst3.set (Nat.le_refl _) j n 0 a
        go_wp2_with fail
        exact bodyPost_ret (v := .tuple #[sv s j n 0 a, lf 1 (-v) 0 0 e0 0 0 0]) (by simp [results, Tryz.results29, go_sem, y0, y1, y2, y3, y4, z0, z1, z2, z3, z4, z5, z6, z7, z8, l0, l1, l2]) rfl ⟨rfl, ((hst4.sx.gr.set5 (g := W.heap.size + 1) (Nat.le_succ _) _ _ _ _ _).set9 (g := W.heap.size + 1 + 1) (by omega) _ _ _ _ _ _ _ _ _)⟩
      · rw [show decide (D ≤ 18446744073709551615) = false by simpa using q] at hn
        rw [show whV s i n a (.ok (negV D, j)) = .tuple #[sv s j n 41 (i : Int), lf 0 0 0 0 e0 0 0 0] by rw [whV, if_neg]; simp only [inR, negV]; split <;> simp <;> omega]
        go_enter Tryz.func29, Tryz.ntmps29
        go_wp2_with fail
        generalize hW1 : World.alloc (World.alloc (World.alloc W _) _) _ = W1
        have hx1 : Sy W W.heap.size s i n 0 a W1 := by
          subst hW1
          refine ⟨⟨?_, ?_, ((Gr.alloc _ _ _).trans (Gr.alloc _ _ _)).trans (Gr.alloc _ _ _)⟩, ?_⟩ <;> (simp only [al, World.size_alloc]; repeat (first | rw [if_pos trivial] | rw [if_pos (by omega)] | rw [if_neg (by omega)]))
        clear hW1
        refine (hi1 _).mono ?_
        rintro e w2 ⟨rfl, hg2⟩
        have hst2 := hx1.turn hg2
        obtain ⟨⟨x0, x1, x2, x3, x4⟩, xf⟩ := five hst2.sx.st
        have hst2b : Sy W W.heap.size s (i + 1) n 0 a (w2.setCell ⟨W.heap.size, 1, none⟩ (.int .i64 ((i : Int) + 1))) :=
          ⟨⟨heap_setCell_same w2 _ 1 _ 53 _ hst2.sx.st, (own1 w2 W.heap.size 1 _).keep hst2.sx.out (by omega), hst2.sx.gr.setNew (Nat.le_refl _)⟩, (own1 w2 W.heap.size 1 _).keep hst2.tm (by omega)⟩
        go_wp2_with fail
        refine (hb1 _).mono ?_
        rintro e w2c ⟨rfl, hg2c⟩
        have hst2c := hst2b.turn hg2c
        obtain ⟨⟨x0, x1, x2, x3, x4⟩, xf⟩ := five hst2c.sx.st
        go_wp2_with fail
        refine (hn _).mono ?_
        rintro e w3 ⟨⟨v, rfl, hv⟩, hg3⟩
        have hst3 := hst2c.turn hg3
        obtain ⟨l0, l1, l2⟩ := hst3.lt
        obtain ⟨⟨x0, x1, x2, x3, x4⟩, xf⟩ := five hst3.sx.st
        obtain ⟨⟨y0, y1, y2, y3, y4⟩, yf⟩ := five hst3.sx.out
        obtain ⟨⟨z0, z1, z2, z3, z4, z5, z6, z7, z8⟩, zf⟩ := nine hst3.tm
        have hst4 := hst3.set (Nat.le_refl _) j n 0 a
        go_wp2_with fail
        refine (fail_new s j n a (i : Int) 41 _).mono ?_
        rintro e w4 ⟨rfl, hg4⟩
        have hst5 := hst4.turn hg4
        obtain ⟨l0, l1, l2⟩ := hst5.lt
        obtain ⟨⟨x0, x1, x2, x3, x4⟩, xf⟩ := five hst5.sx.st
        obtain ⟨⟨y0, y1, y2, y3, y4⟩, yf⟩ := five hst5.sx.out
        obtain ⟨⟨z0, z1, z2, z3, z4, z5, z6, z7, z8⟩, zf⟩ := nine hst5.tm
        go_wp2_with fail
        exact bodyPost_ret (v := .tuple #[sv s j n 41 (i : Int), lf 0 0 0 0 e0 0 0 0]) (by simp [results, Tryz.results29, go_sem, y0, y1, y2, y3, y4, z0, z1, z2, z3, z4, z5, z6, z7, z8, l0, l1, l2]) rfl ⟨rfl, ((hst5.sx.gr.set5 (g := W.heap.size + 1) (Nat.le_succ _) _ _ _ _ _).set9 (g := W.heap.size + 1 + 1) (by omega) _ _ _ _ _ _ _ _ _)⟩
theorem whole_r (s : ByteArray) (hs : s.size ≤ 65536) (i n : Nat) (a : Int) (hi : i ≤ s.size) (W : World) :
    Calls Tryz.prog 29 #[sv s i n 0 a] W fun e w' => e = .returned (whV s i n a (itg s i)) ∧ Gr (fun _ => False) W w' := by
  by_cases h : pk s i = 45
  · exact whole_neg s hs i n a hi h W
  · exact whole_pos s hs i n a hi h W
end Go.Proofs.YtdmichjhmfinpaaGreatDoor
