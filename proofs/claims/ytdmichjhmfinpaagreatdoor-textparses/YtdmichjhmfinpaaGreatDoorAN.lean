/-
  The reference's reader: an id.
-/
import Derived.Test.YtdmichjhmfinpaaGreatDoorAM
set_option linter.unusedVariables false
set_option linter.unusedSimpArgs false
namespace Go.Proofs.YtdmichjhmfinpaaGreatDoor
open Go.RowKit Go.Maps

/-- What the reference answers at an id. -/
def idR (s : ByteArray) (n : Nat) (a t kd : Int) : Except Nat (Int × Int × Int × Nat) → Value
  | .error j => .tuple #[sv s j n 41 (j : Int), lf 0 0 0 0 e0 0 0 0]
  | .ok (x, y, z, j) => if idOk x y z = true then .tuple #[sv s j n 0 a, lf kd 0 0 0 e0 x y z] else .tuple #[sv s j n 41 t, lf 0 0 0 0 e0 0 0 0]

set_option maxRecDepth 200000 in
set_option maxHeartbeats 6400000 in
theorem id_r (s : ByteArray) (hs : s.size ≤ 65536) (i n : Nat) (hi : i ≤ s.size) (a t kd : Int) (W : World) :
    Calls Tryz.prog 31 #[sv s i n 0 a, .int .i64 t, .int .i64 kd] W fun e w' => e = .returned (idR s n a t kd (ids s i)) ∧ Gr (fun _ => False) W w' := by
  have f1 := fun W => number_c s hs i n a hi W
  unfold ids
  cases h1 : dgs s i with
  | error j =>
    rw [h1] at f1
    replace f1 : ∀ W, Calls Tryz.prog 66 #[sv s (i) n 0 a] W fun e w' => e = .returned (.tuple #[sv s j n 41 (j : Int), .int .u64 0, .bool true]) ∧ Gr (fun _ => False) W w' := f1
    show Calls Tryz.prog 31 _ W fun e w' => e = .returned (.tuple #[sv s j n 41 (j : Int), lf 0 0 0 0 e0 0 0 0]) ∧ Gr (fun _ => False) W w'
    clear h1
    go_enter Tryz.func31, Tryz.ntmps31
    go_wp2_with fail
    generalize hW1 : World.alloc (World.alloc (World.alloc W _) _) _ = W1
    have b0 : Sy W W.heap.size s i n 0 a W1 := by
      subst hW1
      refine ⟨⟨?_, ?_, ((Gr.alloc _ _ _).trans (Gr.alloc _ _ _)).trans (Gr.alloc _ _ _)⟩, ?_⟩ <;> (simp only [al, World.size_alloc]; repeat (first | rw [if_pos trivial] | rw [if_pos (by omega)] | rw [if_neg (by omega)]))
    clear hW1
    refine (f1 _).mono ?_
    rintro e w1 ⟨rfl, g1⟩
    have a1 := b0.turn g1
    clear b0 g1
    obtain ⟨l0, l1, l2⟩ := a1.lt
    obtain ⟨⟨x0, x1, x2, x3, x4⟩, xf⟩ := five a1.sx.st
    obtain ⟨⟨y0, y1, y2, y3, y4⟩, yf⟩ := five a1.sx.out
    obtain ⟨⟨z0, z1, z2, z3, z4, z5, z6, z7, z8⟩, zf⟩ := nine a1.tm
    have b1 := a1.set (Nat.le_refl _) j n 41 (j : Int)
    clear a1
    go_wp2_with fail
    refine (want_old s j n 41 (j : Int) 46 (by decide) _).mono ?_
    rintro e w2 ⟨rfl, g2⟩
    have a2 := b1.turn g2
    clear b1 g2
    obtain ⟨l0, l1, l2⟩ := a2.lt
    obtain ⟨⟨x0, x1, x2, x3, x4⟩, xf⟩ := five a2.sx.st
    obtain ⟨⟨y0, y1, y2, y3, y4⟩, yf⟩ := five a2.sx.out
    obtain ⟨⟨z0, z1, z2, z3, z4, z5, z6, z7, z8⟩, zf⟩ := nine a2.tm
    have b2 := a2.set (Nat.le_refl _) j n 41 (j : Int)
    clear a2
    go_wp2_with fail
    refine (number_old s j n 41 (j : Int) (by decide) _).mono ?_
    rintro e w3 ⟨rfl, g3⟩
    have a3 := b2.turn g3
    clear b2 g3
    obtain ⟨l0, l1, l2⟩ := a3.lt
    obtain ⟨⟨x0, x1, x2, x3, x4⟩, xf⟩ := five a3.sx.st
    obtain ⟨⟨y0, y1, y2, y3, y4⟩, yf⟩ := five a3.sx.out
    obtain ⟨⟨z0, z1, z2, z3, z4, z5, z6, z7, z8⟩, zf⟩ := nine a3.tm
    have b3 := a3.set (Nat.le_refl _) j n 41 (j : Int)
    clear a3
    go_wp2_with fail
    refine (want_old s j n 41 (j : Int) 46 (by decide) _).mono ?_
    rintro e w4 ⟨rfl, g4⟩
    have a4 := b3.turn g4
    clear b3 g4
    obtain ⟨l0, l1, l2⟩ := a4.lt
    obtain ⟨⟨x0, x1, x2, x3, x4⟩, xf⟩ := five a4.sx.st
    obtain ⟨⟨y0, y1, y2, y3, y4⟩, yf⟩ := five a4.sx.out
    obtain ⟨⟨z0, z1, z2, z3, z4, z5, z6, z7, z8⟩, zf⟩ := nine a4.tm
    have b4 := a4.set (Nat.le_refl _) j n 41 (j : Int)
    clear a4
    go_wp2_with fail
    refine (number_old s j n 41 (j : Int) (by decide) _).mono ?_
    rintro e w5 ⟨rfl, g5⟩
    have a5 := b4.turn g5
    clear b4 g5
    obtain ⟨l0, l1, l2⟩ := a5.lt
    obtain ⟨⟨x0, x1, x2, x3, x4⟩, xf⟩ := five a5.sx.st
    obtain ⟨⟨y0, y1, y2, y3, y4⟩, yf⟩ := five a5.sx.out
    obtain ⟨⟨z0, z1, z2, z3, z4, z5, z6, z7, z8⟩, zf⟩ := nine a5.tm
    have b5 := a5.set (Nat.le_refl _) j n 41 (j : Int)
    clear a5
    go_wp2_with fail
    exact bodyPost_ret (v := .tuple #[sv s j n 41 (j : Int), lf 0 0 0 0 e0 0 0 0]) (by simp [results, Tryz.results31, go_sem, y0, y1, y2, y3, y4, z0, z1, z2, z3, z4, z5, z6, z7, z8, l0, l1, l2]) rfl ⟨rfl, ((b5.sx.gr.set5 (g := W.heap.size + 1) (Nat.le_succ _) _ _ _ _ _).set9 (g := W.heap.size + 1 + 1) (by omega) _ _ _ _ _ _ _ _ _)⟩
  | ok j =>
    rw [h1] at f1
    have d1 := dvx_nonneg hi h1
    have j1 := (dgs_ok hi h1).2.2.1
    clear h1
    replace f1 : ∀ W, Calls Tryz.prog 66 #[sv s (i) n 0 a] W fun e w' => (∃ v, e = .returned (.tuple #[sv s j n 0 a, .int .u64 v, .bool (decide (dvx s (i) j ≤ 18446744073709551615))]) ∧ (dvx s (i) j ≤ 18446744073709551615 → v = dvx s (i) j)) ∧ Gr (fun _ => False) W w' := f1
    by_cases h2 : pk s j = 46
    case neg =>
      simp only [if_neg h2]
      show Calls Tryz.prog 31 _ W fun e w' => e = .returned (.tuple #[sv s j n 41 (j : Int), lf 0 0 0 0 e0 0 0 0]) ∧ Gr (fun _ => False) W w'
      have f2 := fun W => want_no s j n a 46 (by decide) h2 W
      clear h2
      go_enter Tryz.func31, Tryz.ntmps31
      go_wp2_with fail
      generalize hW1 : World.alloc (World.alloc (World.alloc W _) _) _ = W1
      have b0 : Sy W W.heap.size s i n 0 a W1 := by
        subst hW1
        refine ⟨⟨?_, ?_, ((Gr.alloc _ _ _).trans (Gr.alloc _ _ _)).trans (Gr.alloc _ _ _)⟩, ?_⟩ <;> (simp only [al, World.size_alloc]; repeat (first | rw [if_pos trivial] | rw [if_pos (by omega)] | rw [if_neg (by omega)]))
      clear hW1
      refine (f1 _).mono ?_
      rintro e w1 ⟨⟨v1, rfl, hv1⟩, g1⟩
      have a1 := b0.turn g1
      clear b0 g1
      obtain ⟨l0, l1, l2⟩ := a1.lt
      obtain ⟨⟨x0, x1, x2, x3, x4⟩, xf⟩ := five a1.sx.st
      obtain ⟨⟨y0, y1, y2, y3, y4⟩, yf⟩ := five a1.sx.out
      obtain ⟨⟨z0, z1, z2, z3, z4, z5, z6, z7, z8⟩, zf⟩ := nine a1.tm
      have b1 := a1.set (Nat.le_refl _) j n 0 a
      clear a1
      go_wp2_with fail
      refine (f2 _).mono ?_
      rintro e w2 ⟨rfl, g2⟩
      have a2 := b1.turn g2
      clear b1 g2
      obtain ⟨l0, l1, l2⟩ := a2.lt
      obtain ⟨⟨x0, x1, x2, x3, x4⟩, xf⟩ := five a2.sx.st
      obtain ⟨⟨y0, y1, y2, y3, y4⟩, yf⟩ := five a2.sx.out
      obtain ⟨⟨z0, z1, z2, z3, z4, z5, z6, z7, z8⟩, zf⟩ := nine a2.tm
      have b2 := a2.set (Nat.le_refl _) j n 41 (j : Int)
      clear a2
      go_wp2_with fail
      refine (number_old s j n 41 (j : Int) (by decide) _).mono ?_
      rintro e w3 ⟨rfl, g3⟩
      have a3 := b2.turn g3
      clear b2 g3
      obtain ⟨l0, l1, l2⟩ := a3.lt
      obtain ⟨⟨x0, x1, x2, x3, x4⟩, xf⟩ := five a3.sx.st
      obtain ⟨⟨y0, y1, y2, y3, y4⟩, yf⟩ := five a3.sx.out
      obtain ⟨⟨z0, z1, z2, z3, z4, z5, z6, z7, z8⟩, zf⟩ := nine a3.tm
      have b3 := a3.set (Nat.le_refl _) j n 41 (j : Int)
      clear a3
      go_wp2_with fail
      refine (want_old s j n 41 (j : Int) 46 (by decide) _).mono ?_
      rintro e w4 ⟨rfl, g4⟩
      have a4 := b3.turn g4
      clear b3 g4
      obtain ⟨l0, l1, l2⟩ := a4.lt
      obtain ⟨⟨x0, x1, x2, x3, x4⟩, xf⟩ := five a4.sx.st
      obtain ⟨⟨y0, y1, y2, y3, y4⟩, yf⟩ := five a4.sx.out
      obtain ⟨⟨z0, z1, z2, z3, z4, z5, z6, z7, z8⟩, zf⟩ := nine a4.tm
      have b4 := a4.set (Nat.le_refl _) j n 41 (j : Int)
      clear a4
      go_wp2_with fail
      refine (number_old s j n 41 (j : Int) (by decide) _).mono ?_
      rintro e w5 ⟨rfl, g5⟩
      have a5 := b4.turn g5
      clear b4 g5
      obtain ⟨l0, l1, l2⟩ := a5.lt
      obtain ⟨⟨x0, x1, x2, x3, x4⟩, xf⟩ := five a5.sx.st
      obtain ⟨⟨y0, y1, y2, y3, y4⟩, yf⟩ := five a5.sx.out
      obtain ⟨⟨z0, z1, z2, z3, z4, z5, z6, z7, z8⟩, zf⟩ := nine a5.tm
      have b5 := a5.set (Nat.le_refl _) j n 41 (j : Int)
      clear a5
      go_wp2_with fail
      exact bodyPost_ret (v := .tuple #[sv s j n 41 (j : Int), lf 0 0 0 0 e0 0 0 0]) (by simp [results, Tryz.results31, go_sem, y0, y1, y2, y3, y4, z0, z1, z2, z3, z4, z5, z6, z7, z8, l0, l1, l2]) rfl ⟨rfl, ((b5.sx.gr.set5 (g := W.heap.size + 1) (Nat.le_succ _) _ _ _ _ _).set9 (g := W.heap.size + 1 + 1) (by omega) _ _ _ _ _ _ _ _ _)⟩
    have f2 := fun W => want_yes s j n a 46 (by decide) hs h2 W
    have k1 : j + 1 ≤ s.size := lt_of_pk (by rw [h2]; decide)
    have f3 := fun W => number_c s hs (j + 1) n a k1 W
    simp only [if_pos h2]
    clear h2
    cases h3 : dgs s (j + 1) with
    | error k =>
      rw [h3] at f3
      replace f3 : ∀ W, Calls Tryz.prog 66 #[sv s (j + 1) n 0 a] W fun e w' => e = .returned (.tuple #[sv s k n 41 (k : Int), .int .u64 0, .bool true]) ∧ Gr (fun _ => False) W w' := f3
      show Calls Tryz.prog 31 _ W fun e w' => e = .returned (.tuple #[sv s k n 41 (k : Int), lf 0 0 0 0 e0 0 0 0]) ∧ Gr (fun _ => False) W w'
      clear h3
      go_enter Tryz.func31, Tryz.ntmps31
      go_wp2_with fail
      generalize hW1 : World.alloc (World.alloc (World.alloc W _) _) _ = W1
      have b0 : Sy W W.heap.size s i n 0 a W1 := by
        subst hW1
        refine ⟨⟨?_, ?_, ((Gr.alloc _ _ _).trans (Gr.alloc _ _ _)).trans (Gr.alloc _ _ _)⟩, ?_⟩ <;> (simp only [al, World.size_alloc]; repeat (first | rw [if_pos trivial] | rw [if_pos (by omega)] | rw [if_neg (by omega)]))
      clear hW1
      refine (f1 _).mono ?_
      rintro e w1 ⟨⟨v1, rfl, hv1⟩, g1⟩
      have a1 := b0.turn g1
      clear b0 g1
      obtain ⟨l0, l1, l2⟩ := a1.lt
      obtain ⟨⟨x0, x1, x2, x3, x4⟩, xf⟩ := five a1.sx.st
      obtain ⟨⟨y0, y1, y2, y3, y4⟩, yf⟩ := five a1.sx.out
      obtain ⟨⟨z0, z1, z2, z3, z4, z5, z6, z7, z8⟩, zf⟩ := nine a1.tm
      have b1 := a1.set (Nat.le_refl _) j n 0 a
      clear a1
      go_wp2_with fail
      refine (f2 _).mono ?_
      rintro e w2 ⟨rfl, g2⟩
      have a2 := b1.turn g2
      clear b1 g2
      obtain ⟨l0, l1, l2⟩ := a2.lt
      obtain ⟨⟨x0, x1, x2, x3, x4⟩, xf⟩ := five a2.sx.st
      obtain ⟨⟨y0, y1, y2, y3, y4⟩, yf⟩ := five a2.sx.out
      obtain ⟨⟨z0, z1, z2, z3, z4, z5, z6, z7, z8⟩, zf⟩ := nine a2.tm
      have b2 := a2.set (Nat.le_refl _) (j + 1) n 0 a
      clear a2
      go_wp2_with fail
      refine (f3 _).mono ?_
      rintro e w3 ⟨rfl, g3⟩
      have a3 := b2.turn g3
      clear b2 g3
      obtain ⟨l0, l1, l2⟩ := a3.lt
      obtain ⟨⟨x0, x1, x2, x3, x4⟩, xf⟩ := five a3.sx.st
      obtain ⟨⟨y0, y1, y2, y3, y4⟩, yf⟩ := five a3.sx.out
      obtain ⟨⟨z0, z1, z2, z3, z4, z5, z6, z7, z8⟩, zf⟩ := nine a3.tm
      have b3 := a3.set (Nat.le_refl _) k n 41 (k : Int)
      clear a3
      go_wp2_with fail
      refine (want_old s k n 41 (k : Int) 46 (by decide) _).mono ?_
      rintro e w4 ⟨rfl, g4⟩
      have a4 := b3.turn g4
      clear b3 g4
      obtain ⟨l0, l1, l2⟩ := a4.lt
      obtain ⟨⟨x0, x1, x2, x3, x4⟩, xf⟩ := five a4.sx.st
      obtain ⟨⟨y0, y1, y2, y3, y4⟩, yf⟩ := five a4.sx.out
      obtain ⟨⟨z0, z1, z2, z3, z4, z5, z6, z7, z8⟩, zf⟩ := nine a4.tm
      have b4 := a4.set (Nat.le_refl _) k n 41 (k : Int)
      clear a4
      go_wp2_with fail
      refine (number_old s k n 41 (k : Int) (by decide) _).mono ?_
      rintro e w5 ⟨rfl, g5⟩
      have a5 := b4.turn g5
      clear b4 g5
      obtain ⟨l0, l1, l2⟩ := a5.lt
      obtain ⟨⟨x0, x1, x2, x3, x4⟩, xf⟩ := five a5.sx.st
      obtain ⟨⟨y0, y1, y2, y3, y4⟩, yf⟩ := five a5.sx.out
      obtain ⟨⟨z0, z1, z2, z3, z4, z5, z6, z7, z8⟩, zf⟩ := nine a5.tm
      have b5 := a5.set (Nat.le_refl _) k n 41 (k : Int)
      clear a5
      go_wp2_with fail
      exact bodyPost_ret (v := .tuple #[sv s k n 41 (k : Int), lf 0 0 0 0 e0 0 0 0]) (by simp [results, Tryz.results31, go_sem, y0, y1, y2, y3, y4, z0, z1, z2, z3, z4, z5, z6, z7, z8, l0, l1, l2]) rfl ⟨rfl, ((b5.sx.gr.set5 (g := W.heap.size + 1) (Nat.le_succ _) _ _ _ _ _).set9 (g := W.heap.size + 1 + 1) (by omega) _ _ _ _ _ _ _ _ _)⟩
    | ok k =>
      rw [h3] at f3
      have d2 := dvx_nonneg k1 h3
      have j2 := (dgs_ok k1 h3).2.2.1
      clear h3
      replace f3 : ∀ W, Calls Tryz.prog 66 #[sv s (j + 1) n 0 a] W fun e w' => (∃ v, e = .returned (.tuple #[sv s k n 0 a, .int .u64 v, .bool (decide (dvx s (j + 1) k ≤ 18446744073709551615))]) ∧ (dvx s (j + 1) k ≤ 18446744073709551615 → v = dvx s (j + 1) k)) ∧ Gr (fun _ => False) W w' := f3
      by_cases h4 : pk s k = 46
      case neg =>
        simp only [if_neg h4]
        show Calls Tryz.prog 31 _ W fun e w' => e = .returned (.tuple #[sv s k n 41 (k : Int), lf 0 0 0 0 e0 0 0 0]) ∧ Gr (fun _ => False) W w'
        have f4 := fun W => want_no s k n a 46 (by decide) h4 W
        clear h4
        go_enter Tryz.func31, Tryz.ntmps31
        go_wp2_with fail
        generalize hW1 : World.alloc (World.alloc (World.alloc W _) _) _ = W1
        have b0 : Sy W W.heap.size s i n 0 a W1 := by
          subst hW1
          refine ⟨⟨?_, ?_, ((Gr.alloc _ _ _).trans (Gr.alloc _ _ _)).trans (Gr.alloc _ _ _)⟩, ?_⟩ <;> (simp only [al, World.size_alloc]; repeat (first | rw [if_pos trivial] | rw [if_pos (by omega)] | rw [if_neg (by omega)]))
        clear hW1
        refine (f1 _).mono ?_
        rintro e w1 ⟨⟨v1, rfl, hv1⟩, g1⟩
        have a1 := b0.turn g1
        clear b0 g1
        obtain ⟨l0, l1, l2⟩ := a1.lt
        obtain ⟨⟨x0, x1, x2, x3, x4⟩, xf⟩ := five a1.sx.st
        obtain ⟨⟨y0, y1, y2, y3, y4⟩, yf⟩ := five a1.sx.out
        obtain ⟨⟨z0, z1, z2, z3, z4, z5, z6, z7, z8⟩, zf⟩ := nine a1.tm
        have b1 := a1.set (Nat.le_refl _) j n 0 a
        clear a1
        go_wp2_with fail
        refine (f2 _).mono ?_
        rintro e w2 ⟨rfl, g2⟩
        have a2 := b1.turn g2
        clear b1 g2
        obtain ⟨l0, l1, l2⟩ := a2.lt
        obtain ⟨⟨x0, x1, x2, x3, x4⟩, xf⟩ := five a2.sx.st
        obtain ⟨⟨y0, y1, y2, y3, y4⟩, yf⟩ := five a2.sx.out
        obtain ⟨⟨z0, z1, z2, z3, z4, z5, z6, z7, z8⟩, zf⟩ := nine a2.tm
        have b2 := a2.set (Nat.le_refl _) (j + 1) n 0 a
        clear a2
        go_wp2_with fail
        refine (f3 _).mono ?_
        rintro e w3 ⟨⟨v2, rfl, hv2⟩, g3⟩
        have a3 := b2.turn g3
        clear b2 g3
        obtain ⟨l0, l1, l2⟩ := a3.lt
        obtain ⟨⟨x0, x1, x2, x3, x4⟩, xf⟩ := five a3.sx.st
        obtain ⟨⟨y0, y1, y2, y3, y4⟩, yf⟩ := five a3.sx.out
        obtain ⟨⟨z0, z1, z2, z3, z4, z5, z6, z7, z8⟩, zf⟩ := nine a3.tm
        have b3 := a3.set (Nat.le_refl _) k n 0 a
        clear a3
        go_wp2_with fail
        refine (f4 _).mono ?_
        rintro e w4 ⟨rfl, g4⟩
        have a4 := b3.turn g4
        clear b3 g4
        obtain ⟨l0, l1, l2⟩ := a4.lt
        obtain ⟨⟨x0, x1, x2, x3, x4⟩, xf⟩ := five a4.sx.st
        obtain ⟨⟨y0, y1, y2, y3, y4⟩, yf⟩ := five a4.sx.out
        obtain ⟨⟨z0, z1, z2, z3, z4, z5, z6, z7, z8⟩, zf⟩ := nine a4.tm
        have b4 := a4.set (Nat.le_refl _) k n 41 (k : Int)
        clear a4
        go_wp2_with fail
        refine (number_old s k n 41 (k : Int) (by decide) _).mono ?_
        rintro e w5 ⟨rfl, g5⟩
        have a5 := b4.turn g5
        clear b4 g5
        obtain ⟨l0, l1, l2⟩ := a5.lt
        obtain ⟨⟨x0, x1, x2, x3, x4⟩, xf⟩ := five a5.sx.st
        obtain ⟨⟨y0, y1, y2, y3, y4⟩, yf⟩ := five a5.sx.out
        obtain ⟨⟨z0, z1, z2, z3, z4, z5, z6, z7, z8⟩, zf⟩ := nine a5.tm
        have b5 := a5.set (Nat.le_refl _) k n 41 (k : Int)
        clear a5
        go_wp2_with fail
        exact bodyPost_ret (v := .tuple #[sv s k n 41 (k : Int), lf 0 0 0 0 e0 0 0 0]) (by simp [results, Tryz.results31, go_sem, y0, y1, y2, y3, y4, z0, z1, z2, z3, z4, z5, z6, z7, z8, l0, l1, l2]) rfl ⟨rfl, ((b5.sx.gr.set5 (g := W.heap.size + 1) (Nat.le_succ _) _ _ _ _ _).set9 (g := W.heap.size + 1 + 1) (by omega) _ _ _ _ _ _ _ _ _)⟩
      have f4 := fun W => want_yes s k n a 46 (by decide) hs h4 W
      have k2 : k + 1 ≤ s.size := lt_of_pk (by rw [h4]; decide)
      have f5 := fun W => number_c s hs (k + 1) n a k2 W
      simp only [if_pos h4]
      clear h4
      cases h5 : dgs s (k + 1) with
      | error l =>
        rw [h5] at f5
        replace f5 : ∀ W, Calls Tryz.prog 66 #[sv s (k + 1) n 0 a] W fun e w' => e = .returned (.tuple #[sv s l n 41 (l : Int), .int .u64 0, .bool true]) ∧ Gr (fun _ => False) W w' := f5
        show Calls Tryz.prog 31 _ W fun e w' => e = .returned (.tuple #[sv s l n 41 (l : Int), lf 0 0 0 0 e0 0 0 0]) ∧ Gr (fun _ => False) W w'
        clear h5
        go_enter Tryz.func31, Tryz.ntmps31
        go_wp2_with fail
        generalize hW1 : World.alloc (World.alloc (World.alloc W _) _) _ = W1
        have b0 : Sy W W.heap.size s i n 0 a W1 := by
          subst hW1
          refine ⟨⟨?_, ?_, ((Gr.alloc _ _ _).trans (Gr.alloc _ _ _)).trans (Gr.alloc _ _ _)⟩, ?_⟩ <;> (simp only [al, World.size_alloc]; repeat (first | rw [if_pos trivial] | rw [if_pos (by omega)] | rw [if_neg (by omega)]))
        clear hW1
        refine (f1 _).mono ?_
        rintro e w1 ⟨⟨v1, rfl, hv1⟩, g1⟩
        have a1 := b0.turn g1
        clear b0 g1
        obtain ⟨l0, l1, l2⟩ := a1.lt
        obtain ⟨⟨x0, x1, x2, x3, x4⟩, xf⟩ := five a1.sx.st
        obtain ⟨⟨y0, y1, y2, y3, y4⟩, yf⟩ := five a1.sx.out
        obtain ⟨⟨z0, z1, z2, z3, z4, z5, z6, z7, z8⟩, zf⟩ := nine a1.tm
        have b1 := a1.set (Nat.le_refl _) j n 0 a
        clear a1
        go_wp2_with fail
        refine (f2 _).mono ?_
        rintro e w2 ⟨rfl, g2⟩
        have a2 := b1.turn g2
        clear b1 g2
        obtain ⟨l0, l1, l2⟩ := a2.lt
        obtain ⟨⟨x0, x1, x2, x3, x4⟩, xf⟩ := five a2.sx.st
        obtain ⟨⟨y0, y1, y2, y3, y4⟩, yf⟩ := five a2.sx.out
        obtain ⟨⟨z0, z1, z2, z3, z4, z5, z6, z7, z8⟩, zf⟩ := nine a2.tm
        have b2 := a2.set (Nat.le_refl _) (j + 1) n 0 a
        clear a2
        go_wp2_with fail
        refine (f3 _).mono ?_
        rintro e w3 ⟨⟨v2, rfl, hv2⟩, g3⟩
        have a3 := b2.turn g3
        clear b2 g3
        obtain ⟨l0, l1, l2⟩ := a3.lt
        obtain ⟨⟨x0, x1, x2, x3, x4⟩, xf⟩ := five a3.sx.st
        obtain ⟨⟨y0, y1, y2, y3, y4⟩, yf⟩ := five a3.sx.out
        obtain ⟨⟨z0, z1, z2, z3, z4, z5, z6, z7, z8⟩, zf⟩ := nine a3.tm
        have b3 := a3.set (Nat.le_refl _) k n 0 a
        clear a3
        go_wp2_with fail
        refine (f4 _).mono ?_
        rintro e w4 ⟨rfl, g4⟩
        have a4 := b3.turn g4
        clear b3 g4
        obtain ⟨l0, l1, l2⟩ := a4.lt
        obtain ⟨⟨x0, x1, x2, x3, x4⟩, xf⟩ := five a4.sx.st
        obtain ⟨⟨y0, y1, y2, y3, y4⟩, yf⟩ := five a4.sx.out
        obtain ⟨⟨z0, z1, z2, z3, z4, z5, z6, z7, z8⟩, zf⟩ := nine a4.tm
        have b4 := a4.set (Nat.le_refl _) (k + 1) n 0 a
        clear a4
        go_wp2_with fail
        refine (f5 _).mono ?_
        rintro e w5 ⟨rfl, g5⟩
        have a5 := b4.turn g5
        clear b4 g5
        obtain ⟨l0, l1, l2⟩ := a5.lt
        obtain ⟨⟨x0, x1, x2, x3, x4⟩, xf⟩ := five a5.sx.st
        obtain ⟨⟨y0, y1, y2, y3, y4⟩, yf⟩ := five a5.sx.out
        obtain ⟨⟨z0, z1, z2, z3, z4, z5, z6, z7, z8⟩, zf⟩ := nine a5.tm
        have b5 := a5.set (Nat.le_refl _) l n 41 (l : Int)
        clear a5
        go_wp2_with fail
        exact bodyPost_ret (v := .tuple #[sv s l n 41 (l : Int), lf 0 0 0 0 e0 0 0 0]) (by simp [results, Tryz.results31, go_sem, y0, y1, y2, y3, y4, z0, z1, z2, z3, z4, z5, z6, z7, z8, l0, l1, l2]) rfl ⟨rfl, ((b5.sx.gr.set5 (g := W.heap.size + 1) (Nat.le_succ _) _ _ _ _ _).set9 (g := W.heap.size + 1 + 1) (by omega) _ _ _ _ _ _ _ _ _)⟩
      | ok l =>
        rw [h5] at f5
        have d3 := dvx_nonneg k2 h5
        clear h5
        replace f5 : ∀ W, Calls Tryz.prog 66 #[sv s (k + 1) n 0 a] W fun e w' => (∃ v, e = .returned (.tuple #[sv s l n 0 a, .int .u64 v, .bool (decide (dvx s (k + 1) l ≤ 18446744073709551615))]) ∧ (dvx s (k + 1) l ≤ 18446744073709551615 → v = dvx s (k + 1) l)) ∧ Gr (fun _ => False) W w' := f5
        obtain ⟨D1, hD1⟩ : ∃ D, dvx s i j = D := ⟨_, rfl⟩
        obtain ⟨D2, hD2⟩ : ∃ D, dvx s (j + 1) k = D := ⟨_, rfl⟩
        obtain ⟨D3, hD3⟩ : ∃ D, dvx s (k + 1) l = D := ⟨_, rfl⟩
        show Calls Tryz.prog 31 _ W fun e w' => e = .returned (if idOk (fitV 2147483647 (dvx s i j)) (fitV 4294967295 (dvx s (j + 1) k)) (fitV 18446744073709551615 (dvx s (k + 1) l)) = true then .tuple #[sv s l n 0 a, lf kd 0 0 0 e0 (fitV 2147483647 (dvx s i j)) (fitV 4294967295 (dvx s (j + 1) k)) (fitV 18446744073709551615 (dvx s (k + 1) l))] else .tuple #[sv s l n 41 t, lf 0 0 0 0 e0 0 0 0]) ∧ Gr (fun _ => False) W w'
        rw [hD1] at f1 d1 ⊢
        rw [hD2] at f3 d2 ⊢
        rw [hD3] at f5 d3 ⊢
        clear hD1 hD2 hD3
        by_cases hp : 1 ≤ D1 ∧ D1 ≤ 64 ∧ 1 ≤ D2 ∧ D2 ≤ 4294967295 ∧ 1 ≤ D3 ∧ D3 ≤ 18446744073709551615
        case pos =>
          obtain ⟨p1, p2, p3, p4, p5, p6⟩ := hp
          rw [show fitV 2147483647 D1 = D1 by rw [fitV, if_pos (by omega)], show fitV 4294967295 D2 = D2 by rw [fitV, if_pos (by omega)], show fitV 18446744073709551615 D3 = D3 by rw [fitV, if_pos (by omega)], if_pos (by simp [idOk]; omega)]
          rw [show decide (D1 ≤ 18446744073709551615) = true by simp; omega] at f1
          rw [show decide (D2 ≤ 18446744073709551615) = true by simp; omega] at f3
          rw [show decide (D3 ≤ 18446744073709551615) = true by simp; omega] at f5
          go_enter Tryz.func31, Tryz.ntmps31
          go_wp2_with fail
          generalize hW1 : World.alloc (World.alloc (World.alloc W _) _) _ = W1
          have b0 : Sy W W.heap.size s i n 0 a W1 := by
            subst hW1
            refine ⟨⟨?_, ?_, ((Gr.alloc _ _ _).trans (Gr.alloc _ _ _)).trans (Gr.alloc _ _ _)⟩, ?_⟩ <;> (simp only [al, World.size_alloc]; repeat (first | rw [if_pos trivial] | rw [if_pos (by omega)] | rw [if_neg (by omega)]))
          clear hW1
          refine (f1 _).mono ?_
          rintro e w1 ⟨⟨v1, rfl, hv1⟩, g1⟩
          have a1 := b0.turn g1
          clear b0 g1
          obtain ⟨l0, l1, l2⟩ := a1.lt
          obtain ⟨⟨x0, x1, x2, x3, x4⟩, xf⟩ := five a1.sx.st
          obtain ⟨⟨y0, y1, y2, y3, y4⟩, yf⟩ := five a1.sx.out
          obtain ⟨⟨z0, z1, z2, z3, z4, z5, z6, z7, z8⟩, zf⟩ := nine a1.tm
          have b1 := a1.set (Nat.le_refl _) j n 0 a
          clear a1
          go_wp2_with fail
          refine (f2 _).mono ?_
          rintro e w2 ⟨rfl, g2⟩
          have a2 := b1.turn g2
          clear b1 g2
          obtain ⟨l0, l1, l2⟩ := a2.lt
          obtain ⟨⟨x0, x1, x2, x3, x4⟩, xf⟩ := five a2.sx.st
          obtain ⟨⟨y0, y1, y2, y3, y4⟩, yf⟩ := five a2.sx.out
          obtain ⟨⟨z0, z1, z2, z3, z4, z5, z6, z7, z8⟩, zf⟩ := nine a2.tm
          have b2 := a2.set (Nat.le_refl _) (j + 1) n 0 a
          clear a2
          go_wp2_with fail
          refine (f3 _).mono ?_
          rintro e w3 ⟨⟨v2, rfl, hv2⟩, g3⟩
          have a3 := b2.turn g3
          clear b2 g3
          obtain ⟨l0, l1, l2⟩ := a3.lt
          obtain ⟨⟨x0, x1, x2, x3, x4⟩, xf⟩ := five a3.sx.st
          obtain ⟨⟨y0, y1, y2, y3, y4⟩, yf⟩ := five a3.sx.out
          obtain ⟨⟨z0, z1, z2, z3, z4, z5, z6, z7, z8⟩, zf⟩ := nine a3.tm
          have b3 := a3.set (Nat.le_refl _) k n 0 a
          clear a3
          go_wp2_with fail
          refine (f4 _).mono ?_
          rintro e w4 ⟨rfl, g4⟩
          have a4 := b3.turn g4
          clear b3 g4
          obtain ⟨l0, l1, l2⟩ := a4.lt
          obtain ⟨⟨x0, x1, x2, x3, x4⟩, xf⟩ := five a4.sx.st
          obtain ⟨⟨y0, y1, y2, y3, y4⟩, yf⟩ := five a4.sx.out
          obtain ⟨⟨z0, z1, z2, z3, z4, z5, z6, z7, z8⟩, zf⟩ := nine a4.tm
          have b4 := a4.set (Nat.le_refl _) (k + 1) n 0 a
          clear a4
          go_wp2_with fail
          refine (f5 _).mono ?_
          rintro e w5 ⟨⟨v3, rfl, hv3⟩, g5⟩
          have a5 := b4.turn g5
          clear b4 g5
          obtain ⟨l0, l1, l2⟩ := a5.lt
          obtain ⟨⟨x0, x1, x2, x3, x4⟩, xf⟩ := five a5.sx.st
          obtain ⟨⟨y0, y1, y2, y3, y4⟩, yf⟩ := five a5.sx.out
          obtain ⟨⟨z0, z1, z2, z3, z4, z5, z6, z7, z8⟩, zf⟩ := nine a5.tm
          have b5 := a5.set (Nat.le_refl _) l n 0 a
          clear a5
          have hv := hv1 (by omega)
          subst hv
          have hv := hv2 (by omega)
          subst hv
          have hv := hv3 (by omega)
          subst hv
          clear hv1 hv2 hv3
          have o1 : decide (v1 < 1) = false := by simp; omega
          have o2 : decide (64 < v1) = false := by simp; omega
          have o3 : decide (v2 < 1) = false := by simp; omega
          have o4 : decide (4294967295 < v2) = false := by simp; omega
          have o5 : decide (v3 < 1) = false := by simp; omega
          go_wp2_with fail
          exact bodyPost_ret (v := .tuple #[sv s l n 0 a, lf kd 0 0 0 e0 v1 v2 v3]) (by simp [results, Tryz.results31, go_sem, y0, y1, y2, y3, y4, z0, z1, z2, z3, z4, z5, z6, z7, z8, l0, l1, l2]) rfl ⟨rfl, ((b5.sx.gr.set5 (g := W.heap.size + 1) (Nat.le_succ _) _ _ _ _ _).set9 (g := W.heap.size + 1 + 1) (by omega) _ _ _ _ _ _ _ _ _)⟩
        case neg =>
          rw [if_neg (by simp only [idOk, fitV]; split <;> split <;> split <;> simp <;> omega)]
          replace hp := Lib.hid hp
          go_enter Tryz.func31, Tryz.ntmps31
          go_wp2_with fail
          generalize hW1 : World.alloc (World.alloc (World.alloc W _) _) _ = W1
          have b0 : Sy W W.heap.size s i n 0 a W1 := by
            subst hW1
            refine ⟨⟨?_, ?_, ((Gr.alloc _ _ _).trans (Gr.alloc _ _ _)).trans (Gr.alloc _ _ _)⟩, ?_⟩ <;> (simp only [al, World.size_alloc]; repeat (first | rw [if_pos trivial] | rw [if_pos (by omega)] | rw [if_neg (by omega)]))
          clear hW1
          refine (f1 _).mono ?_
          rintro e w1 ⟨⟨v1, rfl, hv1⟩, g1⟩
          have a1 := b0.turn g1
          clear b0 g1
          obtain ⟨l0, l1, l2⟩ := a1.lt
          obtain ⟨⟨x0, x1, x2, x3, x4⟩, xf⟩ := five a1.sx.st
          obtain ⟨⟨y0, y1, y2, y3, y4⟩, yf⟩ := five a1.sx.out
          obtain ⟨⟨z0, z1, z2, z3, z4, z5, z6, z7, z8⟩, zf⟩ := nine a1.tm
          have b1 := a1.set (Nat.le_refl _) j n 0 a
          clear a1
          go_wp2_with fail
          refine (f2 _).mono ?_
          rintro e w2 ⟨rfl, g2⟩
          have a2 := b1.turn g2
          clear b1 g2
          obtain ⟨l0, l1, l2⟩ := a2.lt
          obtain ⟨⟨x0, x1, x2, x3, x4⟩, xf⟩ := five a2.sx.st
          obtain ⟨⟨y0, y1, y2, y3, y4⟩, yf⟩ := five a2.sx.out
          obtain ⟨⟨z0, z1, z2, z3, z4, z5, z6, z7, z8⟩, zf⟩ := nine a2.tm
          have b2 := a2.set (Nat.le_refl _) (j + 1) n 0 a
          clear a2
          go_wp2_with fail
          refine (f3 _).mono ?_
          rintro e w3 ⟨⟨v2, rfl, hv2⟩, g3⟩
          have a3 := b2.turn g3
          clear b2 g3
          obtain ⟨l0, l1, l2⟩ := a3.lt
          obtain ⟨⟨x0, x1, x2, x3, x4⟩, xf⟩ := five a3.sx.st
          obtain ⟨⟨y0, y1, y2, y3, y4⟩, yf⟩ := five a3.sx.out
          obtain ⟨⟨z0, z1, z2, z3, z4, z5, z6, z7, z8⟩, zf⟩ := nine a3.tm
          have b3 := a3.set (Nat.le_refl _) k n 0 a
          clear a3
          go_wp2_with fail
          refine (f4 _).mono ?_
          rintro e w4 ⟨rfl, g4⟩
          have a4 := b3.turn g4
          clear b3 g4
          obtain ⟨l0, l1, l2⟩ := a4.lt
          obtain ⟨⟨x0, x1, x2, x3, x4⟩, xf⟩ := five a4.sx.st
          obtain ⟨⟨y0, y1, y2, y3, y4⟩, yf⟩ := five a4.sx.out
          obtain ⟨⟨z0, z1, z2, z3, z4, z5, z6, z7, z8⟩, zf⟩ := nine a4.tm
          have b4 := a4.set (Nat.le_refl _) (k + 1) n 0 a
          clear a4
          go_wp2_with fail
          refine (f5 _).mono ?_
          rintro e w5 ⟨⟨v3, rfl, hv3⟩, g5⟩
          have a5 := b4.turn g5
          clear b4 g5
          obtain ⟨l0, l1, l2⟩ := a5.lt
          obtain ⟨⟨x0, x1, x2, x3, x4⟩, xf⟩ := five a5.sx.st
          obtain ⟨⟨y0, y1, y2, y3, y4⟩, yf⟩ := five a5.sx.out
          obtain ⟨⟨z0, z1, z2, z3, z4, z5, z6, z7, z8⟩, zf⟩ := nine a5.tm
          have b5 := a5.set (Nat.le_refl _) l n 0 a
          clear a5
          by_cases q1 : D1 ≤ 18446744073709551615
          case neg =>
            have e1 : decide (D1 ≤ 18446744073709551615) = false := by simpa using q1
            go_wp2_with fail
            refine (fail_new s l n a t 41 _).mono ?_
            rintro e w6 ⟨rfl, g6⟩
            have a6 := b5.turn g6
            obtain ⟨l0, l1, l2⟩ := a6.lt
            obtain ⟨⟨x0, x1, x2, x3, x4⟩, xf⟩ := five a6.sx.st
            obtain ⟨⟨y0, y1, y2, y3, y4⟩, yf⟩ := five a6.sx.out
            obtain ⟨⟨z0, z1, z2, z3, z4, z5, z6, z7, z8⟩, zf⟩ := nine a6.tm
            go_wp2_with fail
            exact bodyPost_ret (v := .tuple #[sv s l n 41 t, lf 0 0 0 0 e0 0 0 0]) (by simp [results, Tryz.results31, go_sem, y0, y1, y2, y3, y4, z0, z1, z2, z3, z4, z5, z6, z7, z8, l0, l1, l2]) rfl ⟨rfl, ((a6.sx.gr.set5 (g := W.heap.size + 1) (Nat.le_succ _) _ _ _ _ _).set9 (g := W.heap.size + 1 + 1) (by omega) _ _ _ _ _ _ _ _ _)⟩
          have e1 : decide (D1 ≤ 18446744073709551615) = true := by simpa using q1
          have hv := hv1 q1
          subst hv
          clear hv1
          by_cases q2 : D2 ≤ 18446744073709551615
          case neg =>
            have e2 : decide (D2 ≤ 18446744073709551615) = false := by simpa using q2
            go_wp2_with fail
            refine (fail_new s l n a t 41 _).mono ?_
            rintro e w6 ⟨rfl, g6⟩
            have a6 := b5.turn g6
            obtain ⟨l0, l1, l2⟩ := a6.lt
            obtain ⟨⟨x0, x1, x2, x3, x4⟩, xf⟩ := five a6.sx.st
            obtain ⟨⟨y0, y1, y2, y3, y4⟩, yf⟩ := five a6.sx.out
            obtain ⟨⟨z0, z1, z2, z3, z4, z5, z6, z7, z8⟩, zf⟩ := nine a6.tm
            go_wp2_with fail
            exact bodyPost_ret (v := .tuple #[sv s l n 41 t, lf 0 0 0 0 e0 0 0 0]) (by simp [results, Tryz.results31, go_sem, y0, y1, y2, y3, y4, z0, z1, z2, z3, z4, z5, z6, z7, z8, l0, l1, l2]) rfl ⟨rfl, ((a6.sx.gr.set5 (g := W.heap.size + 1) (Nat.le_succ _) _ _ _ _ _).set9 (g := W.heap.size + 1 + 1) (by omega) _ _ _ _ _ _ _ _ _)⟩
          have e2 : decide (D2 ≤ 18446744073709551615) = true := by simpa using q2
          have hv := hv2 q2
          subst hv
          clear hv2
          by_cases q3 : D3 ≤ 18446744073709551615
          case neg =>
            have e3 : decide (D3 ≤ 18446744073709551615) = false := by simpa using q3
            go_wp2_with fail
            refine (fail_new s l n a t 41 _).mono ?_
            rintro e w6 ⟨rfl, g6⟩
            have a6 := b5.turn g6
            obtain ⟨l0, l1, l2⟩ := a6.lt
            obtain ⟨⟨x0, x1, x2, x3, x4⟩, xf⟩ := five a6.sx.st
            obtain ⟨⟨y0, y1, y2, y3, y4⟩, yf⟩ := five a6.sx.out
            obtain ⟨⟨z0, z1, z2, z3, z4, z5, z6, z7, z8⟩, zf⟩ := nine a6.tm
            go_wp2_with fail
            exact bodyPost_ret (v := .tuple #[sv s l n 41 t, lf 0 0 0 0 e0 0 0 0]) (by simp [results, Tryz.results31, go_sem, y0, y1, y2, y3, y4, z0, z1, z2, z3, z4, z5, z6, z7, z8, l0, l1, l2]) rfl ⟨rfl, ((a6.sx.gr.set5 (g := W.heap.size + 1) (Nat.le_succ _) _ _ _ _ _).set9 (g := W.heap.size + 1 + 1) (by omega) _ _ _ _ _ _ _ _ _)⟩
          have e3 : decide (D3 ≤ 18446744073709551615) = true := by simpa using q3
          have hv := hv3 q3
          subst hv
          clear hv3
          by_cases ra : v1 < 1
          case pos =>
            have oa : decide (v1 < 1) = true := by simpa using ra
            go_wp2_with fail
            refine (fail_new s l n a t 41 _).mono ?_
            rintro e w6 ⟨rfl, g6⟩
            have a6 := b5.turn g6
            obtain ⟨l0, l1, l2⟩ := a6.lt
            obtain ⟨⟨x0, x1, x2, x3, x4⟩, xf⟩ := five a6.sx.st
            obtain ⟨⟨y0, y1, y2, y3, y4⟩, yf⟩ := five a6.sx.out
            obtain ⟨⟨z0, z1, z2, z3, z4, z5, z6, z7, z8⟩, zf⟩ := nine a6.tm
            go_wp2_with fail
            exact bodyPost_ret (v := .tuple #[sv s l n 41 t, lf 0 0 0 0 e0 0 0 0]) (by simp [results, Tryz.results31, go_sem, y0, y1, y2, y3, y4, z0, z1, z2, z3, z4, z5, z6, z7, z8, l0, l1, l2]) rfl ⟨rfl, ((a6.sx.gr.set5 (g := W.heap.size + 1) (Nat.le_succ _) _ _ _ _ _).set9 (g := W.heap.size + 1 + 1) (by omega) _ _ _ _ _ _ _ _ _)⟩
          have oa : decide (v1 < 1) = false := by simpa using ra
          by_cases rb : 64 < v1
          case pos =>
            have ob : decide (64 < v1) = true := by simpa using rb
            go_wp2_with fail
            refine (fail_new s l n a t 41 _).mono ?_
            rintro e w6 ⟨rfl, g6⟩
            have a6 := b5.turn g6
            obtain ⟨l0, l1, l2⟩ := a6.lt
            obtain ⟨⟨x0, x1, x2, x3, x4⟩, xf⟩ := five a6.sx.st
            obtain ⟨⟨y0, y1, y2, y3, y4⟩, yf⟩ := five a6.sx.out
            obtain ⟨⟨z0, z1, z2, z3, z4, z5, z6, z7, z8⟩, zf⟩ := nine a6.tm
            go_wp2_with fail
            exact bodyPost_ret (v := .tuple #[sv s l n 41 t, lf 0 0 0 0 e0 0 0 0]) (by simp [results, Tryz.results31, go_sem, y0, y1, y2, y3, y4, z0, z1, z2, z3, z4, z5, z6, z7, z8, l0, l1, l2]) rfl ⟨rfl, ((a6.sx.gr.set5 (g := W.heap.size + 1) (Nat.le_succ _) _ _ _ _ _).set9 (g := W.heap.size + 1 + 1) (by omega) _ _ _ _ _ _ _ _ _)⟩
          have ob : decide (64 < v1) = false := by simpa using rb
          by_cases rc : v2 < 1
          case pos =>
            have oc : decide (v2 < 1) = true := by simpa using rc
            go_wp2_with fail
            refine (fail_new s l n a t 41 _).mono ?_
            rintro e w6 ⟨rfl, g6⟩
            have a6 := b5.turn g6
            obtain ⟨l0, l1, l2⟩ := a6.lt
            obtain ⟨⟨x0, x1, x2, x3, x4⟩, xf⟩ := five a6.sx.st
            obtain ⟨⟨y0, y1, y2, y3, y4⟩, yf⟩ := five a6.sx.out
            obtain ⟨⟨z0, z1, z2, z3, z4, z5, z6, z7, z8⟩, zf⟩ := nine a6.tm
            go_wp2_with fail
            exact bodyPost_ret (v := .tuple #[sv s l n 41 t, lf 0 0 0 0 e0 0 0 0]) (by simp [results, Tryz.results31, go_sem, y0, y1, y2, y3, y4, z0, z1, z2, z3, z4, z5, z6, z7, z8, l0, l1, l2]) rfl ⟨rfl, ((a6.sx.gr.set5 (g := W.heap.size + 1) (Nat.le_succ _) _ _ _ _ _).set9 (g := W.heap.size + 1 + 1) (by omega) _ _ _ _ _ _ _ _ _)⟩
          have oc : decide (v2 < 1) = false := by simpa using rc
          by_cases rd : 4294967295 < v2
          case pos =>
            have od : decide (4294967295 < v2) = true := by simpa using rd
            go_wp2_with fail
            refine (fail_new s l n a t 41 _).mono ?_
            rintro e w6 ⟨rfl, g6⟩
            have a6 := b5.turn g6
            obtain ⟨l0, l1, l2⟩ := a6.lt
            obtain ⟨⟨x0, x1, x2, x3, x4⟩, xf⟩ := five a6.sx.st
            obtain ⟨⟨y0, y1, y2, y3, y4⟩, yf⟩ := five a6.sx.out
            obtain ⟨⟨z0, z1, z2, z3, z4, z5, z6, z7, z8⟩, zf⟩ := nine a6.tm
            go_wp2_with fail
            exact bodyPost_ret (v := .tuple #[sv s l n 41 t, lf 0 0 0 0 e0 0 0 0]) (by simp [results, Tryz.results31, go_sem, y0, y1, y2, y3, y4, z0, z1, z2, z3, z4, z5, z6, z7, z8, l0, l1, l2]) rfl ⟨rfl, ((a6.sx.gr.set5 (g := W.heap.size + 1) (Nat.le_succ _) _ _ _ _ _).set9 (g := W.heap.size + 1 + 1) (by omega) _ _ _ _ _ _ _ _ _)⟩
          have od : decide (4294967295 < v2) = false := by simpa using rd
          by_cases re : v3 < 1
          case pos =>
            have oe : decide (v3 < 1) = true := by simpa using re
            go_wp2_with fail
            refine (fail_new s l n a t 41 _).mono ?_
            rintro e w6 ⟨rfl, g6⟩
            have a6 := b5.turn g6
            obtain ⟨l0, l1, l2⟩ := a6.lt
            obtain ⟨⟨x0, x1, x2, x3, x4⟩, xf⟩ := five a6.sx.st
            obtain ⟨⟨y0, y1, y2, y3, y4⟩, yf⟩ := five a6.sx.out
            obtain ⟨⟨z0, z1, z2, z3, z4, z5, z6, z7, z8⟩, zf⟩ := nine a6.tm
            go_wp2_with fail
            exact bodyPost_ret (v := .tuple #[sv s l n 41 t, lf 0 0 0 0 e0 0 0 0]) (by simp [results, Tryz.results31, go_sem, y0, y1, y2, y3, y4, z0, z1, z2, z3, z4, z5, z6, z7, z8, l0, l1, l2]) rfl ⟨rfl, ((a6.sx.gr.set5 (g := W.heap.size + 1) (Nat.le_succ _) _ _ _ _ _).set9 (g := W.heap.size + 1 + 1) (by omega) _ _ _ _ _ _ _ _ _)⟩
          have oe : decide (v3 < 1) = false := by simpa using re
          exact absurd (by omega) hp.out
end Go.Proofs.YtdmichjhmfinpaaGreatDoor
