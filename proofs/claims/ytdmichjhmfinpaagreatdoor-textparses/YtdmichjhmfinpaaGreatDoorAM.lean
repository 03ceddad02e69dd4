/-
  The reference's reader: a complex number.
-/
import Derived.Test.YtdmichjhmfinpaaGreatDoorAL
set_option linter.unusedVariables false
set_option linter.unusedSimpArgs false
namespace Go.Proofs.YtdmichjhmfinpaaGreatDoor
open Go.RowKit Go.Maps

/-- What the reference answers at a complex number. -/
def cxV (s : ByteArray) (n : Nat) (a t : Int) : Except Nat (Int × Int × Nat) → Value
  | .error j => .tuple #[sv s j n 41 (j : Int), lf 0 0 0 0 e0 0 0 0]
  | .ok (p, q, j) => if (rp p.toNat && rp q.toNat) = true then .tuple #[sv s j n 0 a, lf 2 0 p.toNat q.toNat e0 0 0 0] else .tuple #[sv s j n 41 t, lf 0 0 0 0 e0 0 0 0]

set_option maxRecDepth 200000 in
set_option maxHeartbeats 3200000 in
theorem complexOf_r (s : ByteArray) (hs : s.size ≤ 65536) (i n : Nat) (a t : Int) (W : World) :
    Calls Tryz.prog 30 #[sv s i n 0 a, .int .i64 t] W fun e w' => e = .returned (cxV s n a t (cxs s i)) ∧ Gr (fun _ => False) W w' := by
  have f1 := fun W => float_c s hs i n a W
  unfold cxs
  cases h1 : hexs s 16 i 0 with
  | error j =>
    rw [h1] at f1
    replace f1 : ∀ W, Calls Tryz.prog 67 #[sv s i n 0 a] W fun e w' => e = .returned (.tuple #[sv s j n 41 (j : Int), .float .f64 0]) ∧ Gr (fun _ => False) W w' := f1
    show Calls Tryz.prog 30 _ W fun e w' => e = .returned (.tuple #[sv s j n 41 (j : Int), lf 0 0 0 0 e0 0 0 0]) ∧ Gr (fun _ => False) W w'
    clear h1
    go_enter Tryz.func30, Tryz.ntmps30
    go_wp2_with fail
    generalize hW1 : World.alloc (World.alloc (World.alloc W _) _) _ = W1
    have hx1 : Sy W W.heap.size s i n 0 a W1 := by
      subst hW1
      refine ⟨⟨?_, ?_, ((Gr.alloc _ _ _).trans (Gr.alloc _ _ _)).trans (Gr.alloc _ _ _)⟩, ?_⟩ <;> (simp only [al, World.size_alloc]; repeat (first | rw [if_pos trivial] | rw [if_pos (by omega)] | rw [if_neg (by omega)]))
    clear hW1
    refine (f1 _).mono ?_
    rintro e w2 ⟨rfl, hg2⟩
    have hst2 := hx1.turn hg2
    obtain ⟨⟨x0, x1, x2, x3, x4⟩, xf⟩ := five hst2.sx.st
    have hst3 := hst2.set (Nat.le_refl _) j n 41 (j : Int)
    go_wp2_with fail
    refine (float_old s j n 41 (j : Int) (by decide) _).mono ?_
    rintro e w3 ⟨rfl, hg3⟩
    have hst4 := hst3.turn hg3
    obtain ⟨l0, l1, l2⟩ := hst4.lt
    obtain ⟨⟨x0, x1, x2, x3, x4⟩, xf⟩ := five hst4.sx.st
    obtain ⟨⟨y0, y1, y2, y3, y4⟩, yf⟩ := five hst4.sx.out
    obtain ⟨⟨z0, z1, z2, z3, z4, z5, z6, z7, z8⟩, zf⟩ := nine hst4.tm
    have hst5 := hst4.set (Nat.le_refl _) j n 41 (j : Int)
    go_wp2_with fail
    exact bodyPost_ret (v := .tuple #[sv s j n 41 (j : Int), lf 0 0 0 0 e0 0 0 0]) (by simp [results, Tryz.results30, go_sem, y0, y1, y2, y3, y4, z0, z1, z2, z3, z4, z5, z6, z7, z8, l0, l1, l2]) rfl ⟨rfl, ((hst5.sx.gr.set5 (g := W.heap.size + 1) (Nat.le_succ _) _ _ _ _ _).set9 (g := W.heap.size + 1 + 1) (by omega) _ _ _ _ _ _ _ _ _)⟩
  | ok r =>
    obtain ⟨p, j⟩ := r
    rw [h1] at f1
    replace f1 : ∀ W, Calls Tryz.prog 67 #[sv s i n 0 a] W fun e w' => e = .returned (.tuple #[sv s j n 0 a, .float .f64 p.toNat]) ∧ Gr (fun _ => False) W w' := f1
    have f2 := fun W => float_c s hs j n a W
    have hp := hexs16 h1
    clear h1
    cases h2 : hexs s 16 j 0 with
    | error k =>
      rw [h2] at f2
      replace f2 : ∀ W, Calls Tryz.prog 67 #[sv s j n 0 a] W fun e w' => e = .returned (.tuple #[sv s k n 41 (k : Int), .float .f64 0]) ∧ Gr (fun _ => False) W w' := f2
      simp only [h2]
      show Calls Tryz.prog 30 _ W fun e w' => e = .returned (.tuple #[sv s k n 41 (k : Int), lf 0 0 0 0 e0 0 0 0]) ∧ Gr (fun _ => False) W w'
      clear h2
      go_enter Tryz.func30, Tryz.ntmps30
      go_wp2_with fail
      generalize hW1 : World.alloc (World.alloc (World.alloc W _) _) _ = W1
      have hx1 : Sy W W.heap.size s i n 0 a W1 := by
        subst hW1
        refine ⟨⟨?_, ?_, ((Gr.alloc _ _ _).trans (Gr.alloc _ _ _)).trans (Gr.alloc _ _ _)⟩, ?_⟩ <;> (simp only [al, World.size_alloc]; repeat (first | rw [if_pos trivial] | rw [if_pos (by omega)] | rw [if_neg (by omega)]))
      clear hW1
      refine (f1 _).mono ?_
      rintro e w2 ⟨rfl, hg2⟩
      have hst2 := hx1.turn hg2
      obtain ⟨⟨x0, x1, x2, x3, x4⟩, xf⟩ := five hst2.sx.st
      have hst3 := hst2.set (Nat.le_refl _) j n 0 a
      go_wp2_with fail
      refine (f2 _).mono ?_
      rintro e w3 ⟨rfl, hg3⟩
      have hst4 := hst3.turn hg3
      obtain ⟨l0, l1, l2⟩ := hst4.lt
      obtain ⟨⟨x0, x1, x2, x3, x4⟩, xf⟩ := five hst4.sx.st
      obtain ⟨⟨y0, y1, y2, y3, y4⟩, yf⟩ := five hst4.sx.out
      obtain ⟨⟨z0, z1, z2, z3, z4, z5, z6, z7, z8⟩, zf⟩ := nine hst4.tm
      have hst5 := hst4.set (Nat.le_refl _) k n 41 (k : Int)
      go_wp2_with fail
      exact bodyPost_ret (v := .tuple #[sv s k n 41 (k : Int), lf 0 0 0 0 e0 0 0 0]) (by simp [results, Tryz.results30, go_sem, y0, y1, y2, y3, y4, z0, z1, z2, z3, z4, z5, z6, z7, z8, l0, l1, l2]) rfl ⟨rfl, ((hst5.sx.gr.set5 (g := W.heap.size + 1) (Nat.le_succ _) _ _ _ _ _).set9 (g := W.heap.size + 1 + 1) (by omega) _ _ _ _ _ _ _ _ _)⟩
    | ok r =>
      obtain ⟨q, k⟩ := r
      rw [h2] at f2
      replace f2 : ∀ W, Calls Tryz.prog 67 #[sv s j n 0 a] W fun e w' => e = .returned (.tuple #[sv s k n 0 a, .float .f64 q.toNat]) ∧ Gr (fun _ => False) W w' := f2
      have hq := hexs16 h2
      simp only [h2]
      clear h2
      show Calls Tryz.prog 30 _ W fun e w' => e = .returned (if (rp p.toNat && rp q.toNat) = true then .tuple #[sv s k n 0 a, lf 2 0 p.toNat q.toNat e0 0 0 0] else .tuple #[sv s k n 41 t, lf 0 0 0 0 e0 0 0 0]) ∧ Gr (fun _ => False) W w'
      obtain ⟨x, hx⟩ : ∃ x, p.toNat = x := ⟨_, rfl⟩
      obtain ⟨y, hy⟩ : ∃ y, q.toNat = y := ⟨_, rfl⟩
      rw [hx] at f1 hp ⊢
      rw [hy] at f2 hq ⊢
      clear hx hy
      have hr := fun W => refRight_cx x y hp hq W
      cases h3 : rp x && rp y with
      | true =>
        rw [h3] at hr
        show Calls Tryz.prog 30 _ W fun e w' => e = .returned (.tuple #[sv s k n 0 a, lf 2 0 x y e0 0 0 0]) ∧ Gr (fun _ => False) W w'
        clear h3
        go_enter Tryz.func30, Tryz.ntmps30
        go_wp2_with fail
        generalize hW1 : World.alloc (World.alloc (World.alloc W _) _) _ = W1
        have hx1 : Sy W W.heap.size s i n 0 a W1 := by
          subst hW1
          refine ⟨⟨?_, ?_, ((Gr.alloc _ _ _).trans (Gr.alloc _ _ _)).trans (Gr.alloc _ _ _)⟩, ?_⟩ <;> (simp only [al, World.size_alloc]; repeat (first | rw [if_pos trivial] | rw [if_pos (by omega)] | rw [if_neg (by omega)]))
        clear hW1
        refine (f1 _).mono ?_
        rintro e w2 ⟨rfl, hg2⟩
        have hst2 := hx1.turn hg2
        obtain ⟨⟨x0, x1, x2, x3, x4⟩, xf⟩ := five hst2.sx.st
        have hst3 := hst2.set (Nat.le_refl _) j n 0 a
        go_wp2_with fail
        refine (f2 _).mono ?_
        rintro e w3 ⟨rfl, hg3⟩
        have hst4 := hst3.turn hg3
        obtain ⟨l0, l1, l2⟩ := hst4.lt
        obtain ⟨⟨x0, x1, x2, x3, x4⟩, xf⟩ := five hst4.sx.st
        obtain ⟨⟨y0, y1, y2, y3, y4⟩, yf⟩ := five hst4.sx.out
        obtain ⟨⟨z0, z1, z2, z3, z4, z5, z6, z7, z8⟩, zf⟩ := nine hst4.tm
        have hst5 := hst4.set (Nat.le_refl _) k n 0 a
        have hsz : (((((w3.setCell ⟨W.heap.size, 0, none⟩ (.string s)).setCell ⟨W.heap.size, 1, none⟩ (.int .i64 (k : Int))).setCell ⟨W.heap.size, 2, none⟩ (.int .i64 (n : Int))).setCell ⟨W.heap.size, 3, none⟩ (.int .i64 0)).setCell ⟨W.heap.size, 4, none⟩ (.int .i64 a)).heap.size = w3.heap.size := by simp only [World.size_setCell]
        go_wp2_with fail
        generalize hW5 : World.setCell (World.setCell (World.setCell (World.setCell (World.setCell w3 _ _) _ _) _ _) _ _) _ _ = W5
        rw [hW5] at hst5 hsz
        clear hW5
        have ht := heap_alloc_new W5 (.cells #[.int .i64 2, .int .i64 0, .complex .f64 x y, .string e0, .int .i64 0, .int .u32 0, .int .u64 0, nl, nl] 31)
        rw [hsz] at ht
        have hst6 := hst5.turn (Gr.alloc W5 (.cells #[.int .i64 2, .int .i64 0, .complex .f64 x y, .string e0, .int .i64 0, .int .u32 0, .int .u64 0, nl, nl] 31) _)
        refine (hr _).mono ?_
        rintro e w4 ⟨rfl, hg4⟩
        have hst7 := hst6.turn hg4
        obtain ⟨l0, l1, l2⟩ := hst7.lt
        obtain ⟨⟨x0, x1, x2, x3, x4⟩, xf⟩ := five hst7.sx.st
        obtain ⟨⟨y0, y1, y2, y3, y4⟩, yf⟩ := five hst7.sx.out
        obtain ⟨⟨z0, z1, z2, z3, z4, z5, z6, z7, z8⟩, zf⟩ := nine hst7.tm
        obtain ⟨⟨u0, u1, u2, u3, u4, u5, u6, u7, u8⟩, uf⟩ := nine (hg4.keep ht (fun e => e))
        go_wp2_with fail
        go_region
        all_goals
          go_wp2_with fail
          exact bodyPost_ret (v := .tuple #[sv s k n 0 a, lf 2 0 x y e0 0 0 0]) (by simp [results, Tryz.results30, go_sem, y0, y1, y2, y3, y4, z0, z1, z2, z3, z4, z5, z6, z7, z8, l0, l1, l2]) rfl ⟨rfl, ((hst7.sx.gr.set5 (g := W.heap.size + 1) (Nat.le_succ _) _ _ _ _ _).set9 (g := W.heap.size + 1 + 1) (by omega) _ _ _ _ _ _ _ _ _).trans (Gr.drew _ _)⟩
      | false =>
        rw [h3] at hr
        show Calls Tryz.prog 30 _ W fun e w' => e = .returned (.tuple #[sv s k n 41 t, lf 0 0 0 0 e0 0 0 0]) ∧ Gr (fun _ => False) W w'
        clear h3
        go_enter Tryz.func30, Tryz.ntmps30
        go_wp2_with fail
        generalize hW1 : World.alloc (World.alloc (World.alloc W _) _) _ = W1
        have hx1 : Sy W W.heap.size s i n 0 a W1 := by
          subst hW1
          refine ⟨⟨?_, ?_, ((Gr.alloc _ _ _).trans (Gr.alloc _ _ _)).trans (Gr.alloc _ _ _)⟩, ?_⟩ <;> (simp only [al, World.size_alloc]; repeat (first | rw [if_pos trivial] | rw [if_pos (by omega)] | rw [if_neg (by omega)]))
        clear hW1
        refine (f1 _).mono ?_
        rintro e w2 ⟨rfl, hg2⟩
        have hst2 := hx1.turn hg2
        obtain ⟨⟨x0, x1, x2, x3, x4⟩, xf⟩ := five hst2.sx.st
        have hst3 := hst2.set (Nat.le_refl _) j n 0 a
        go_wp2_with fail
        refine (f2 _).mono ?_
        rintro e w3 ⟨rfl, hg3⟩
        have hst4 := hst3.turn hg3
        obtain ⟨l0, l1, l2⟩ := hst4.lt
        obtain ⟨⟨x0, x1, x2, x3, x4⟩, xf⟩ := five hst4.sx.st
        obtain ⟨⟨y0, y1, y2, y3, y4⟩, yf⟩ := five hst4.sx.out
        obtain ⟨⟨z0, z1, z2, z3, z4, z5, z6, z7, z8⟩, zf⟩ := nine hst4.tm
        have hst5 := hst4.set (Nat.le_refl _) k n 0 a
        have hsz : (((((w3.setCell ⟨W.heap.size, 0, none⟩ (.string s)).setCell ⟨W.heap.size, 1, none⟩ (.int .i64 (k : Int))).setCell ⟨W.heap.size, 2, none⟩ (.int .i64 (n : Int))).setCell ⟨W.heap.size, 3, none⟩ (.int .i64 0)).setCell ⟨W.heap.size, 4, none⟩ (.int .i64 a)).heap.size = w3.heap.size := by simp only [World.size_setCell]
        go_wp2_with fail
        generalize hW5 : World.setCell (World.setCell (World.setCell (World.setCell (World.setCell w3 _ _) _ _) _ _) _ _) _ _ = W5
        rw [hW5] at hst5 hsz
        clear hW5
        have ht := heap_alloc_new W5 (.cells #[.int .i64 2, .int .i64 0, .complex .f64 x y, .string e0, .int .i64 0, .int .u32 0, .int .u64 0, nl, nl] 31)
        rw [hsz] at ht
        have hst6 := hst5.turn (Gr.alloc W5 (.cells #[.int .i64 2, .int .i64 0, .complex .f64 x y, .string e0, .int .i64 0, .int .u32 0, .int .u64 0, nl, nl] 31) _)
        refine (hr _).mono ?_
        rintro e w4 ⟨rfl, hg4⟩
        have hst7 := hst6.turn hg4
        obtain ⟨l0, l1, l2⟩ := hst7.lt
        obtain ⟨⟨x0, x1, x2, x3, x4⟩, xf⟩ := five hst7.sx.st
        obtain ⟨⟨y0, y1, y2, y3, y4⟩, yf⟩ := five hst7.sx.out
        obtain ⟨⟨z0, z1, z2, z3, z4, z5, z6, z7, z8⟩, zf⟩ := nine hst7.tm
        go_wp2_with fail
        refine (fail_new s k n a t 41 _).mono ?_
        rintro e w5 ⟨rfl, hg5⟩
        have hst8 := hst7.turn hg5
        obtain ⟨l0, l1, l2⟩ := hst8.lt
        obtain ⟨⟨x0, x1, x2, x3, x4⟩, xf⟩ := five hst8.sx.st
        obtain ⟨⟨y0, y1, y2, y3, y4⟩, yf⟩ := five hst8.sx.out
        obtain ⟨⟨z0, z1, z2, z3, z4, z5, z6, z7, z8⟩, zf⟩ := nine hst8.tm
        go_wp2_with fail
        exact bodyPost_ret (v := .tuple #[sv s k n 41 t, lf 0 0 0 0 e0 0 0 0]) (by simp [results, Tryz.results30, go_sem, y0, y1, y2, y3, y4, z0, z1, z2, z3, z4, z5, z6, z7, z8, l0, l1, l2]) rfl ⟨rfl, ((hst8.sx.gr.set5 (g := W.heap.size + 1) (Nat.le_succ _) _ _ _ _ _).set9 (g := W.heap.size + 1 + 1) (by omega) _ _ _ _ _ _ _ _ _)⟩

end Go.Proofs.YtdmichjhmfinpaaGreatDoor
