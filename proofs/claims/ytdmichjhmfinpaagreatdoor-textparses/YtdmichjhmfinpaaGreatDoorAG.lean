/-
  The reference's reader: a digit of base 16.
-/
import Derived.Test.YtdmichjhmfinpaaGreatDoorAE
set_option linter.unusedVariables false
set_option linter.unusedSimpArgs false
namespace Go.Proofs.YtdmichjhmfinpaaGreatDoor
open Go.RowKit Go.Maps

set_option maxRecDepth 200000 in
set_option maxHeartbeats 1600000 in
theorem nib_dec (s : ByteArray) (i n : Nat) (a x : Int) (hs : s.size ≤ 65536) (h : pk s i = x) (h1 : 48 ≤ x) (h2 : x ≤ 57) (W : World) :
    Calls Tryz.prog 69 #[sv s i n 0 a] W fun e w' => e = .returned (.tuple #[sv s (i + 1) n 0 a, .int .i64 (x - 48)]) ∧ Gr (fun _ => False) W w' := by
  have hlt : i < s.size := lt_of_pk (by rw [h]; omega)
  have hI : (i : Int) < 65536 := by omega
  have hx := ix s i hlt
  rw [show bt s i = x by rw [pk, if_pos hlt] at h; exact h] at hx
  have hb1 := fun W => between_c s i n a 48 57 (by decide) W
  have hb2 := fun W => between_c s i n a 97 102 (by decide) W
  rw [h] at hb1 hb2
  rw [show btw x 48 57 = true by simp [btw]; omega] at hb1
  rw [show btw x 97 102 = false by simp [btw]; omega] at hb2
  clear h hs hlt
  have hneg : decide (x - 48 < 0) = false := by simp; omega
  go_enter Tryz.func69, Tryz.ntmps69
  go_wp2_with fail
  generalize hW1 : World.alloc (World.alloc W _) _ = W1
  have hg1 : Gr (fun _ => False) W W1 := hW1 ▸ (Gr.alloc _ _ _).trans (Gr.alloc _ _ _)
  have hx1 : W1.heap[W.heap.size]? = some (.cells #[.string s, .int .i64 (i : Int), .int .i64 (n : Int), .int .i64 0, .int .i64 a] 53 (0, 0)) := by
    subst hW1; simp only [al, World.size_alloc]; repeat (first | rw [if_pos trivial] | rw [if_pos (by omega)] | rw [if_neg (by omega)])
  have hy1 : W1.heap[W.heap.size + 1]? = some (.cells #[.string e0, .int .i64 0, .int .i64 0, .int .i64 0, .int .i64 0] 53 (0, 0)) := by
    subst hW1; simp only [al, World.size_alloc]; repeat (first | rw [if_pos trivial] | rw [if_pos (by omega)] | rw [if_neg (by omega)])
  clear hW1
  refine (hb1 _).mono ?_
  rintro e w2 ⟨rfl, hg2⟩
  obtain ⟨⟨x0, x1, x2, x3, x4⟩, xf⟩ := five (hg2.keep hx1 (fun e => e))
  go_wp2_with fail
  refine (hb2 _).mono ?_
  rintro e w3 ⟨rfl, hg3⟩
  obtain ⟨⟨x0, x1, x2, x3, x4⟩, xf⟩ := five (hg3.keep (hg2.keep hx1 (fun e => e)) (fun e => e))
  obtain ⟨⟨y0, y1, y2, y3, y4⟩, yf⟩ := five (hg3.keep (hg2.keep hy1 (fun e => e)) (fun e => e))
  go_wp2_with fail
  exact bodyPost_ret (v := .tuple #[sv s (i + 1) n 0 a, .int .i64 (x - 48)]) (by simp [results, Tryz.results69, go_sem, y0, y1, y2, y3, y4]) rfl ⟨rfl, (((hg1.trans hg2).trans hg3).setNew (p := ⟨W.heap.size, 1, none⟩) (Nat.le_refl _)).set5 (Nat.le_succ _) _ _ _ _ _⟩
set_option maxRecDepth 200000 in
set_option maxHeartbeats 1600000 in
theorem nib_hex (s : ByteArray) (i n : Nat) (a x : Int) (hs : s.size ≤ 65536) (h : pk s i = x) (h1 : 97 ≤ x) (h2 : x ≤ 102) (W : World) :
    Calls Tryz.prog 69 #[sv s i n 0 a] W fun e w' => e = .returned (.tuple #[sv s (i + 1) n 0 a, .int .i64 (x - 97 + 10)]) ∧ Gr (fun _ => False) W w' := by
  have hlt : i < s.size := lt_of_pk (by rw [h]; omega)
  have hI : (i : Int) < 65536 := by omega
  have hx := ix s i hlt
  rw [show bt s i = x by rw [pk, if_pos hlt] at h; exact h] at hx
  have hb1 := fun W => between_c s i n a 48 57 (by decide) W
  have hb2 := fun W => between_c s i n a 97 102 (by decide) W
  rw [h] at hb1 hb2
  rw [show btw x 48 57 = false by simp [btw]; omega] at hb1
  rw [show btw x 97 102 = true by simp [btw]; omega] at hb2
  clear h hs hlt
  have hneg : decide (x - 97 + 10 < 0) = false := by simp; omega
  go_enter Tryz.func69, Tryz.ntmps69
  go_wp2_with fail
  generalize hW1 : World.alloc (World.alloc W _) _ = W1
  have hg1 : Gr (fun _ => False) W W1 := hW1 ▸ (Gr.alloc _ _ _).trans (Gr.alloc _ _ _)
  have hx1 : W1.heap[W.heap.size]? = some (.cells #[.string s, .int .i64 (i : Int), .int .i64 (n : Int), .int .i64 0, .int .i64 a] 53 (0, 0)) := by
    subst hW1; simp only [al, World.size_alloc]; repeat (first | rw [if_pos trivial] | rw [if_pos (by omega)] | rw [if_neg (by omega)])
  have hy1 : W1.heap[W.heap.size + 1]? = some (.cells #[.string e0, .int .i64 0, .int .i64 0, .int .i64 0, .int .i64 0] 53 (0, 0)) := by
    subst hW1; simp only [al, World.size_alloc]; repeat (first | rw [if_pos trivial] | rw [if_pos (by omega)] | rw [if_neg (by omega)])
  clear hW1
  refine (hb1 _).mono ?_
  rintro e w2 ⟨rfl, hg2⟩
  obtain ⟨⟨x0, x1, x2, x3, x4⟩, xf⟩ := five (hg2.keep hx1 (fun e => e))
  go_wp2_with fail
  refine (hb2 _).mono ?_
  rintro e w3 ⟨rfl, hg3⟩
  obtain ⟨⟨x0, x1, x2, x3, x4⟩, xf⟩ := five (hg3.keep (hg2.keep hx1 (fun e => e)) (fun e => e))
  obtain ⟨⟨y0, y1, y2, y3, y4⟩, yf⟩ := five (hg3.keep (hg2.keep hy1 (fun e => e)) (fun e => e))
  go_wp2_with fail
  exact bodyPost_ret (v := .tuple #[sv s (i + 1) n 0 a, .int .i64 (x - 97 + 10)]) (by simp [results, Tryz.results69, go_sem, y0, y1, y2, y3, y4]) rfl ⟨rfl, (((hg1.trans hg2).trans hg3).setNew (p := ⟨W.heap.size, 1, none⟩) (Nat.le_refl _)).set5 (Nat.le_succ _) _ _ _ _ _⟩
set_option maxRecDepth 200000 in
set_option maxHeartbeats 1600000 in
theorem nib_no (s : ByteArray) (i n : Nat) (a : Int) (h : hexv (pk s i) < 0) (W : World) :
    Calls Tryz.prog 69 #[sv s i n 0 a] W fun e w' => e = .returned (.tuple #[sv s i n 41 (i : Int), .int .i64 (-1)]) ∧ Gr (fun _ => False) W w' := by
  have hb1 := fun W => between_c s i n a 48 57 (by decide) W
  have hb2 := fun W => between_c s i n a 97 102 (by decide) W
  have hr : btw (pk s i) 48 57 = false ∧ btw (pk s i) 97 102 = false := by
    unfold hexv at h
    split at h
    · omega
    · split at h
      · omega
      · constructor <;> simp [btw] <;> omega
  rw [hr.1] at hb1
  rw [hr.2] at hb2
  clear h hr
  go_enter Tryz.func69, Tryz.ntmps69
  go_wp2_with fail
  generalize hW1 : World.alloc (World.alloc W _) _ = W1
  have hg1 : Gr (fun _ => False) W W1 := hW1 ▸ (Gr.alloc _ _ _).trans (Gr.alloc _ _ _)
  have hx1 : W1.heap[W.heap.size]? = some (.cells #[.string s, .int .i64 (i : Int), .int .i64 (n : Int), .int .i64 0, .int .i64 a] 53 (0, 0)) := by
    subst hW1; simp only [al, World.size_alloc]; repeat (first | rw [if_pos trivial] | rw [if_pos (by omega)] | rw [if_neg (by omega)])
  have hy1 : W1.heap[W.heap.size + 1]? = some (.cells #[.string e0, .int .i64 0, .int .i64 0, .int .i64 0, .int .i64 0] 53 (0, 0)) := by
    subst hW1; simp only [al, World.size_alloc]; repeat (first | rw [if_pos trivial] | rw [if_pos (by omega)] | rw [if_neg (by omega)])
  clear hW1
  refine (hb1 _).mono ?_
  rintro e w2 ⟨rfl, hg2⟩
  obtain ⟨⟨x0, x1, x2, x3, x4⟩, xf⟩ := five (hg2.keep hx1 (fun e => e))
  go_wp2_with fail
  refine (hb2 _).mono ?_
  rintro e w3 ⟨rfl, hg3⟩
  obtain ⟨⟨x0, x1, x2, x3, x4⟩, xf⟩ := five (hg3.keep (hg2.keep hx1 (fun e => e)) (fun e => e))
  go_wp2_with fail
  refine (fail_new s i n a (i : Int) 41 _).mono ?_
  rintro e w4 ⟨rfl, hg4⟩
  obtain ⟨⟨y0, y1, y2, y3, y4⟩, yf⟩ := five (hg4.keep (hg3.keep (hg2.keep hy1 (fun e => e)) (fun e => e)) (fun e => e))
  go_wp2_with fail
  exact bodyPost_ret (v := .tuple #[sv s i n 41 (i : Int), .int .i64 (-1)]) (by simp [results, Tryz.results69, go_sem, y0, y1, y2, y3, y4]) rfl ⟨rfl, (((hg1.trans hg2).trans hg3).trans hg4).set5 (Nat.le_succ _) _ _ _ _ _⟩
set_option maxRecDepth 200000 in
set_option maxHeartbeats 1600000 in
theorem nib_old (s : ByteArray) (i n : Nat) (k a : Int) (hk : (k == 0) = false) (W : World) :
    Calls Tryz.prog 69 #[sv s i n k a] W fun e w' => e = .returned (.tuple #[sv s i n k a, .int .i64 (-1)]) ∧ Gr (fun _ => False) W w' := by
  have hb1 := fun W => between_old s i n k a 48 57 hk W
  have hb2 := fun W => between_old s i n k a 97 102 hk W
  go_enter Tryz.func69, Tryz.ntmps69
  go_wp2_with fail
  generalize hW1 : World.alloc (World.alloc W _) _ = W1
  have hg1 : Gr (fun _ => False) W W1 := hW1 ▸ (Gr.alloc _ _ _).trans (Gr.alloc _ _ _)
  have hx1 : W1.heap[W.heap.size]? = some (.cells #[.string s, .int .i64 (i : Int), .int .i64 (n : Int), .int .i64 k, .int .i64 a] 53 (0, 0)) := by
    subst hW1; simp only [al, World.size_alloc]; repeat (first | rw [if_pos trivial] | rw [if_pos (by omega)] | rw [if_neg (by omega)])
  have hy1 : W1.heap[W.heap.size + 1]? = some (.cells #[.string e0, .int .i64 0, .int .i64 0, .int .i64 0, .int .i64 0] 53 (0, 0)) := by
    subst hW1; simp only [al, World.size_alloc]; repeat (first | rw [if_pos trivial] | rw [if_pos (by omega)] | rw [if_neg (by omega)])
  clear hW1
  refine (hb1 _).mono ?_
  rintro e w2 ⟨rfl, hg2⟩
  obtain ⟨⟨x0, x1, x2, x3, x4⟩, xf⟩ := five (hg2.keep hx1 (fun e => e))
  go_wp2_with fail
  refine (hb2 _).mono ?_
  rintro e w3 ⟨rfl, hg3⟩
  obtain ⟨⟨x0, x1, x2, x3, x4⟩, xf⟩ := five (hg3.keep (hg2.keep hx1 (fun e => e)) (fun e => e))
  go_wp2_with fail
  refine (fail_old s i n k a (i : Int) 41 hk _).mono ?_
  rintro e w4 ⟨rfl, hg4⟩
  obtain ⟨⟨y0, y1, y2, y3, y4⟩, yf⟩ := five (hg4.keep (hg3.keep (hg2.keep hy1 (fun e => e)) (fun e => e)) (fun e => e))
  go_wp2_with fail
  exact bodyPost_ret (v := .tuple #[sv s i n k a, .int .i64 (-1)]) (by simp [results, Tryz.results69, go_sem, y0, y1, y2, y3, y4]) rfl ⟨rfl, (((hg1.trans hg2).trans hg3).trans hg4).set5 (Nat.le_succ _) _ _ _ _ _⟩
theorem nibble_ok (s : ByteArray) (i n : Nat) (a v : Int) (hs : s.size ≤ 65536) (h : hexv (pk s i) = v) (h0 : 0 ≤ v) (W : World) :
    Calls Tryz.prog 69 #[sv s i n 0 a] W fun e w' => e = .returned (.tuple #[sv s (i + 1) n 0 a, .int .i64 v]) ∧ Gr (fun _ => False) W w' := by
  unfold hexv at h
  split at h
  · rename_i h1
    rw [← h]
    exact nib_dec s i n a _ hs rfl h1.1 h1.2 W
  · split at h
    · rename_i h1
      rw [← h, show pk s i - 87 = pk s i - 97 + 10 by omega]
      exact nib_hex s i n a _ hs rfl h1.1 h1.2 W
    · omega
end Go.Proofs.YtdmichjhmfinpaaGreatDoor
