/-
  The reference's reader: its steps where something is wrong already.
-/
import Derived.Test.YtdmichjhmfinpaaGreatDoorAJ
set_option linter.unusedVariables false
set_option linter.unusedSimpArgs false
namespace Go.Proofs.YtdmichjhmfinpaaGreatDoor
open Go.RowKit Go.Maps

set_option maxRecDepth 200000 in
set_option maxHeartbeats 1600000 in
theorem number_old (s : ByteArray) (i n : Nat) (k a : Int) (hk : (k == 0) = false) (W : World) :
    Calls Tryz.prog 66 #[sv s i n k a] W fun e w' => e = .returned (.tuple #[sv s i n k a, .int .u64 0, .bool true]) ∧ Gr (fun _ => False) W w' := by
  go_enter Tryz.func66, Tryz.ntmps66
  go_wp2_with fail
  generalize hW1 : World.alloc (World.alloc W _) _ = W1
  have hx1 : Sx W W.heap.size s i n k a W1 := by
    subst hW1
    refine ⟨?_, ?_, (Gr.alloc _ _ _).trans (Gr.alloc _ _ _)⟩ <;> (simp only [al, World.size_alloc]; repeat (first | rw [if_pos trivial] | rw [if_pos (by omega)] | rw [if_neg (by omega)]))
  clear hW1
  refine (is_old s i n k a 48 hk _).mono ?_
  rintro e w2 ⟨rfl, hg2⟩
  have hst2 := hx1.turn hg2
  obtain ⟨⟨x0, x1, x2, x3, x4⟩, xf⟩ := five hst2.st
  go_wp2_with fail
  refine (between_old s i n k a 49 57 hk _).mono ?_
  rintro e w3 ⟨rfl, hg3⟩
  have hst3 := hst2.turn hg3
  obtain ⟨⟨x0, x1, x2, x3, x4⟩, xf⟩ := five hst3.st
  go_wp2_with fail
  refine (fail_old s i n k a (i : Int) 41 hk _).mono ?_
  rintro e w4 ⟨rfl, hg4⟩
  have hst4 := hst3.turn hg4
  obtain ⟨⟨y0, y1, y2, y3, y4⟩, yf⟩ := five hst4.out
  go_wp2_with fail
  exact bodyPost_ret (v := .tuple #[sv s i n k a, .int .u64 0, .bool true]) (by simp [results, Tryz.results66, go_sem, y0, y1, y2, y3, y4]) rfl ⟨rfl, hst4.gr.set5 (g := W.heap.size + 1) (Nat.le_succ _) _ _ _ _ _⟩

set_option maxRecDepth 200000 in
set_option maxHeartbeats 1600000 in
theorem float_old (s : ByteArray) (i n : Nat) (k a : Int) (hk : (k == 0) = false) (W : World) :
    Calls Tryz.prog 67 #[sv s i n k a] W fun e w' => e = .returned (.tuple #[sv s i n k a, .float .f64 0]) ∧ Gr (fun _ => False) W w' := by
  go_enter Tryz.func67, Tryz.ntmps67
  go_wp2_with fail
  generalize hW1 : World.alloc (World.alloc W _) _ = W1
  have hx1 : Sx W W.heap.size s i n k a W1 := by
    subst hW1
    refine ⟨?_, ?_, (Gr.alloc _ _ _).trans (Gr.alloc _ _ _)⟩ <;> (simp only [al, World.size_alloc]; repeat (first | rw [if_pos trivial] | rw [if_pos (by omega)] | rw [if_neg (by omega)]))
  clear hW1
  go_loopw [4, 5] (fun u v wr => u = .int .u64 0 ∧ v = .int .i64 0 ∧ Sx W W.heap.size s i n k a wr) (fun _ _ _ => 0)
  case atStart => exact ⟨rfl, rfl, hx1⟩
  case round =>
    obtain ⟨rfl, rfl, hst⟩ := hrel
    obtain ⟨⟨x0, x1, x2, x3, x4⟩, xf⟩ := five hst.st
    go_wp2_with fail
    refine (nib_old s i n k a hk _).mono ?_
    rintro e w2 ⟨rfl, hg2⟩
    have hlt2 : W.heap.size < w2.heap.size := (Array.getElem?_eq_some_iff.1 (hst.turn hg2).st).1
    have hlt3 : W.heap.size + 1 < w2.heap.size := (Array.getElem?_eq_some_iff.1 (hst.turn hg2).out).1
    have hst3 := (hst.turn hg2).set (Nat.le_refl _) i n k a
    obtain ⟨⟨y0, y1, y2, y3, y4⟩, yf⟩ := five (hst.turn hg2).out
    obtain ⟨⟨x0, x1, x2, x3, x4⟩, xf⟩ := five (hst.turn hg2).st
    clear hst
    go_wp2_with fail
    exact bodyPost_ret (v := .tuple #[sv s i n k a, .float .f64 0]) (by simp [results, Tryz.results67, go_sem, y0, y1, y2, y3, y4, hlt2, hlt3]) rfl ⟨rfl, (hst3.gr.set5 (g := W.heap.size + 1) (Nat.le_succ _) _ _ _ _ _).trans (Gr.alloc _ _ _)⟩
end Go.Proofs.YtdmichjhmfinpaaGreatDoor
/-
  The reference: which complex numbers are right.
-/
namespace Go.Proofs.YtdmichjhmfinpaaGreatDoor
open Go.RowKit Go.Maps

set_option maxRecDepth 200000 in
set_option maxHeartbeats 1600000 in
theorem bare_cx (x y : Nat) (W : World) : Calls Tryz.prog 97 #[lf 2 0 x y e0 0 0 0] W fun e w' => e = .returned (.bool true) ∧ Gr (fun _ => False) W w' := by
  go_enter Tryz.func97, Tryz.ntmps97
  go_wp2
  exact bodyPost_ret (v := .bool true) (by simp [results, Tryz.results97, go_sem]) rfl ⟨rfl, Gr.alloc _ _ _⟩

set_option maxRecDepth 200000 in
set_option maxHeartbeats 1600000 in
theorem refRight_cx (x y : Nat) (hx : x < 18446744073709551616) (hy : y < 18446744073709551616) (W : World) : Calls Tryz.prog 68 #[lf 2 0 x y e0 0 0 0] W fun e w' => e = .returned (.bool (rp x && rp y)) ∧ Gr (fun _ => False) W w' := by
  have f1 := fun W => refFinite_c x W
  have f2 := fun W => refFinite_c y W
  have m1 := fun W => refMinus_c x hx W
  have m2 := fun W => refMinus_c y hy W
  obtain ⟨p, hp⟩ : ∃ p, (rp x && rp y) = p := ⟨_, rfl⟩
  rw [hp]
  unfold rp at hp
  replace hp := Lib.hid hp
  go_enter Tryz.func68, Tryz.ntmps68
  go_wp2_with fail
  generalize hW1 : World.alloc W _ = W1
  have hg1 : Gr (fun _ => False) W W1 := hW1 ▸ Gr.alloc _ _ _
  have hx1 : W1.heap[W.heap.size]? = some (.cells #[.int .i64 2, .int .i64 0, .complex .f64 x y, .string e0, .int .i64 0, .int .u32 0, .int .u64 0, nl, nl] 31 (0, 0)) := by
    subst hW1; simp only [al, World.size_alloc]; repeat (first | rw [if_pos trivial] | rw [if_pos (by omega)] | rw [if_neg (by omega)])
  clear hW1
  refine (bare_cx x y _).mono ?_
  rintro e w2 ⟨rfl, hg2⟩
  obtain ⟨⟨z0, z1, z2, z3, z4, z5, z6, z7, z8⟩, zf⟩ := nine (hg2.keep hx1 (fun e => e))
  go_wp2_with fail
  refine (f1 _).mono ?_
  rintro e w3 ⟨rfl, rfl⟩
  cases q1 : fin x with
  | false =>
    have e : p = false := by rw [← hp.out, q1]; rfl
    subst e
    go_wp2_with fail
    exact bodyPost_ret (v := .bool false) (by simp [results, Tryz.results68, go_sem]) rfl ⟨rfl, hg1.trans hg2⟩
  | true =>
    go_wp2_with fail
    refine (f2 _).mono ?_
    rintro e w3 ⟨rfl, rfl⟩
    cases q2 : fin y with
    | false =>
      have e : p = false := by rw [← hp.out, q2]; simp
      subst e
      go_wp2_with fail
      exact bodyPost_ret (v := .bool false) (by simp [results, Tryz.results68, go_sem]) rfl ⟨rfl, hg1.trans hg2⟩
    | true =>
      go_wp2_with fail
      refine (m1 _).mono ?_
      rintro e w3 ⟨rfl, rfl⟩
      cases q3 : decide (x = 9223372036854775808) with
      | true =>
        have e : p = false := by rw [← hp.out, q3]; simp
        subst e
        go_wp2_with fail
        exact bodyPost_ret (v := .bool false) (by simp [results, Tryz.results68, go_sem]) rfl ⟨rfl, hg1.trans hg2⟩
      | false =>
        go_wp2_with fail
        refine (m2 _).mono ?_
        rintro e w3 ⟨rfl, rfl⟩
        have e : p = !decide (y = 9223372036854775808) := by rw [← hp.out, q1, q2, q3]; simp
        subst e
        go_wp2_with fail
        exact bodyPost_ret (v := .bool (!decide (y = 9223372036854775808))) (by simp [results, Tryz.results68, go_sem]) rfl ⟨rfl, hg1.trans hg2⟩
end Go.Proofs.YtdmichjhmfinpaaGreatDoor
