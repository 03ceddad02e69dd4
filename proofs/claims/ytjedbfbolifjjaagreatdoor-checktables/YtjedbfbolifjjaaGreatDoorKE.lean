/-
  Which parts are as they ought to be: fields, kinds of the parts within.
-/
import Derived.Test.YtjedbfbolifjjaaGreatDoorKA
set_option linter.unusedVariables false
set_option linter.unusedSimpArgs false
namespace Go.Proofs.YtjedbfbolifjjaaGreatDoor
open Go.RowKit Go.Maps
variable {W W' : World}
def exV : Tr → Bool
  | .mk k _ _ _ _ => decide (1 ≤ k) && decide (k ≤ 13)
def isK (m : Int) : Tr → Bool
  | .mk k _ _ _ _ => k == m
theorem expression_c (N : Nat) : So N 90 #[] (fun _ => True) (fun _ => True) exV := by
  refine ⟨ent_of Tryz.func90 (by kernel_rfl) rfl, fun _ _ _ _ => trivial, fun W g o T _ _ hT hg hN => ?_⟩
  obtain ⟨k, s, n, b, l⟩ := T
  obtain ⟨ba, bc, la, lc, ⟨x0, x1, x2, x3, x4⟩, hrow, hgl⟩ := hT.parts
  show Calls Tryz.prog 90 #[ptr g o] W fun e w' => e = .returned (.bool (decide (1 ≤ k) && decide (k ≤ 13))) ∧ Gr (fun _ => False) W w'
  clear hrow hT x1 x2 x3 x4
  cases d1 : decide (1 ≤ k) <;> cases d2 : decide (k ≤ 13)
  all_goals
    go_enter Tryz.func90, Tryz.ntmps90
    go_wp2
    go_ret
    exact ⟨rfl, Gr.refl _ _⟩
/-- The closure that is waits with. -/
theorem isq_c (N u : Nat) (m : Int) (hu : N ≤ u) : So N 108 #[pt u] (fun w => w.cell? ⟨u, 0, none⟩ = some (.int .i64 m)) (fun _ => True) (isK m) := by
  refine ⟨ent_of Tryz.func108 (by kernel_rfl) rfl, fun w w' h g => cell_gr h g (fun e => e), fun W g o T hI _ hT hg hN => ?_⟩
  obtain ⟨k, s, n, b, l⟩ := T
  obtain ⟨ba, bc, la, lc, ⟨x0, x1, x2, x3, x4⟩, hrow, hgl⟩ := hT.parts
  show Calls Tryz.prog 108 #[ptr g o, pt u] W fun e w' => e = .returned (.bool (k == m)) ∧ Gr (fun _ => False) W w'
  have hul := World.block_lt_of_cell? _ _ hI
  clear hrow hT x1 x2 x3 x4
  go_enter Tryz.func108, Tryz.ntmps108
  go_wp2_with fail
  go_quiet (fail)
  go_wp2_with fail
  go_ret
  exact ⟨rfl, Gr.drewN _ _ _⟩
theorem mkis_c (W : World) (m : Int) : Calls Tryz.prog 91 #[.int .i64 m] W fun e w' => e = .returned (.func (.func 108) #[] #[pt W.heap.size]) ∧ w'.cell? ⟨W.heap.size, 0, none⟩ = some (.int .i64 m) ∧ Gr (fun _ => False) W w' := by
  go_enter Tryz.func91, Tryz.ntmps91
  go_wp2_with fail
  go_ret
  exact ⟨rfl, by have := heap_alloc_new W (.cells #[.int .i64 m] 3); simp only [World.cell?, this]; rfl, Gr.alloc _ _ _⟩
def zB (k : Int) : Bool := (k == 2) || (k == 3) || (k == 8) || (k == 11) || (k == 17)
def zL (k : Int) : Bool := (k == 1) || (k == 2) || (k == 3) || (k == 4)
/-- Is each field zero that its kind does not name? -/
def bareV : Tr → Bool
  | .mk k s n b l => ((zB k || (s.toList == [])) && ((k == 1) || (n == 0))) && ((k == 4) || (b.length == 0)) && (!zL k || (l.length == 0))
set_option maxRecDepth 100000 in
set_option maxHeartbeats 4000000 in
theorem bare_c (W : World) (k : Int) (s : ByteArray) (n : Int) (b : List Int) (l : List Tr) (ba : Option Addr) (bc : Nat) (la : Option Addr) (lc : Nat) :
    Calls Tryz.prog 67 #[trv k s n (.slice ba b.length bc) (.slice la l.length lc)] W fun e w' => e = .returned (.bool (bareV (.mk k s n b l))) ∧ Gr (fun _ => False) W w' := by
  have hgr : Hid (∀ (o : Obj) w', Gr (fun j => j = W.heap.size) (W.alloc o) w' → Gr (fun _ => False) W w') := fun o w' g => (Gr.alloc W o _).trans' g (fun j hj e => by omega)
  have e1 : ((b.length : Int) == 0) = (b.length == 0) := by cases b <;> simp <;> omega
  have e2 : ((l.length : Int) == 0) = (l.length == 0) := by cases l <;> simp <;> omega
  show Calls Tryz.prog 67 #[trv k s n (.slice ba b.length bc) (.slice la l.length lc)] W fun e w' => e = .returned (.bool (((zB k || (s.toList == [])) && ((k == 1) || (n == 0))) && ((k == 4) || (b.length == 0)) && (!zL k || (l.length == 0)))) ∧ Gr (fun _ => False) W w'
  rw [← e1, ← e2]
  clear e1 e2
  generalize (b.length : Nat) = bl
  generalize (l.length : Nat) = ll
  unfold zB zL
  cases q1 : (k == 1) <;> cases q2 : (k == 2) <;> cases q3 : (k == 3) <;> cases q4 : (k == 4) <;> cases q8 : (k == 8) <;> cases q11 : (k == 11) <;> cases q17 : (k == 17) <;> try (exfalso; simp only [beq_iff_eq] at *; omega)
  all_goals
    go_enter Tryz.func67, Tryz.ntmps67
    go_wp2
    all_goals
      go_ret
      refine ⟨congrArg (fun b => Ending.returned (Value.bool b)) ?_, Gr.alloc _ _ _⟩
      first | (simp [*]; done) | (simp_all; done) | (simp_all; omega)
end Go.Proofs.YtjedbfbolifjjaaGreatDoor
