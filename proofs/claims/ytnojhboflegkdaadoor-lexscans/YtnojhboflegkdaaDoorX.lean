/-
  Two tokens held against each other; two texts put together.
-/
import Derived.Test.YtnojhboflegkdaaDoorN
import Derived.Laws.Concat
set_option linter.unusedVariables false
set_option linter.unusedSimpArgs false
namespace Go.Proofs.YtnojhboflegkdaaDoor
open Go.RowKit Go.Maps

theorem toList_ba {s t : ByteArray} : (s.toList == t.toList) = decide (s = t) := by
  by_cases h : s = t
  · subst h; simp
  · have : s.toList ≠ t.toList := fun e => h (list_ba (by rw [e, ByteArray.toList_eq]))
    simp [h, this]
/-- Are two tokens the same but for their places? -/
def smV (t u : Tok) : Bool := (t.k == u.k) && decide (t.s = u.s) && (t.n == u.n) && decide (sb t.b = sb u.b)

set_option maxRecDepth 20000 in
set_option maxHeartbeats 2000000 in
theorem same_c (W : World) (t u : Tok) (v1 v2 : Value) (h1 : Sb W v1 t.b) (h2 : Sb W v2 u.b) (i j : Int) :
    Calls Tryd.prog 17 #[.agg #[.int .i64 t.k, .string t.s, .int .i64 t.n, v1, .int .i64 i], .agg #[.int .i64 u.k, .string u.s, .int .i64 u.n, v2, .int .i64 j]] W fun e w' => e = .returned (.bool (smV t u)) ∧ Gr (fun _ => False) W w' := by
  obtain ⟨a1, c1, rfl, _⟩ := h1.sv
  obtain ⟨a2, c2, rfl, _⟩ := h2.sv
  have gA : ∀ o o' : Obj, Gr (fun _ => False) W ((W.alloc o).alloc o') := fun o o' => (Gr.alloc W o _).trans (Gr.alloc _ o' _)
  have x1 : ∀ o o' : Obj, (convert 31 9 (.slice a1 t.b.length c1)).run Tryd.prog ((W.alloc o).alloc o') = .ok (.string (sb t.b)) ((W.alloc o).alloc o') := fun o o' => conv_sb (h1.gr (gA o o'))
  have x2 : ∀ o o' : Obj, (convert 31 9 (.slice a2 u.b.length c2)).run Tryd.prog ((W.alloc o).alloc o') = .ok (.string (sb u.b)) ((W.alloc o).alloc o') := fun o o' => conv_sb (h2.gr (gA o o'))
  unfold smV
  rw [← toList_ba, ← toList_ba]
  replace gA := Lib.hid gA
  clear h1 h2
  generalize sb t.b = b1 at x1 ⊢
  generalize sb u.b = b2 at x2 ⊢
  cases q1 : (t.k == u.k)
  · go_enter Tryd.func17, Tryd.ntmps17
    go_wp2_with fail
    go_ret
    exact ⟨by simp, gA.out _ _⟩
  · cases q2 : (t.s.toList == u.s.toList)
    · go_enter Tryd.func17, Tryd.ntmps17
      go_wp2_with fail
      go_ret
      exact ⟨by simp, gA.out _ _⟩
    · cases q3 : (t.n == u.n)
      · go_enter Tryd.func17, Tryd.ntmps17
        go_wp2_with fail
        go_ret
        exact ⟨by simp, gA.out _ _⟩
      · cases q4 : (b1.toList == b2.toList)
        all_goals
          go_enter Tryd.func17, Tryd.ntmps17
          go_wp2_with fail
          go_ret
          exact ⟨by simp, gA.out _ _⟩
end Go.Proofs.YtnojhboflegkdaaDoor
