/-
  Carried over from another seat of ours (QG).
-/
import Derived.Test.YticgnaikbmnagaaQF
set_option linter.unusedVariables false
set_option linter.unusedSimpArgs false
namespace Go.Proofs.Yticgnaikbmnagaa
open Go.RowKit Go.Maps Go.WideMaps
attribute [local go_sem] Oper.semAt_some
variable {S S' : Nat → Prop} {W W1 W' : World}
theorem row_cell {base p g cap size : Nat} {e : TypeId} {xs : List Value} (h : W.ownsRow base e size (.slice (some ⟨g, 0, none⟩) p cap) p xs) {q : Nat} {u : Value} (hu : xs[q]? = some u) : W.cell? ⟨g, q, none⟩ = some u ∧ g < W.heap.size ∧ p ≤ cap := by
  rcases h.2 with ⟨e, _⟩ | ⟨g', cap', cur, e, h1, h2, h3, h4, h5, h6⟩
  · cases e
  · cases e
    have hq : q < p * size := by have := (List.getElem?_eq_some_iff.1 hu).1; rw [h.1] at this; exact this
    refine ⟨?_, (Array.getElem?_eq_some_iff.1 h2).1, h3⟩
    rw [← h6, List.getElem?_take_of_lt hq] at hu
    simp only [World.cell?, h2]
    simpa using hu
theorem row_form {base p size : Nat} {e : TypeId} {v : Value} {xs : List Value} (h : W.ownsRow base e size v p xs) (hp : 0 < p) : ∃ g cap, v = .slice (some ⟨g, 0, none⟩) p cap := by
  rcases h.2 with ⟨_, h0⟩ | ⟨g', cap', cur, e, _⟩
  · omega
  · exact ⟨_, _, e⟩
/-! ### What fits -/
end Go.Proofs.Yticgnaikbmnagaa

