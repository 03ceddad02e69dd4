/-
  Carried over from another seat of ours (AT).
-/
import Derived.Test.YticgnaikbmnagaaZ
set_option linter.unusedVariables false
set_option linter.unusedSimpArgs false
namespace Go.Proofs.Yticgnaikbmnagaa
open Go.RowKit Go.Maps

theorem Rep.nine {A : Nat → Prop} {W : World} {T : Tm} {v : Value} (h : Rep A W T v) : (cellsOf v).length = 9 := by
  obtain ⟨tk, tn, tx, ty, ts, ta, tc, td, a1, n1, c1, a2, n2, c2, rfl⟩ := h.agg
  rfl
theorem reps_at {A : Nat → Prop} {W : World} : ∀ (l : List Tm) (vs : List Value), Reps A W l vs → ∀ (k : Nat) (x : Tm), l[k]? = some x → ∃ v, Rep A W x v ∧ ∀ j u, (cellsOf v)[j]? = some u → (vs.flatMap cellsOf)[k * 9 + j]? = some u
  | [], vs, _, k, x, hx => by simp at hx
  | t :: l, vs, h, k, x, hx => by
    obtain ⟨v, r, rfl, h1, h2⟩ := h
    cases k with
    | zero =>
      simp at hx
      subst hx
      refine ⟨v, h1, fun j u hu => ?_⟩
      rw [List.flatMap_cons, Nat.zero_mul, Nat.zero_add, List.getElem?_append_left]
      · exact hu
      · exact (List.getElem?_eq_some_iff.1 hu).1
    | succ k =>
      obtain ⟨w, k1, k2⟩ := reps_at l r h2 k x (by simpa using hx)
      refine ⟨w, k1, fun j u hu => ?_⟩
      rw [List.flatMap_cons, List.getElem?_append_right (by rw [Rep.nine h1]; omega), Rep.nine h1, show (k + 1) * 9 + j - 9 = k * 9 + j by omega]
      exact k2 j u hu
theorem Reps.append {A : Nat → Prop} {W : World} : ∀ {l l' : List Tm} {vs vs' : List Value}, Reps A W l vs → Reps A W l' vs' → Reps A W (l ++ l') (vs ++ vs')
  | [], l', vs, vs', h, k => by cases h; exact k
  | t :: l, l', vs, vs', h, k => by
    obtain ⟨v, r, rfl, h1, h2⟩ := h
    exact ⟨v, r ++ vs', rfl, h1, Reps.append h2 k⟩
theorem Reps.one {A : Nat → Prop} {W : World} : ∀ {l : List Tm} {vs : List Value}, Reps A W l vs → ∀ u ∈ vs.flatMap cellsOf, u.oneCell' = true
  | [], vs, h, u, hu => by cases h; simp at hu
  | t :: l, vs, h, u, hu => by
    obtain ⟨v, r, rfl, h1, h2⟩ := h
    rw [List.flatMap_cons, List.mem_append] at hu
    rcases hu with hu | hu
    · obtain ⟨tk, tn, tx, ty, ts, ta, tc, td, a1, n1, c1, a2, n2, c2, rfl⟩ := Rep.agg h1
      simp [cellsOf] at hu
      rcases hu with rfl | rfl | rfl | rfl | rfl | rfl | rfl | rfl | rfl <;> rfl
    · exact Reps.one h2 u hu
end Go.Proofs.Yticgnaikbmnagaa



