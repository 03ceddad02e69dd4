/-
  Carried over from another seat of ours (AT).
-/
import Derived.Test.YtfamepdghememaaZ
set_option linter.unusedVariables false
set_option linter.unusedSimpArgs false
namespace Go.Proofs.Ytfamepdghememaa
open Go.RowKit Go.Maps

theorem Rep.nine {A : Nat → Prop} {W : World} {T : Tm} {v : Value} (h : Rep A W T v) : (cellsOf v).length = 9 := by
  obtain ⟨tk, tn, tx, ty, ts, ta, tc, td, a1, n1, c1, a2, n2, c2, rfl⟩ := h.agg
  rfl
theorem reps_at {A : Nat → Prop} {W : World} : ∀ (l : List Tm) (vs : List Value), Reps A W l vs → ∀ (k : Nat) (x : Tm), l[k]? = some x → ∃ v, Rep A W x v ∧ ∀ j u, (cellsOf v)[j]? = some u → (vs.flatMap cellsOf)[k * 9 + j]? = some u
  | [], vs, _, k, x, hx => by simp at hx
  | t :: l, vs, h, k, x, hx => by
    obtain ⟨v, r, rfl, h1, h2⟩ := h
    cases k with
    | zero =>
      simp at hx
      subst hx
      refine ⟨v, h1, fun j u hu => ?_⟩
      rw [List.flatMap_cons, Nat.zero_mul, Nat.zero_add, List.getElem?_append_left]
      · exact hu
      · exact (List.getElem?_eq_some_iff.1 hu).1
    | succ k =>
      obtain ⟨w, k1, k2⟩ := reps_at l r h2 k x (by simpa using hx)
      refine ⟨w, k1, fun j u hu => ?_⟩
      rw [List.flatMap_cons, List.getElem?_append_right (by rw [Rep.nine h1]; omega), Rep.nine h1, show (k + 1) * 9 + j - 9 = k * 9 + j by omega]
      exact k2 j u hu
theorem row_at {A : Nat → Prop} {W : World} {l : List Tm} {vs : List Value} {g : Nat} {cur : Array Value} {t : TypeId} {z : Nat × Nat} (hcur : W.heap[g]? = some (.cells cur t z)) (htake : cur.toList.take (l.length * 9) = vs.flatMap cellsOf) (hreps : Reps A W l vs) (k : Nat) (x : Tm) (hx : l[k]? = some x) :
    ∃ tk tn tx ty ts ta tc td a1 n1 c1 a2 n2 c2, Rep A W x (tv tk tn tx ty ts ta tc td (.slice a1 n1 c1) (.slice a2 n2 c2)) ∧ W.cell? ⟨g, k * 9, none⟩ = some (.int .i64 tk) ∧ W.cell? ⟨g, k * 9 + 1, none⟩ = some (.int .i64 tn) ∧ W.cell? ⟨g, k * 9 + 2, none⟩ = some (.complex .f64 tx ty) ∧ W.cell? ⟨g, k * 9 + 3, none⟩ = some (.string ts) ∧
      W.cell? ⟨g, k * 9 + 4, none⟩ = some (.int .i64 ta) ∧ W.cell? ⟨g, k * 9 + 5, none⟩ = some (.int .u32 tc) ∧ W.cell? ⟨g, k * 9 + 6, none⟩ = some (.int .u64 td) ∧ W.cell? ⟨g, k * 9 + 7, none⟩ = some (.slice a1 n1 c1) ∧ W.cell? ⟨g, k * 9 + 8, none⟩ = some (.slice a2 n2 c2) := by
  obtain ⟨v, h1, h2⟩ := reps_at l vs hreps k x hx
  obtain ⟨tk, tn, tx, ty, ts, ta, tc, td, a1, n1, c1, a2, n2, c2, rfl⟩ := h1.agg
  have hc : ∀ j u, (cellsOf (tv tk tn tx ty ts ta tc td (.slice a1 n1 c1) (.slice a2 n2 c2)))[j]? = some u → W.cell? ⟨g, k * 9 + j, none⟩ = some u := by
    intro j u hu
    have e := h2 j u hu
    rw [← htake] at e
    have hlt : k * 9 + j < l.length * 9 := by
      rcases Nat.lt_or_ge (k * 9 + j) (l.length * 9) with h | h
      · exact h
      · rw [List.getElem?_eq_none (by simp; omega)] at e; cases e
    rw [List.getElem?_take_of_lt hlt] at e
    simp only [World.cell?, hcur]
    simpa using e
  exact ⟨tk, tn, tx, ty, ts, ta, tc, td, a1, n1, c1, a2, n2, c2, h1, hc 0 _ rfl, hc 1 _ rfl, hc 2 _ rfl, hc 3 _ rfl, hc 4 _ rfl, hc 5 _ rfl, hc 6 _ rfl, hc 7 _ rfl, hc 8 _ rfl⟩
theorem Reps.append {A : Nat → Prop} {W : World} : ∀ {l l' : List Tm} {vs vs' : List Value}, Reps A W l vs → Reps A W l' vs' → Reps A W (l ++ l') (vs ++ vs')
  | [], l', vs, vs', h, k => by cases h; exact k
  | t :: l, l', vs, vs', h, k => by
    obtain ⟨v, r, rfl, h1, h2⟩ := h
    exact ⟨v, r ++ vs', rfl, h1, Reps.append h2 k⟩
theorem Reps.one {A : Nat → Prop} {W : World} : ∀ {l : List Tm} {vs : List Value}, Reps A W l vs → ∀ u ∈ vs.flatMap cellsOf, u.oneCell' = true
  | [], vs, h, u, hu => by cases h; simp at hu
  | t :: l, vs, h, u, hu => by
    obtain ⟨v, r, rfl, h1, h2⟩ := h
    rw [List.flatMap_cons, List.mem_append] at hu
    rcases hu with hu | hu
    · obtain ⟨tk, tn, tx, ty, ts, ta, tc, td, a1, n1, c1, a2, n2, c2, rfl⟩ := Rep.agg h1
      simp [cellsOf] at hu
      rcases hu with rfl | rfl | rfl | rfl | rfl | rfl | rfl | rfl | rfl <;> rfl
    · exact Reps.one h2 u hu
end Go.Proofs.Ytfamepdghememaa



