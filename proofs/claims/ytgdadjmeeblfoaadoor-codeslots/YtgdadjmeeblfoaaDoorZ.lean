/-
  Carried over from another seat of ours (Z).
-/
import Derived.Test.YtgdadjmeeblfoaaDoorY
set_option linter.unusedVariables false
set_option linter.unusedSimpArgs false
namespace Go.Proofs.YtgdadjmeeblfoaaDoor
open Go.RowKit Go.Maps

structure Tm where
  mk :: (t : Lf) (bs : List Int) (l : List Tm)

def cellsOf : Value → List Value
  | .agg a => a.toList
  | _ => []

/-- A row of bytes that only blocks of A hold. -/
def RowB (A : Nat → Prop) (W : World) (bs : List Int) (v : Value) : Prop :=
  (bs = [] ∧ ∃ a c, v = .slice a 0 c) ∨ ∃ g cap cur, v = .slice (some ⟨g, 0, none⟩) bs.length cap ∧ A g ∧ W.heap[g]? = some (.cells cur 5 (0, 0)) ∧ bs.length ≤ cap ∧ cur.toList.take bs.length = bs.map (Value.int .u8)
/-- A row of terms. -/
def RowT (A : Nat → Prop) (W : World) (vs : List Value) (n : Nat) (v : Value) : Prop :=
  (n = 0 ∧ ∃ a c, v = .slice a 0 c) ∨ ∃ g cap cur, v = .slice (some ⟨g, 0, none⟩) n cap ∧ A g ∧ W.heap[g]? = some (.cells cur 34 (0, 0)) ∧ n ≤ cap ∧ cur.toList.take (n * 9) = vs.flatMap cellsOf

/-- The value v is the tree, in memory that only blocks of A hold. -/
def Rep (A : Nat → Prop) (W : World) : Tm → Value → Prop :=
  Tm.rec (motive_1 := fun _ => Value → Prop) (motive_2 := fun _ => List Value → Prop)
    (fun t bs l ih v => ∃ bv lv vs, v = tv t.k t.n t.x t.y t.s t.a t.c t.d bv lv ∧ RowB A W bs bv ∧ RowT A W vs l.length lv ∧ ih vs)
    (fun vs => vs = []) (fun _ _ h1 h2 vs => ∃ v r, vs = v :: r ∧ h1 v ∧ h2 r)
def Reps (A : Nat → Prop) (W : World) : List Tm → List Value → Prop :=
  Tm.rec_1 (motive_1 := fun _ => Value → Prop) (motive_2 := fun _ => List Value → Prop)
    (fun t bs l ih v => ∃ bv lv vs, v = tv t.k t.n t.x t.y t.s t.a t.c t.d bv lv ∧ RowB A W bs bv ∧ RowT A W vs l.length lv ∧ ih vs)
    (fun vs => vs = []) (fun _ _ h1 h2 vs => ∃ v r, vs = v :: r ∧ h1 v ∧ h2 r)
/-- What a part's memory asks of another world. -/
def Turn (A A' : Nat → Prop) (W W' : World) : Prop := ∀ k, A k → k < W.heap.size → A' k ∧ W'.heap[k]? = W.heap[k]?
theorem RowB.turn {A A' : Nat → Prop} {W W' : World} (h : Turn A A' W W') {bs : List Int} {v : Value} (k : RowB A W bs v) : RowB A' W' bs v := by
  rcases k with k | ⟨g, cap, cur, rfl, hg, hc, h1, h2⟩
  · exact .inl k
  · obtain ⟨h3, h4⟩ := h g hg (Array.getElem?_eq_some_iff.1 hc).1
    exact .inr ⟨g, cap, cur, rfl, h3, h4.trans hc, h1, h2⟩
theorem RowT.turn {A A' : Nat → Prop} {W W' : World} (h : Turn A A' W W') {vs : List Value} {n : Nat} {v : Value} (k : RowT A W vs n v) : RowT A' W' vs n v := by
  rcases k with k | ⟨g, cap, cur, rfl, hg, hc, h1, h2⟩
  · exact .inl k
  · obtain ⟨h3, h4⟩ := h g hg (Array.getElem?_eq_some_iff.1 hc).1
    exact .inr ⟨g, cap, cur, rfl, h3, h4.trans hc, h1, h2⟩
theorem Rep.turn {A A' : Nat → Prop} {W W' : World} (h : Turn A A' W W') {T : Tm} {v : Value} (k : Rep A W T v) : Rep A' W' T v :=
  Tm.rec (motive_1 := fun T => ∀ v, Rep A W T v → Rep A' W' T v) (motive_2 := fun l => ∀ vs, Reps A W l vs → Reps A' W' l vs)
    (fun t bs l ih v k => by
      obtain ⟨bv, lv, vs, rfl, k1, k2, k3⟩ := k
      exact ⟨bv, lv, vs, rfl, k1.turn h, k2.turn h, ih vs k3⟩)
    (fun _ k => k)
    (fun t l h1 h2 vs k => by
      obtain ⟨v, r, rfl, k1, k2⟩ := k
      exact ⟨v, r, rfl, h1 v k1, h2 r k2⟩) T v k
theorem Reps.turn {A A' : Nat → Prop} {W W' : World} (h : Turn A A' W W') : ∀ {l : List Tm} {vs : List Value}, Reps A W l vs → Reps A' W' l vs
  | [], vs, k => k
  | t :: l, vs, k => by
    obtain ⟨v, r, rfl, k1, k2⟩ := k
    exact ⟨v, r, rfl, Rep.turn h k1, Reps.turn h k2⟩
theorem Rep.agg {A : Nat → Prop} {W : World} {T : Tm} {v : Value} (h : Rep A W T v) : ∃ k n x y s a c d a1 n1 c1 a2 n2 c2, v = tv k n x y s a c d (.slice a1 n1 c1) (.slice a2 n2 c2) := by
  cases T with
  | mk t bs l =>
    obtain ⟨bv, lv, vs, rfl, k1, k2, k3⟩ := h
    rcases k1 with ⟨_, a, c, rfl⟩ | ⟨g, cap, cur, rfl, _⟩ <;> rcases k2 with ⟨_, a', c', rfl⟩ | ⟨g', cap', cur', rfl, _⟩
    all_goals exact ⟨_, _, _, _, _, _, _, _, _, _, _, _, _, _, rfl⟩
/-! ### What a text is -/
end Go.Proofs.YtgdadjmeeblfoaaDoor



