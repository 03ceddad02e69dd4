/-
  Rows of ints: their values, cells, and what taking one out makes of them.
-/
import Derived.Test.YticgnaikbmnagaaQK
import Derived.Test.YticgnaikbmnagaaQQ
set_option linter.unusedVariables false
set_option linter.unusedSimpArgs false
namespace Go.Proofs.Yticgnaikbmnagaa
open Go.RowKit Go.Maps
variable {S S' : Nat → Prop} {W W1 W' : World}
/-- These values are these ints. -/
def Ivs : List Int → List Value → Prop
  | [], vs => vs = []
  | z :: l, vs => ∃ a1 c1 a2 c2 r, vs = iv z a1 c1 a2 c2 :: r ∧ Ivs l r
theorem Ivs.len : ∀ {l : List Int} {vs : List Value}, Ivs l vs → vs.length = l.length
  | [], vs, h => by cases h; rfl
  | z :: l, vs, h => by
    obtain ⟨a1, c1, a2, c2, r, rfl, h1⟩ := h
    simp [h1.len]
theorem Ivs.append : ∀ {l l' : List Int} {vs vs' : List Value}, Ivs l vs → Ivs l' vs' → Ivs (l ++ l') (vs ++ vs')
  | [], l', vs, vs', h, k => by cases h; exact k
  | z :: l, l', vs, vs', h, k => by
    obtain ⟨a1, c1, a2, c2, r, rfl, h1⟩ := h
    exact ⟨a1, c1, a2, c2, r ++ vs', rfl, h1.append k⟩
theorem Ivs.one (z : Int) (a1 : Option Addr) (c1 : Nat) (a2 : Option Addr) (c2 : Nat) : Ivs [z] [iv z a1 c1 a2 c2] := ⟨a1, c1, a2, c2, [], rfl, rfl⟩
theorem Ivs.flen : ∀ {l : List Int} {vs : List Value}, Ivs l vs → (vs.flatMap cellsOf).length = l.length * 9
  | [], vs, h => by cases h; rfl
  | z :: l, vs, h => by
    obtain ⟨a1, c1, a2, c2, r, rfl, h1⟩ := h
    rw [List.flatMap_cons, List.length_append, h1.flen]
    simp [cellsOf]; omega
theorem Ivs.cut : ∀ {l : List Int} {vs : List Value}, Ivs l vs → ∀ i, i ≤ l.length → Ivs (l.take i) (vs.take i) ∧ Ivs (l.drop i) (vs.drop i) ∧ (vs.flatMap cellsOf).take (i * 9) = (vs.take i).flatMap cellsOf ∧ (vs.flatMap cellsOf).drop (i * 9) = (vs.drop i).flatMap cellsOf
  | l, vs, h, 0, hi => by simpa using ⟨rfl, h⟩
  | [], vs, h, i + 1, hi => by simp at hi
  | z :: l, vs, h, i + 1, hi => by
    obtain ⟨a1, c1, a2, c2, r, rfl, h1⟩ := h
    obtain ⟨k1, k2, k3, k4⟩ := h1.cut i (by simpa using hi)
    have hc : (cellsOf (iv z a1 c1 a2 c2)).length = 9 := rfl
    refine ⟨⟨a1, c1, a2, c2, _, rfl, k1⟩, k2, ?_, ?_⟩
    · rw [List.flatMap_cons, List.take_append, hc, show (i + 1) * 9 - 9 = i * 9 by omega, k3, List.take_of_length_le (by rw [hc]; omega)]
      simp
    · rw [List.flatMap_cons, List.drop_append, hc, show (i + 1) * 9 - 9 = i * 9 by omega, k4, List.drop_of_length_le (by rw [hc]; omega)]
      simp
theorem Ivs.at_ : ∀ {l : List Int} {vs : List Value}, Ivs l vs → ∀ {j : Nat} {z : Int}, l[j]? = some z → ∃ a1 c1 a2 c2, ∀ q u, (cellsOf (iv z a1 c1 a2 c2))[q]? = some u → (vs.flatMap cellsOf)[j * 9 + q]? = some u
  | [], vs, h, j, z, hz => by simp at hz
  | z' :: l, vs, h, 0, z, hz => by
    obtain ⟨a1, c1, a2, c2, r, rfl, h1⟩ := h
    cases hz
    refine ⟨a1, c1, a2, c2, fun q u hu => ?_⟩
    rw [List.flatMap_cons, Nat.zero_mul, Nat.zero_add, List.getElem?_append_left (List.getElem?_eq_some_iff.1 hu).1]
    exact hu
  | z' :: l, vs, h, j + 1, z, hz => by
    obtain ⟨a1, c1, a2, c2, r, rfl, h1⟩ := h
    obtain ⟨b1, d1, b2, d2, hb⟩ := h1.at_ (j := j) (z := z) (by simpa using hz)
    refine ⟨b1, d1, b2, d2, fun q u hu => ?_⟩
    have hc : (cellsOf (iv z' a1 c1 a2 c2)).length = 9 := rfl
    rw [List.flatMap_cons, List.getElem?_append_right (by rw [hc]; omega), hc, show (j + 1) * 9 + q - 9 = j * 9 + q by omega]
    exact hb q u hu
theorem Ivs.onec : ∀ {l : List Int} {vs : List Value}, Ivs l vs → ∀ u ∈ vs.flatMap cellsOf, u.oneCell' = true
  | [], vs, h, u, hu => by cases h; simp at hu
  | z :: l, vs, h, u, hu => by
    obtain ⟨a1, c1, a2, c2, r, rfl, h1⟩ := h
    rw [List.flatMap_cons, List.mem_append] at hu
    rcases hu with hu | hu
    · simp [cellsOf] at hu
      rcases hu with rfl | rfl | rfl | rfl | rfl | rfl | rfl | rfl | rfl <;> rfl
    · exact h1.onec u hu
theorem Ivs.erase {l : List Int} {vs : List Value} (h : Ivs l vs) (i : Nat) (hi : i < l.length) : Ivs (l.eraseIdx i) (vs.eraseIdx i) ∧ (vs.eraseIdx i).flatMap cellsOf = (vs.flatMap cellsOf).take (i * 9) ++ (vs.flatMap cellsOf).drop ((i + 1) * 9) := by
  obtain ⟨k1, _, k3, _⟩ := h.cut i (by omega)
  obtain ⟨_, k2, _, k4⟩ := h.cut (i + 1) (by omega)
  rw [List.eraseIdx_eq_take_drop_succ, List.eraseIdx_eq_take_drop_succ, List.flatMap_append, k3, k4]
  exact ⟨k1.append k2, rfl⟩
/-- A mailbox: its block b, the ints l in it, p of them passed over. -/
structure Mb (W : World) (b : Nat) (l : List Int) (p : Nat) : Prop where
  ex : ∃ (v : Value) (vs : List Value), W.heap[b]? = some (.cells #[v, .int .i64 (p : Int)] 49 (0, 0)) ∧ W.ownsRow 0 35 9 v l.length (vs.flatMap cellsOf) ∧ Ivs l vs
  le : p ≤ l.length
/-- The box's block, and rows of terms. -/
def Mx (W : World) (b : Nat) (i : Nat) : Prop := i = b ∨ ∃ v u, W.heap[b]? = some (Obj.cells #[v, u] 49 (0, 0)) ∧ v.ownBlock = some i
theorem ownsRow_typed {W W' : World} {base : Nat} {v : Value} {n : Nat} {xs : List Value} (h : W.ownsRow base 35 9 v n xs) (hb : ∀ i : Nat, (∃ cs : Array Value, W.heap[i]? = some (Obj.cells cs 35 (0, 0))) → W'.heap[i]? = W.heap[i]?) : W'.ownsRow base 35 9 v n xs := by
  refine ⟨h.1, ?_⟩
  rcases h.2 with h0 | ⟨g, cap, cur, e, h1, h2, h3⟩
  · exact .inl h0
  · exact .inr ⟨g, cap, cur, e, h1, (hb g ⟨_, h2⟩).trans h2, h3⟩
theorem Mb.gr {b p : Nat} {l : List Int} (h : Mb W b l p) (g : Gr S W W') (hb : ¬ S b) (hS : ∀ (i : Nat) (cs : Array Value), W.heap[i]? = some (Obj.cells cs 35 (0, 0)) → ¬ S i) : Mb W' b l p := by
  obtain ⟨⟨v, vs, h1, h2, h3⟩, h4⟩ := h
  exact ⟨⟨v, vs, g.keep h1 hb, ownsRow_typed h2 (fun i ⟨cs, hi⟩ => g.block i (Array.getElem?_eq_some_iff.1 hi).1 (hS i cs hi)), h3⟩, h4⟩
theorem Mb.g0 {b p : Nat} {l : List Int} (h : Mb W b l p) (g : Gr (fun _ => False) W W') : Mb W' b l p := h.gr g (fun e => e) (fun _ _ _ e => e)
theorem Mb.lt {b p : Nat} {l : List Int} (h : Mb W b l p) : b < W.heap.size := by
  obtain ⟨⟨v, vs, h1, _⟩, _⟩ := h; exact (Array.getElem?_eq_some_iff.1 h1).1
theorem Mb.typed {b p i : Nat} {l : List Int} (h : Mb W b l p) (hi : Mx W b i) : i = b ∨ ∃ cs : Array Value, W.heap[i]? = some (Obj.cells cs 35 (0, 0)) := by
  rcases hi with e | ⟨v, u, e1, e2⟩
  · exact .inl e
  · obtain ⟨⟨v', vs, h1, h2, h3⟩, h4⟩ := h
    rw [h1] at e1
    cases e1
    rcases h2.2 with ⟨e', _⟩ | ⟨g', cap, cur, e', _, k, _⟩
    · rw [e'] at e2; cases e2
    · rw [e'] at e2; cases e2; exact .inr ⟨_, k⟩
theorem Mb.gr2 {b p : Nat} {l : List Int} (h : Mb W b l p) (g : Gr S W W') (hS : ∀ i, Mx W b i → ¬ S i) : Mb W' b l p ∧ ∀ i, Mx W' b i → Mx W b i := by
  obtain ⟨⟨v, vs, h1, h2, h3⟩, h4⟩ := h
  have k1 := g.keep h1 (hS b (.inl rfl))
  refine ⟨⟨⟨v, vs, k1, ownsRow_of_block h2 (fun k _ e => g.block k (ownsRow_lt h2 k e).2 (hS k (.inr ⟨_, _, h1, e⟩))), h3⟩, h4⟩, fun i hi => ?_⟩
  rcases hi with e | ⟨v', u, e1, e2⟩
  · exact .inl e
  · rw [k1] at e1; cases e1; exact .inr ⟨_, _, h1, e2⟩
theorem Mx.back {b i : Nat} (h : Mx W' b i) (g : Gr (fun _ => False) W W') (hb : b < W.heap.size) : Mx W b i := by
  rcases h with e | ⟨v, u, e1, e2⟩
  · exact .inl e
  · exact .inr ⟨v, u, (g.block b hb (fun e => e)).symm.trans e1, e2⟩
theorem two_cells {g : Nat} {t : TypeId} {x0 x1 : Value} (h : W.heap[g]? = some (.cells #[x0, x1] t (0, 0))) : (W.cell? ⟨g, 0, none⟩ = some x0 ∧ W.cell? ⟨g, 1, none⟩ = some x1) ∧ ∀ o, W.frozen? ⟨g, o, none⟩ = false := by
  simp [World.cell?, World.frozen?, h]
theorem set_second {g : Nat} {t : TypeId} {x0 x1 : Value} (h : W.heap[g]? = some (.cells #[x0, x1] t (0, 0))) (u : Value) : (W.setCell ⟨g, 1, none⟩ u).heap[g]? = some (.cells #[x0, u] t (0, 0)) := heap_setCell_same W g 1 _ t u h
theorem set_first {g : Nat} {t : TypeId} {x0 x1 : Value} (h : W.heap[g]? = some (.cells #[x0, x1] t (0, 0))) (u : Value) : (W.setCell ⟨g, 0, none⟩ u).heap[g]? = some (.cells #[u, x1] t (0, 0)) := heap_setCell_same W g 0 _ t u h
/-- The zero of a term. -/
abbrev zt : Value := ts 0 0 0 0 e0 0 0 0 none 0 0 none 0 0
theorem zero35 (w : World) : (zeroValue 35).run Try.prog w = .ok zt w := by kernel_rfl
/-- clear of one term of a row. -/
theorem run_clear9 (w : World) (ty : TypeId) (g o c : Nat) (cur : Array Value) (hg : w.heap[g]? = some (.cells cur 35 (0, 0))) (hfit : o + 9 ≤ cur.size) :
    (Builtin.clear_ #[33] ty #[.slice (some ⟨g, o, none⟩) 1 c]).run Try.prog w = .ok (.tuple #[]) (w.setRow g (cur.toList.take o ++ cellsOf zt ++ cur.toList.drop (o + 9)).toArray) := by
  have hst := run_storeCells_at (P := Try.prog) g o 35 (cellsOf zt) 0 cur w hg (by simpa [cellsOf] using hfit) (fun u hu => by simp [cellsOf] at hu; rcases hu with rfl | rfl | rfl | rfl | rfl | rfl | rfl | rfl | rfl <;> rfl)
  have hz : (Builtin.zeroCells zt.cells 1).toList = cellsOf zt := by kernel_rfl
  simp only [Nat.add_zero] at hst
  have hl : (cellsOf zt).length = 9 := rfl
  rw [hl] at hst
  simp only [Builtin.clear_]
  simp [run_underlying Try.underlying33, zero35, hz, hst]
end Go.Proofs.Yticgnaikbmnagaa
