/-
  Carried over from another seat of ours (Z).
-/
import Derived.Test.YticgnaikbmnagaaY
set_option linter.unusedVariables false
set_option linter.unusedSimpArgs false
namespace Go.Proofs.Yticgnaikbmnagaa
open Go.RowKit Go.Maps

structure Tm where
  mk :: (t : Lf) (bs : List Int) (l : List Tm)

def cellsOf : Value → List Value
  | .agg a => a.toList
  | _ => []

/-- A row of bytes that only blocks of A hold. -/
def RowB (A : Nat → Prop) (W : World) (bs : List Int) (v : Value) : Prop :=
  (bs = [] ∧ ∃ a c, v = .slice a 0 c) ∨ ∃ g cap cur, v = .slice (some ⟨g, 0, none⟩) bs.length cap ∧ A g ∧ W.heap[g]? = some (.cells cur 5 (0, 0)) ∧ bs.length ≤ cap ∧ cur.toList.take bs.length = bs.map (Value.int .u8)
/-- A row of terms. -/
def RowT (A : Nat → Prop) (W : World) (vs : List Value) (n : Nat) (v : Value) : Prop :=
  (n = 0 ∧ ∃ a c, v = .slice a 0 c) ∨ ∃ g cap cur, v = .slice (some ⟨g, 0, none⟩) n cap ∧ A g ∧ W.heap[g]? = some (.cells cur 35 (0, 0)) ∧ n ≤ cap ∧ cur.toList.take (n * 9) = vs.flatMap cellsOf

/-- The value v is the tree, in memory that only blocks of A hold. -/
def Rep (A : Nat → Prop) (W : World) : Tm → Value → Prop :=
  Tm.rec (motive_1 := fun _ => Value → Prop) (motive_2 := fun _ => List Value → Prop)
    (fun t bs l ih v => ∃ bv lv vs, v = tv t.k t.n t.x t.y t.s t.a t.c t.d bv lv ∧ RowB A W bs bv ∧ RowT A W vs l.length lv ∧ ih vs)
    (fun vs => vs = []) (fun _ _ h1 h2 vs => ∃ v r, vs = v :: r ∧ h1 v ∧ h2 r)
def Reps (A : Nat → Prop) (W : World) : List Tm → List Value → Prop :=
  Tm.rec_1 (motive_1 := fun _ => Value → Prop) (motive_2 := fun _ => List Value → Prop)
    (fun t bs l ih v => ∃ bv lv vs, v = tv t.k t.n t.x t.y t.s t.a t.c t.d bv lv ∧ RowB A W bs bv ∧ RowT A W vs l.length lv ∧ ih vs)
    (fun vs => vs = []) (fun _ _ h1 h2 vs => ∃ v r, vs = v :: r ∧ h1 v ∧ h2 r)
/-- What a part's memory asks of another world. -/
def Turn (A A' : Nat → Prop) (W W' : World) : Prop := ∀ k, A k → k < W.heap.size → A' k ∧ W'.heap[k]? = W.heap[k]?
theorem RowB.turn {A A' : Nat → Prop} {W W' : World} (h : Turn A A' W W') {bs : List Int} {v : Value} (k : RowB A W bs v) : RowB A' W' bs v := by
  rcases k with k | ⟨g, cap, cur, rfl, hg, hc, h1, h2⟩
  · exact .inl k
  · obtain ⟨h3, h4⟩ := h g hg (Array.getElem?_eq_some_iff.1 hc).1
    exact .inr ⟨g, cap, cur, rfl, h3, h4.trans hc, h1, h2⟩
theorem RowT.turn {A A' : Nat → Prop} {W W' : World} (h : Turn A A' W W') {vs : List Value} {n : Nat} {v : Value} (k : RowT A W vs n v) : RowT A' W' vs n v := by
  rcases k with k | ⟨g, cap, cur, rfl, hg, hc, h1, h2⟩
  · exact .inl k
  · obtain ⟨h3, h4⟩ := h g hg (Array.getElem?_eq_some_iff.1 hc).1
    exact .inr ⟨g, cap, cur, rfl, h3, h4.trans hc, h1, h2⟩
theorem Rep.turn {A A' : Nat → Prop} {W W' : World} (h : Turn A A' W W') {T : Tm} {v : Value} (k : Rep A W T v) : Rep A' W' T v :=
  Tm.rec (motive_1 := fun T => ∀ v, Rep A W T v → Rep A' W' T v) (motive_2 := fun l => ∀ vs, Reps A W l vs → Reps A' W' l vs)
    (fun t bs l ih v k => by
      obtain ⟨bv, lv, vs, rfl, k1, k2, k3⟩ := k
      exact ⟨bv, lv, vs, rfl, k1.turn h, k2.turn h, ih vs k3⟩)
    (fun _ k => k)
    (fun t l h1 h2 vs k => by
      obtain ⟨v, r, rfl, k1, k2⟩ := k
      exact ⟨v, r, rfl, h1 v k1, h2 r k2⟩) T v k
theorem Reps.turn {A A' : Nat → Prop} {W W' : World} (h : Turn A A' W W') : ∀ {l : List Tm} {vs : List Value}, Reps A W l vs → Reps A' W' l vs
  | [], vs, k => k
  | t :: l, vs, k => by
    obtain ⟨v, r, rfl, k1, k2⟩ := k
    exact ⟨v, r, rfl, Rep.turn h k1, Reps.turn h k2⟩
theorem Reps.snoc {A : Nat → Prop} {W : World} {T : Tm} {v : Value} : ∀ {l : List Tm} {vs : List Value}, Reps A W l vs → Rep A W T v → Reps A W (l ++ [T]) (vs ++ [v])
  | [], vs, k, h => by cases k; exact ⟨v, [], rfl, h, rfl⟩
  | t :: l, vs, k, h => by
    obtain ⟨v', r, rfl, k1, k2⟩ := k
    exact ⟨v', r ++ [v], rfl, k1, Reps.snoc k2 h⟩
theorem Rep.agg {A : Nat → Prop} {W : World} {T : Tm} {v : Value} (h : Rep A W T v) : ∃ k n x y s a c d a1 n1 c1 a2 n2 c2, v = tv k n x y s a c d (.slice a1 n1 c1) (.slice a2 n2 c2) := by
  cases T with
  | mk t bs l =>
    obtain ⟨bv, lv, vs, rfl, k1, k2, k3⟩ := h
    rcases k1 with ⟨_, a, c, rfl⟩ | ⟨g, cap, cur, rfl, _⟩ <;> rcases k2 with ⟨_, a', c', rfl⟩ | ⟨g', cap', cur', rfl, _⟩
    all_goals exact ⟨_, _, _, _, _, _, _, _, _, _, _, _, _, _, rfl⟩
theorem rowB_own {W : World} {N : Nat} {bs : List Int} {v : Value} (h : W.ownsRow N 5 1 v bs.length (bs.map (Value.int .u8))) : RowB (fun k => N ≤ k) W bs v := by
  rcases h.2 with ⟨rfl, h0⟩ | ⟨g, cap, cur, rfl, hg, h2, h3, _, _, h6⟩
  · exact .inl ⟨List.eq_nil_of_length_eq_zero h0, _, _, rfl⟩
  · exact .inr ⟨g, cap, cur, rfl, hg, h2, h3, by simpa using h6⟩
theorem rowT_own {W : World} {N n : Nat} {vs : List Value} {v : Value} (h : W.ownsRow N 35 9 v n (vs.flatMap cellsOf)) : RowT (fun k => N ≤ k) W vs n v := by
  rcases h.2 with ⟨rfl, h0⟩ | ⟨g, cap, cur, rfl, hg, h2, h3, _, _, h6⟩
  · exact .inl ⟨h0, _, _, rfl⟩
  · exact .inr ⟨g, cap, cur, rfl, hg, h2, h3, h6⟩

theorem info31 : (Try.prog.info? 35).map (fun i => (i.zero, i.size, i.bytes)) = some (some (lf 0 0 0 0 e0 0 0 0), 9, 120) := by kernel_rfl

/-- One more element behind a row of the call's own, and where the row lies. -/
theorem wpList_own2 (w : World) {ops : Array Oper} {rest : List Oper} {o : Oper} {a : Act} {Q : Exit → Act → World → Prop} (hgd : o.guard = none) (t : TypeId) (x y : Operand)
    (ho : o.op = .call { callee := .builtin .append, args := #[x, y], argTypes := #[t, t] }) (base : Nat) (e : TypeId) (i : TypeInfo) (z : Value) (size bytes : Nat) (ht : Try.prog.underlying t = some (.slice e)) (hi : Try.prog.info? e = some i) (hz : i.zero = some z)
    (hsize : i.size = size) (hby : i.bytes = bytes) (hzs : z.cells.size = size) (hsz : 0 < size)
    (v : Value) (n : Nat) (xs : List Value) (ad : Addr) (m c : Nat) (news : List Value) (hx : a.eval x = v) (hy : a.eval y = .slice (some ad) m c) (hown : w.ownsRow base e size v n xs)
    (hl : news.length = m * size) (hnews : ∀ j u, news[j]? = some u → w.cell? (ad.add j) = some u) (h1 : ∀ u ∈ news, u.oneCell' = true)
    (h63 : n + m ≤ maxLen) (hbytes : (n + m) * bytes ≤ 140737488355328) (hbase : base ≤ w.heap.size)
    (h : ∀ v' w', w'.ownsRow base e size v' (n + m) (xs ++ news) → w.grownBy w' v.ownBlock → (v'.ownBlock = v.ownBlock ∨ v'.ownBlock = some w.heap.size) → wpList Try.prog ops Q rest (a.put o.dst v') w') :
    wpList Try.prog ops Q (o :: rest) a w := by
  refine wpList_plain hgd fun K hK => ?_
  obtain ⟨v', w', hr, hown', hgrow, _, hloc⟩ := run_append_own_at (P := Try.prog) w base t o.type e i z size bytes ht hi hz hsize hby hzs hsz v n xs hown ad m c news hl hnews h1 h63 hbytes hbase
  unfold Oper.wp execOp
  simp only [ho, resolve, invoke, builtin, Sem.run_bind, Sem.run_pure, Result.andThen_ok, List.map_toArray, List.map_cons, List.map_nil, hx, hy, hr]
  exact hK _ _ (h v' w' hown' hgrow hloc)

/-! ### What a text is -/
end Go.Proofs.Yticgnaikbmnagaa



