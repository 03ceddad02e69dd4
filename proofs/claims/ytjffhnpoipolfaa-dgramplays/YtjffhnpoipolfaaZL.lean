/-
  Bytes turned as the reference turns them; one datagram of a row is stored anew.
-/
import Derived.Test.YtjffhnpoipolfaaZI
set_option linter.unusedVariables false
set_option linter.unusedSimpArgs false
namespace Go.Proofs.Ytjffhnpoipolfaa
open Go.RowKit Go.Maps Go.WideMaps
variable {S S' Y : Nat → Prop} {W W1 W' : World}

/-- Bytes turned from place k + 3 down, n of the four places seen. -/
def trd (l : List Nat) (k m : Nat) : Nat → List Nat
  | 0 => l
  | n + 1 => if k + (3 - n) < l.length then (trd l k m n).set (k + (3 - n)) ((trd l k m n).getD (k + (3 - n)) 0 ^^^ (m / 2 ^ (8 * n) % 256)) else trd l k m n
theorem trd_len (l : List Nat) (k m n : Nat) : (trd l k m n).length = l.length := by
  induction n with
  | zero => rfl
  | succ n ih => unfold trd; split <;> simp [ih]
theorem trd_byte {l : List Nat} (h : ∀ x ∈ l, x < 256) (k m n : Nat) : ∀ x ∈ trd l k m n, x < 256 := by
  induction n with
  | zero => exact h
  | succ n ih =>
    intro x hx
    unfold trd at hx
    split at hx
    · rcases List.mem_or_eq_of_mem_set hx with h1 | rfl
      · exact ih x h1
      · exact Nat.xor_lt_two_pow (n := 8) (getD_lt ih _) (Nat.mod_lt _ (by decide))
    · exact ih x hx
theorem getD_set_ne {l : List Nat} {i j : Nat} (x : Nat) (h : i ≠ j) : (l.set i x).getD j 0 = l.getD j 0 := by
  rw [List.getD_eq_getElem?_getD, List.getD_eq_getElem?_getD, List.getElem?_set_ne h]
theorem trd_tur (l : List Nat) (k m : Nat) (hk : k < l.length) : trd l k m 4 = tur l k m (min 4 (l.length - k)) := by
  have s0 : k + (3 - 0) = k + 3 := by omega
  have s1 : k + (3 - 1) = k + 2 := by omega
  have s2 : k + (3 - 2) = k + 1 := by omega
  have s3 : k + (3 - 3) = k := by omega
  simp only [trd, s0, s1, s2, s3]
  rcases Nat.lt_or_ge (k + 3) l.length with h3 | h3
  · rw [show min 4 (l.length - k) = 4 by omega, if_pos (by omega), if_pos (by omega), if_pos (by omega), if_pos (by omega)]
    simp only [tur, Nat.add_zero]
    simp only [getD_set_ne _ (show k + 3 ≠ k + 2 by omega), getD_set_ne _ (show k + 3 ≠ k + 1 by omega), getD_set_ne _ (show k + 3 ≠ k by omega), getD_set_ne _ (show k + 2 ≠ k + 1 by omega), getD_set_ne _ (show k + 2 ≠ k by omega), getD_set_ne _ (show k + 1 ≠ k by omega), getD_set_ne _ (show k ≠ k + 1 by omega), getD_set_ne _ (show k ≠ k + 2 by omega), getD_set_ne _ (show k ≠ k + 3 by omega), getD_set_ne _ (show k + 1 ≠ k + 2 by omega), getD_set_ne _ (show k + 1 ≠ k + 3 by omega), getD_set_ne _ (show k + 2 ≠ k + 3 by omega)]
    rw [List.set_comm _ _ (show k + 1 ≠ k by omega), List.set_comm _ _ (show k + 2 ≠ k by omega), List.set_comm _ _ (show k + 3 ≠ k by omega), List.set_comm _ _ (show k + 2 ≠ k + 1 by omega), List.set_comm _ _ (show k + 3 ≠ k + 1 by omega), List.set_comm _ _ (show k + 3 ≠ k + 2 by omega)]
  rw [if_neg (show ¬ k + 3 < l.length by omega)]
  rcases Nat.lt_or_ge (k + 2) l.length with h2 | h2
  · rw [show min 4 (l.length - k) = 3 by omega, if_pos (by omega), if_pos (by omega), if_pos (by omega)]
    simp only [tur, Nat.add_zero]
    simp only [getD_set_ne _ (show k + 2 ≠ k + 1 by omega), getD_set_ne _ (show k + 2 ≠ k by omega), getD_set_ne _ (show k + 1 ≠ k by omega), getD_set_ne _ (show k ≠ k + 1 by omega), getD_set_ne _ (show k ≠ k + 2 by omega), getD_set_ne _ (show k + 1 ≠ k + 2 by omega)]
    rw [List.set_comm _ _ (show k + 1 ≠ k by omega), List.set_comm _ _ (show k + 2 ≠ k by omega), List.set_comm _ _ (show k + 2 ≠ k + 1 by omega)]
  rw [if_neg (show ¬ k + 2 < l.length by omega)]
  rcases Nat.lt_or_ge (k + 1) l.length with h1 | h1
  · rw [show min 4 (l.length - k) = 2 by omega, if_pos (by omega), if_pos (by omega)]
    simp only [tur, Nat.add_zero]
    simp only [getD_set_ne _ (show k + 1 ≠ k by omega), getD_set_ne _ (show k ≠ k + 1 by omega)]
    rw [List.set_comm _ _ (show k + 1 ≠ k by omega)]
  rw [if_neg (show ¬ k + 1 < l.length by omega), show min 4 (l.length - k) = 1 by omega, if_pos (by omega)]
  simp only [tur, Nat.add_zero]
/-! ### A row of bytes of its own, one of them stored -/
theorem Ow.raw {g cap : Nat} {l : List Nat} (h : Ow 0 W (.slice (some ⟨g, 0, none⟩) l.length cap) l) : ∃ cur : Array Value, W.heap[g]? = some (.cells cur 5 (0, 0)) ∧ l.length ≤ cap ∧ cap * 1 ≤ maxLen ∧ cur.size = cap * 1 ∧ cur.toList.take (l.length * 1) = bs l := by
  rcases h.row.2 with ⟨e, _⟩ | ⟨g', cap', cur, e, h1, h2, h3, h4, h5, h6⟩
  · cases e
  · cases e; exact ⟨cur, h2, h3, by simpa using h4, h5, h6⟩
theorem Ow.at_ {g cap : Nat} {l : List Nat} (h : Ow 0 W (.slice (some ⟨g, 0, none⟩) l.length cap) l) {j : Nat} (hj : j < l.length) : W.cell? ⟨g, j, none⟩ = some (.int .u8 ((l.getD j 0 : Nat) : Int)) ∧ W.frozen? ⟨g, j, none⟩ = false := by
  obtain ⟨cur, h1, h2, h3, h4, h5⟩ := h.raw
  refine ⟨?_, by simp [World.frozen?, h1]⟩
  have e1 : (cur.toList.take (l.length * 1))[j]? = some (.int .u8 ((l.getD j 0 : Nat) : Int)) := by rw [h5, bs_get l j hj]
  rw [List.getElem?_take_of_lt (by omega)] at e1
  simp only [World.cell?, h1]
  simpa using e1
theorem Ow.set {g cap n : Nat} {l : List Nat} (h : Ow 0 W (.slice (some ⟨g, 0, none⟩) n cap) l) (hn : l.length = n) (j x : Nat) (hx : x < 256) : Ow 0 (W.setCell ⟨g, j, none⟩ (.int .u8 (x : Int))) (.slice (some ⟨g, 0, none⟩) n cap) (l.set j x) := by
  subst hn
  rcases h.row with ⟨hr1, hr2⟩
  rcases hr2 with ⟨e, _⟩ | ⟨g', cap', cur, e, h1, h2, h3, h4, h5, h6⟩
  · cases e
  · cases e
    refine ⟨fun y hy => ?_, by simpa using h.len, ?_⟩
    · rcases List.mem_or_eq_of_mem_set hy with h1 | rfl
      · exact h.byte y h1
      · exact hx
    · rw [List.length_set]
      refine ⟨by simp, .inr ⟨g, cap, cur.setIfInBounds j (.int .u8 (x : Int)), rfl, h1, heap_setCell_same W g j _ 5 _ h2, h3, h4, by simpa using h5, ?_⟩⟩
      rw [Array.toList_setIfInBounds, List.take_set, h6, bs_set]
theorem Ow.gr {v : Value} {l : List Nat} (h : Ow 0 W v l) (g : Gr S W W') (hs : ∀ k, v.ownBlock = some k → ¬ S k) : Ow 0 W' v l :=
  ⟨h.byte, h.len, by
    refine ⟨h.row.1, ?_⟩
    rcases h.row.2 with h0 | ⟨g', cap, cur, rfl, h1, h2, h3⟩
    · exact .inl h0
    · exact .inr ⟨g', cap, cur, rfl, h1, (g.block g' (lt_of_blk h2) (hs g' rfl)).trans h2, h3⟩⟩
/-! ### A datagram of a row, stored anew -/
theorem flatX_set : ∀ (l : List Dx) (i : Nat) (d : Dx), i < l.length → flatX (l.set i d) = (((((flatX l).set (i * 5) (.int .i64 d.f)).set (i * 5 + 1) (.int .i64 d.t)).set (i * 5 + 2) (.int .u64 (d.n : Int))).set (i * 5 + 3) d.bv).set (i * 5 + 4) (.bool d.sp)
  | [], i, d, h => by simp at h
  | x :: l, 0, d, h => by simp [flatX_cons]
  | x :: l, i + 1, d, h => by
    have hl : ∀ j, (i + 1) * 5 + j - x.cells.length = i * 5 + j := fun j => by simp; omega
    rw [List.set_cons_succ, flatX_cons, flatX_cons, flatX_set l i d (by simpa using h)]
    rw [List.set_append_right _ _ (by simp; omega), List.set_append_right _ _ (by simp; omega), List.set_append_right _ _ (by simp; omega), List.set_append_right _ _ (by simp; omega), List.set_append_right _ _ (by simp; omega)]
    rw [hl 1, hl 2, hl 3, hl 4, show (i + 1) * 5 - x.cells.length = i * 5 from hl 0]
theorem row_set5 {l : List Dx} {g cap n : Nat} (h : W.ownsRow 0 39 5 (.slice (some ⟨g, 0, none⟩) n cap) n (flatX l)) (hn : l.length = n) {i : Nat} (hi : i < n) (d : Dx) :
    (((((W.setCell ⟨g, i * 5, none⟩ (.int .i64 d.f)).setCell ⟨g, i * 5 + 1, none⟩ (.int .i64 d.t)).setCell ⟨g, i * 5 + 2, none⟩ (.int .u64 (d.n : Int))).setCell ⟨g, i * 5 + 3, none⟩ d.bv).setCell ⟨g, i * 5 + 4, none⟩ (.bool d.sp)).ownsRow 0 39 5 (.slice (some ⟨g, 0, none⟩) n cap) n (flatX (l.set i d)) := by
  subst hn
  rcases h with ⟨hr1, hr2⟩
  rcases hr2 with ⟨e, _⟩ | ⟨g', cap', cur, e, h1, h2, h3, h4, h5, h6⟩
  · cases e
  · cases e
    have e0 := heap_setCell_same W g (i * 5) _ 39 (.int .i64 d.f) h2
    have e1 := heap_setCell_same _ g (i * 5 + 1) _ 39 (.int .i64 d.t) e0
    have e2 := heap_setCell_same _ g (i * 5 + 2) _ 39 (.int .u64 (d.n : Int)) e1
    have e3 := heap_setCell_same _ g (i * 5 + 3) _ 39 d.bv e2
    have e4 := heap_setCell_same _ g (i * 5 + 4) _ 39 (.bool d.sp) e3
    refine ⟨by simp, .inr ⟨g, cap, _, rfl, h1, e4, h3, h4, by simpa using h5, ?_⟩⟩
    simp only [Array.toList_setIfInBounds, List.take_set]
    rw [h6, flatX_set l i d hi]
theorem wpList_x (w : World) {ops : Array Oper} {rest : List Oper} {o : Oper} {a : Act} {Q : Exit → Act → World → Prop} (hgd : o.guard = none) (x y : Operand)
    (ho : o.op = .call { callee := .builtin .append, args := #[x, y], argTypes := #[30, 30] }) (p m : Nat) (v s : Value) (xs news : List Value) (hx : a.eval x = v) (hy : a.eval y = s)
    (hv : w.ownsRow 0 39 5 v p xs) (hs : Src w s m news) (h1 : ∀ u ∈ news, u.oneCell' = true) (hl : p + m ≤ 100000)
    (h : ∀ a' cap w', w'.ownsRow 0 39 5 (.slice a' (p + m) cap) (p + m) (xs ++ news) → Loc v w (.slice a' (p + m) cap) w' → wpList Try.prog ops Q rest (a.put o.dst (.slice a' (p + m) cap)) w') :
    wpList Try.prog ops Q (o :: rest) a w := by
  refine wpList_plain hgd fun K hK => ?_
  obtain ⟨v', w', hr, h2, h3⟩ := app_x w o.type v s p m xs news hv hs h1 hl
  obtain ⟨a', cap, rfl, _, _⟩ := ownsRow_sv h2
  unfold Oper.wp execOp
  simp only [ho, resolve, invoke, builtin, Sem.run_bind, Sem.run_pure, Result.andThen_ok, List.map_toArray, List.map_cons, List.map_nil, hx, hy, hr]
  exact hK _ _ (h a' cap w' h2 h3)
theorem wpList_cpx (w : World) {ops : Array Oper} {rest : List Oper} {o : Oper} {a : Act} {Q : Exit → Act → World → Prop} (hgd : o.guard = none) (x y : Operand)
    (ho : o.op = .call { callee := .builtin .append, args := #[x, y], argTypes := #[30, 30] }) (X m : Nat) (s : Value) (news : List Value) (hx : a.eval x = .slice (some ⟨X, 0, none⟩) 0 0) (hy : a.eval y = s)
    (hX : w.heap[X]? = some (.cells #[] 39 (0, 0))) (hs : Src w s m news) (h1 : ∀ u ∈ news, u.oneCell' = true) (hl : m ≤ 100000) (hm : 0 < m)
    (h : ∀ g' cap w', w'.ownsRow 0 39 5 (.slice (some ⟨g', 0, none⟩) m cap) m news → Gr (fun k => k = X) w w' → (g' = X ∨ w.heap.size ≤ g') → (∀ j, w'.frozen? ⟨g', j, none⟩ = false) → m ≤ cap → cap ≤ 9223372036854775807 → wpList Try.prog ops Q rest (a.put o.dst (.slice (some ⟨g', 0, none⟩) m cap)) w') :
    wpList Try.prog ops Q (o :: rest) a w := by
  refine wpList_x w hgd x y ho 0 m _ s [] news hx hy (empty_row w hX) hs h1 (by omega) ?_
  intro a' cap w' hr hl'
  rw [Nat.zero_add, List.nil_append] at hr
  rw [Nat.zero_add] at hl' ⊢
  have hr0 := hr
  rcases hr.2 with ⟨e, e0⟩ | ⟨g', cap', cur, e, q1, q2, q3, q4, q5, q6⟩
  · omega
  · injection e with e1 e2 e3
    subst e1 e3
    refine h g' cap w' hr0 (hl'.gr.mono (fun i _ e => by simpa [Value.ownBlock] using e.symm)) ?_ (fun j => by simp [World.frozen?, q2]) q3 (by unfold maxLen at q4; omega)
    rcases hl'.at_ g' rfl with e | e
    · left; simpa [Value.ownBlock] using e.symm
    · right; exact e
end Go.Proofs.Ytjffhnpoipolfaa
