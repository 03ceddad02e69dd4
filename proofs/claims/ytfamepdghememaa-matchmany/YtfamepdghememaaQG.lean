/-
  Carried over from another seat of ours (QG).
-/
import Derived.Test.YtfamepdghememaaQF
set_option linter.unusedVariables false
set_option linter.unusedSimpArgs false
namespace Go.Proofs.Ytfamepdghememaa
open Go.RowKit Go.Maps Go.WideMaps
attribute [local go_sem] Oper.semAt_some
variable {S S' : Nat → Prop} {W W1 W' : World}
theorem prr_get (pb tb n : Nat) : ∀ (k q : Nat), q < k → (prr pb tb n k)[q * 2]? = some (ptr pb ((n - 1 - q) * 9)) ∧ (prr pb tb n k)[q * 2 + 1]? = some (ptr tb ((n - 1 - q) * 9))
  | 0, q, h => absurd h (Nat.not_lt_zero _)
  | k + 1, q, h => by
    rw [prr]
    by_cases e : q = k
    · subst e
      rw [List.getElem?_append_right (by rw [prr_len]; omega), List.getElem?_append_right (by rw [prr_len]; omega), prr_len, Nat.sub_self, show q * 2 + 1 - q * 2 = 1 by omega]
      exact ⟨rfl, rfl⟩
    · rw [List.getElem?_append_left (by rw [prr_len]; omega), List.getElem?_append_left (by rw [prr_len]; omega)]
      exact prr_get pb tb n k q (by omega)
theorem prr_one (pb tb n k : Nat) : ∀ u ∈ prr pb tb n k, u.oneCell' = true := by
  induction k with
  | zero => intro u hu; cases hu
  | succ k ih =>
    intro u hu
    rw [prr, List.mem_append] at hu
    rcases hu with hu | hu
    · exact ih u hu
    · simp at hu; rcases hu with rfl | rfl <;> rfl
/-- A row of pairs behind another one. -/
theorem app_two (w : World) (ty : TypeId) (base base' p m : Nat) (v s : Value) (xs ys : List Value) (hv : w.ownsRow base 65 2 v p xs) (hs : w.ownsRow base' 65 2 s m ys) (h1 : ∀ u ∈ ys, u.oneCell' = true) (hlen : p + m ≤ 1000) (hbase : base ≤ w.heap.size) :
    ∃ v' w', (Builtin.append_ #[66, 66] ty #[v, s]).run Try.prog w = .ok v' w' ∧ w'.ownsRow base 65 2 v' (p + m) (xs ++ ys) ∧ w.grownBy w' v.ownBlock ∧ (v'.ownBlock = v.ownBlock ∨ v'.ownBlock = some w.heap.size) := by
  obtain ⟨i0, hi, hz0, hz1, hz2⟩ := info_parts info65
  rcases hs.2 with ⟨rfl, rfl⟩ | ⟨g, cap, cur, rfl, hg, hc, h3, h4, h5, h6⟩
  · have e : ys = [] := List.eq_nil_of_length_eq_zero (by have := hs.1; omega)
    subst e
    refine ⟨v, w, run_append_owned_none w base 66 ty 65 i0 2 Try.underlying66 hi v p xs hv, by simpa using hv, ⟨rfl, rfl, rfl, Nat.le_refl _, fun _ _ _ => rfl⟩, .inl rfl⟩
  · obtain ⟨v', w', hr, hown, hgrow, _, hloc⟩ := run_append_own_at (P := Try.prog) w base 66 ty 65 i0 (.agg #[.pointer none, .pointer none]) 2 16 Try.underlying66 hi hz0 hz1 hz2 rfl (by decide) v p xs hv ⟨g, 0, none⟩ m cap ys (by have := hs.1; omega)
      (fun j u hu => by
        rw [Addr.add_lit, Nat.zero_add]
        simp only [World.cell?, hc]
        have hj : j < m * 2 := by have := (List.getElem?_eq_some_iff.1 hu).1; have := hs.1; omega
        rw [← h6, List.getElem?_take_of_lt hj] at hu
        simpa using hu) h1 (by unfold maxLen; omega) (by omega) hbase
    exact ⟨v', w', hr, hown, hgrow, hloc⟩
theorem wpList_two (w : World) {ops : Array Oper} {rest : List Oper} {o : Oper} {a : Act} {Q : Exit → Act → World → Prop} (hgd : o.guard = none) (x y : Operand)
    (ho : o.op = .call { callee := .builtin .append, args := #[x, y], argTypes := #[66, 66] }) (base base' p m : Nat) (v s : Value) (xs ys : List Value) (hx : a.eval x = v) (hy : a.eval y = s)
    (hv : w.ownsRow base 65 2 v p xs) (hs : w.ownsRow base' 65 2 s m ys) (h1 : ∀ u ∈ ys, u.oneCell' = true) (hlen : p + m ≤ 1000) (hbase : base ≤ w.heap.size)
    (h : ∀ v' w', w'.ownsRow base 65 2 v' (p + m) (xs ++ ys) → w.grownBy w' v.ownBlock → (v'.ownBlock = v.ownBlock ∨ v'.ownBlock = some w.heap.size) → wpList Try.prog ops Q rest (a.put o.dst v') w') :
    wpList Try.prog ops Q (o :: rest) a w := by
  refine wpList_plain hgd fun K hK => ?_
  obtain ⟨v', w', hr, h2, h3, h4⟩ := app_two w o.type base base' p m v s xs ys hv hs h1 hlen hbase
  unfold Oper.wp execOp
  simp only [ho, resolve, invoke, builtin, Sem.run_bind, Sem.run_pure, Result.andThen_ok, List.map_toArray, List.map_cons, List.map_nil, hx, hy, hr]
  exact hK _ _ (h v' w' h2 h3 h4)
/-- A row cut by some. -/
theorem row_cut {base p q g cap size : Nat} {e : TypeId} {xs : List Value} (h : W.ownsRow base e size (.slice (some ⟨g, 0, none⟩) p cap) p xs) (hq : q ≤ p) : W.ownsRow base e size (.slice (some ⟨g, 0, none⟩) q cap) q (xs.take (q * size)) := by
  have hm : q * size ≤ p * size := Nat.mul_le_mul_right size hq
  refine ⟨by rw [List.length_take, h.1]; omega, ?_⟩
  rcases h.2 with ⟨e, _⟩ | ⟨g', cap', cur, e, h1, h2, h3, h4, h5, h6⟩
  · cases e
  · cases e
    exact .inr ⟨g, cap, cur, rfl, h1, h2, by omega, h4, h5, by rw [← h6, List.take_take, Nat.min_eq_left hm]⟩
theorem row_cell {base p g cap size : Nat} {e : TypeId} {xs : List Value} (h : W.ownsRow base e size (.slice (some ⟨g, 0, none⟩) p cap) p xs) {q : Nat} {u : Value} (hu : xs[q]? = some u) : W.cell? ⟨g, q, none⟩ = some u ∧ g < W.heap.size ∧ p ≤ cap := by
  rcases h.2 with ⟨e, _⟩ | ⟨g', cap', cur, e, h1, h2, h3, h4, h5, h6⟩
  · cases e
  · cases e
    have hq : q < p * size := by have := (List.getElem?_eq_some_iff.1 hu).1; rw [h.1] at this; exact this
    refine ⟨?_, (Array.getElem?_eq_some_iff.1 h2).1, h3⟩
    rw [← h6, List.getElem?_take_of_lt hq] at hu
    simp only [World.cell?, h2]
    simpa using hu
theorem row_form {base p size : Nat} {e : TypeId} {v : Value} {xs : List Value} (h : W.ownsRow base e size v p xs) (hp : 0 < p) : ∃ g cap, v = .slice (some ⟨g, 0, none⟩) p cap := by
  rcases h.2 with ⟨_, h0⟩ | ⟨g', cap', cur, e, _⟩
  · omega
  · exact ⟨_, _, e⟩
theorem choose_list {P : Nat → Value → Prop} : ∀ (n : Nat), (∀ k, k < n → ∃ v, P k v) → ∃ vs : List Value, vs.length = n ∧ ∀ k v, vs[k]? = some v → P k v
  | 0, _ => ⟨[], rfl, fun k v h => by simp at h⟩
  | n + 1, h => by
    obtain ⟨vs, h1, h2⟩ := choose_list n (fun k hk => h k (by omega))
    obtain ⟨v, hv⟩ := h n (by omega)
    refine ⟨vs ++ [v], by simp [h1], fun k u hu => ?_⟩
    by_cases e : k < vs.length
    · rw [List.getElem?_append_left e] at hu; exact h2 k u hu
    · rw [List.getElem?_append_right (by omega)] at hu
      have : k = n := by
        have := (List.getElem?_eq_some_iff.1 hu).1
        simp at this; omega
      subst this
      rw [h1, Nat.sub_self] at hu
      cases hu; exact hv
/-! ### What fits -/
def numO : Option Value → Int
  | some (.int _ n) => n
  | _ => 0
def numV (v : Value) : Int := numO (cellsOf v)[1]?
theorem numV_iv (p : Int) (a1 : Option Addr) (c1 : Nat) (a2 : Option Addr) (c2 : Nat) : numV (iv p a1 c1 a2 c2) = p := rfl
def fitR : List (ByteArray × Value) → Nat → (ByteArray → Option Value) → Bool × Nat × (ByteArray → Option Value)
  | [], n, R => (true, n, R)
  | (s, v) :: r, n, R => match R s with
    | none => fitR r (n + 1) (ins R s v)
    | some v0 => if numV v0 = numV v then fitR r n R else (false, n, R)
def IntV (v : Value) : Prop := ∃ p a1 c1 a2 c2, v = iv p a1 c1 a2 c2 ∧ inR p = true
end Go.Proofs.Ytfamepdghememaa

