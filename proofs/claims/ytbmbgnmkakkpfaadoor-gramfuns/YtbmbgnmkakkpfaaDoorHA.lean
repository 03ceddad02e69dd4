/-
  Rows of numbers; what the walk of GramYields wants.
-/
import Derived.Test.YtbmbgnmkakkpfaaDoorGZ
set_option linter.unusedVariables false
set_option linter.unusedSimpArgs false
namespace Go.Proofs.YtbmbgnmkakkpfaaDoor
open Go.RowKit Go.Maps
variable {W W' : World}

theorem info2 : (Tryd.prog.info? 2).map (fun i => (i.zero, i.size, i.bytes)) = some (some (.int .i64 0), 1, 8) := by kernel_rfl
/-- A row of numbers of the call's own. -/
structure Is (base : Nat) (W : World) (v : Value) (ns : List Int) : Prop where
  len : ns.length ≤ 40000
  row : W.ownsRow base 2 1 v ns.length (ns.map (Value.int .i64))
  bas : base ≤ W.heap.size
theorem Is.gr {base : Nat} {v : Value} {ns : List Int} {S : Nat → Prop} (h : Is base W v ns) (g : Gr S W W') (hs : ∀ k, base ≤ k → ¬ S k) : Is base W' v ns := ⟨h.len, ownsRow_gr h.row g hs, Nat.le_trans h.bas g.size⟩
theorem Is.g0 {base : Nat} {v : Value} {ns : List Int} (h : Is base W v ns) (g : Gr (fun _ => False) W W') : Is base W' v ns := h.gr g (fun _ _ e => e)
theorem Is.sv {base : Nat} {v : Value} {ns : List Int} (h : Is base W v ns) : ∃ a c, v = .slice a ns.length c := ownsRow_sv h.row
theorem Is.nil (base : Nat) (W : World) (hb : base ≤ W.heap.size) : Is base W nl [] := ⟨by simp, World.ownsRow_nil _ _ _ _, hb⟩
theorem is_run (w : World) (ty : TypeId) (base : Nat) (v : Value) (ns : List Int) (b : Nat) (s : Int) (hv : Is base w v ns) (hs : w.cell? ⟨b, 0, none⟩ = some (.int .i64 s)) (hl : ns.length < 40000) :
    ∃ v' w', (Builtin.append_ #[37, 37] ty #[v, .slice (some ⟨b, 0, none⟩) 1 1]).run Tryd.prog w = .ok v' w' ∧ Is base w' v' (ns ++ [s]) ∧ Gr (fun k => base ≤ k) w w' := by
  obtain ⟨i0, hi, hz0, hz1, hz2⟩ := info_parts info2
  obtain ⟨v', w', hr, hown, hgrow, _, hloc⟩ := run_append_own_at (P := Tryd.prog) w base 37 ty 2 i0 (.int .i64 0) 1 8 Tryd.underlying37 hi hz0 hz1 hz2 rfl (by decide) v ns.length (ns.map (Value.int .i64)) hv.row ⟨b, 0, none⟩ 1 1 [.int .i64 s] rfl
    (fun j u hj => by
      cases j with
      | zero => simp at hj; subst hj; exact hs
      | succ j => simp at hj) (fun u hu => by simp at hu; subst hu; rfl) (by unfold maxLen; omega) (by omega) hv.bas
  have g : Gr (fun k => base ≤ k) w w' := Gr.of_grown hgrow (fun k e => (ownsRow_lt hv.row k e).1)
  refine ⟨v', w', hr, ⟨by simp; omega, ?_, Nat.le_trans hv.bas g.size⟩, g⟩
  rw [List.length_append, List.map_append]; exact hown
section
variable {w : World} {ops : Array Oper} {rest : List Oper} {o : Oper} {a : Act} {Q : Exit → Act → World → Prop} {K : Act → World → Prop} {E : Prop}
theorem wpList_is (hgd : o.guard = none) (x y : Operand)
    (ho : o.op = .call { callee := .builtin .append, args := #[x, y], argTypes := #[37, 37] }) (base : Nat) (v : Value) (ns : List Int) (b : Nat) (s : Int) (hx : a.eval x = v) (hy : a.eval y = .slice (some ⟨b, 0, none⟩) 1 1)
    (hv : Is base w v ns) (hs : w.cell? ⟨b, 0, none⟩ = some (.int .i64 s)) (hl : ns.length < 40000)
    (h : ∀ v' w', Is base w' v' (ns ++ [s]) → Gr (fun k => base ≤ k) w w' → wpList Tryd.prog ops Q rest (a.put o.dst v') w') : wpList Tryd.prog ops Q (o :: rest) a w := by
  refine wpList_plain hgd fun K hK => ?_
  obtain ⟨v', w', hr, h1, h2⟩ := is_run w o.type base v ns b s hv hs hl
  unfold Oper.wp execOp
  simp only [ho, resolve, invoke, builtin, Sem.run_bind, Sem.run_pure, Result.andThen_ok, List.map_toArray, List.map_cons, List.map_nil, hx, hy, hr]
  exact hK _ _ (h v' w' h1 h2)
theorem step_is (hgd : o.guard = none) (x y : Operand)
    (ho : o.op = .call { callee := .builtin .append, args := #[x, y], argTypes := #[37, 37] }) (base : Nat) (v : Value) (ns : List Int) (b : Nat) (s : Int) (hx : a.eval x = v) (hy : a.eval y = .slice (some ⟨b, 0, none⟩) 1 1)
    (hv : Is base w v ns) (hs : w.cell? ⟨b, 0, none⟩ = some (.int .i64 s)) (hl : ns.length < 40000)
    (h : ∀ v' w', Is base w' v' (ns ++ [s]) → Gr (fun k => base ≤ k) w w' → K (a.put o.dst v') w') :
    if Region.wanted o (yielded ops a.tmps) = true then Oper.wp Tryd.prog o a w K Q else E := by
  have hw : Region.wanted o (yielded ops a.tmps) = true := by simp [Region.wanted, hgd]
  rw [if_pos hw]
  obtain ⟨v', w', hr, h1, h2⟩ := is_run w o.type base v ns b s hv hs hl
  unfold Oper.wp execOp
  simp only [ho, resolve, invoke, builtin, Sem.run_bind, Sem.run_pure, Result.andThen_ok, List.map_toArray, List.map_cons, List.map_nil, hx, hy, hr]
  exact h v' w' h1 h2
end


theorem ns_run2 (w : World) (ty : TypeId) (base : Nat) (v : Value) (ns : List ByteArray) (b : Nat) (s : ByteArray) (hv : Ns base w v ns) (hs : w.cell? ⟨b, 0, none⟩ = some (.string s)) (hl : ns.length < 40000) :
    ∃ v' w', (Builtin.append_ #[29, 29] ty #[v, .slice (some ⟨b, 0, none⟩) 1 1]).run Tryd.prog w = .ok v' w' ∧ Ns base w' v' (ns ++ [s]) ∧ Gr (fun k => v.ownBlock = some k) w w' := by
  obtain ⟨i0, hi, hz0, hz1, hz2⟩ := info_parts info9
  obtain ⟨v', w', hr, hown, hgrow, _, hloc⟩ := run_append_own_at (P := Tryd.prog) w base 29 ty 9 i0 (.string ⟨#[]⟩) 1 16 Tryd.underlying29 hi hz0 hz1 hz2 rfl (by decide) v ns.length (ns.map Value.string) hv.row ⟨b, 0, none⟩ 1 1 [.string s] rfl
    (fun j u hj => by
      cases j with
      | zero => simp at hj; subst hj; exact hs
      | succ j => simp at hj) (fun u hu => by simp at hu; subst hu; rfl) (by unfold maxLen; omega) (by omega) hv.bas
  have g : Gr (fun k => v.ownBlock = some k) w w' := Gr.of_grown hgrow (fun k e => e)
  refine ⟨v', w', hr, ⟨by simp; omega, ?_, Nat.le_trans hv.bas g.size⟩, g⟩
  rw [List.length_append, List.map_append]; exact hown
theorem is_run2 (w : World) (ty : TypeId) (base : Nat) (v : Value) (ns : List Int) (b : Nat) (s : Int) (hv : Is base w v ns) (hs : w.cell? ⟨b, 0, none⟩ = some (.int .i64 s)) (hl : ns.length < 40000) :
    ∃ v' w', (Builtin.append_ #[37, 37] ty #[v, .slice (some ⟨b, 0, none⟩) 1 1]).run Tryd.prog w = .ok v' w' ∧ Is base w' v' (ns ++ [s]) ∧ Gr (fun k => v.ownBlock = some k) w w' := by
  obtain ⟨i0, hi, hz0, hz1, hz2⟩ := info_parts info2
  obtain ⟨v', w', hr, hown, hgrow, _, hloc⟩ := run_append_own_at (P := Tryd.prog) w base 37 ty 2 i0 (.int .i64 0) 1 8 Tryd.underlying37 hi hz0 hz1 hz2 rfl (by decide) v ns.length (ns.map (Value.int .i64)) hv.row ⟨b, 0, none⟩ 1 1 [.int .i64 s] rfl
    (fun j u hj => by
      cases j with
      | zero => simp at hj; subst hj; exact hs
      | succ j => simp at hj) (fun u hu => by simp at hu; subst hu; rfl) (by unfold maxLen; omega) (by omega) hv.bas
  have g : Gr (fun k => v.ownBlock = some k) w w' := Gr.of_grown hgrow (fun k e => e)
  refine ⟨v', w', hr, ⟨by simp; omega, ?_, Nat.le_trans hv.bas g.size⟩, g⟩
  rw [List.length_append, List.map_append]; exact hown
section
variable {w : World} {ops : Array Oper} {rest : List Oper} {o : Oper} {a : Act} {Q : Exit → Act → World → Prop}
theorem wpList_ns2 (hgd : o.guard = none) (x y : Operand)
    (ho : o.op = .call { callee := .builtin .append, args := #[x, y], argTypes := #[29, 29] }) (base : Nat) (v : Value) (ns : List ByteArray) (b : Nat) (s : ByteArray) (hx : a.eval x = v) (hy : a.eval y = .slice (some ⟨b, 0, none⟩) 1 1)
    (hv : Ns base w v ns) (hs : w.cell? ⟨b, 0, none⟩ = some (.string s)) (hl : ns.length < 40000)
    (h : ∀ v' w', Ns base w' v' (ns ++ [s]) → Gr (fun k => v.ownBlock = some k) w w' → wpList Tryd.prog ops Q rest (a.put o.dst v') w') : wpList Tryd.prog ops Q (o :: rest) a w := by
  refine wpList_plain hgd fun K hK => ?_
  obtain ⟨v', w', hr, h1, h2⟩ := ns_run2 w o.type base v ns b s hv hs hl
  unfold Oper.wp execOp
  simp only [ho, resolve, invoke, builtin, Sem.run_bind, Sem.run_pure, Result.andThen_ok, List.map_toArray, List.map_cons, List.map_nil, hx, hy, hr]
  exact hK _ _ (h v' w' h1 h2)
theorem wpList_is2 (hgd : o.guard = none) (x y : Operand)
    (ho : o.op = .call { callee := .builtin .append, args := #[x, y], argTypes := #[37, 37] }) (base : Nat) (v : Value) (ns : List Int) (b : Nat) (s : Int) (hx : a.eval x = v) (hy : a.eval y = .slice (some ⟨b, 0, none⟩) 1 1)
    (hv : Is base w v ns) (hs : w.cell? ⟨b, 0, none⟩ = some (.int .i64 s)) (hl : ns.length < 40000)
    (h : ∀ v' w', Is base w' v' (ns ++ [s]) → Gr (fun k => v.ownBlock = some k) w w' → wpList Tryd.prog ops Q rest (a.put o.dst v') w') : wpList Tryd.prog ops Q (o :: rest) a w := by
  refine wpList_plain hgd fun K hK => ?_
  obtain ⟨v', w', hr, h1, h2⟩ := is_run2 w o.type base v ns b s hv hs hl
  unfold Oper.wp execOp
  simp only [ho, resolve, invoke, builtin, Sem.run_bind, Sem.run_pure, Result.andThen_ok, List.map_toArray, List.map_cons, List.map_nil, hx, hy, hr]
  exact hK _ _ (h v' w' h1 h2)
end
theorem Is.keep {base base' : Nat} {u v : Value} {ms : List Int} {ns : List ByteArray} (hi : Is base W u ms) (hn : Ns base' W v ns) (g : Gr (fun k => v.ownBlock = some k) W W') : Is base W' u ms :=
  ⟨hi.len, ownsRow_of_block hi.row (fun k h1 h2 => g.block k (ownsRow_lt hi.row k h2).2 (fun e => ownsRow_apart hn.row hi.row (by decide) k e h2)), Nat.le_trans hi.bas g.size⟩
theorem Ns.keep {base base' : Nat} {u v : Value} {ms : List Int} {ns : List ByteArray} (hn : Ns base W v ns) (hi : Is base' W u ms) (g : Gr (fun k => u.ownBlock = some k) W W') : Ns base W' v ns :=
  ⟨hn.len, ownsRow_of_block hn.row (fun k h1 h2 => g.block k (ownsRow_lt hn.row k h2).2 (fun e => ownsRow_apart hi.row hn.row (by decide) k e h2)), Nat.le_trans hn.bas g.size⟩
theorem sb_app (a b : List Int) : sb a ++ sb b = sb (a ++ b) := by
  apply ByteArray.ext
  simp [sb, ByteArray.data_append]
theorem new_int (w : World) (s : Int) : (w.alloc (.cells #[.int .i64 s] 2)).cell? ⟨w.heap.size, 0, none⟩ = some (.int .i64 s) := (one_cell (heap_alloc_new w (.cells #[.int .i64 s] 2))).1
end Go.Proofs.YtbmbgnmkakkpfaaDoor
