/-
  Carried over from another seat of ours (BE).
-/
import Derived.Test.YticgnaikbmnagaaZ
import Derived.Maps.AppendAt
import Derived.Laws.OwnMore
import Derived.Lib.AppendStr
import Derived.Lib.Walk
set_option linter.unusedVariables false
set_option linter.unusedSimpArgs false
namespace Go.Proofs.Yticgnaikbmnagaa
open Go.RowKit Go.Maps
variable {S S' : Nat → Prop} {W W1 W' : World}

def u8s (l : List Int) : List Value := l.map (Value.int .u8)
@[simp] theorem u8s_length (l : List Int) : (u8s l).length = l.length := by simp [u8s]
theorem u8s_append (a b : List Int) : u8s (a ++ b) = u8s a ++ u8s b := by simp [u8s]
/-- A row of bytes of the call's own. -/
structure Ob (base : Nat) (W : World) (v : Value) (l : List Int) : Prop where
  len : l.length ≤ 1000000
  row : W.ownsRow base 5 1 v l.length (u8s l)
theorem Ob.gr {base : Nat} {v : Value} {l : List Int} (h : Ob base W v l) (g : Gr S W W') (hs : ∀ k, base ≤ k → v.ownBlock = some k → ¬ S k) : Ob base W' v l :=
  ⟨h.len, ownsRow_of_block h.row (fun k h1 h2 => g.block k (ownsRow_lt h.row k h2).2 (hs k h1 h2))⟩
theorem Ob.g0 {base : Nat} {v : Value} {l : List Int} (h : Ob base W v l) (g : Gr (fun _ => False) W W') : Ob base W' v l := h.gr g (fun _ _ _ e => e)
theorem Ob.mono {base base' : Nat} {v : Value} {l : List Int} (h : Ob base W v l) (hb : base' ≤ base) : Ob base' W v l := by
  refine ⟨h.len, h.row.1, ?_⟩
  rcases h.row.2 with h0 | ⟨g, cap, cur, rfl, hg, h2, h3⟩
  · exact .inl h0
  · exact .inr ⟨g, cap, cur, rfl, by omega, h2, h3⟩
theorem Ob.sv {base : Nat} {v : Value} {l : List Int} (h : Ob base W v l) : ∃ a cap, v = .slice a l.length cap := ownsRow_sv h.row
theorem Ob.nil (base : Nat) (W : World) : Ob base W (.slice none 0 0) [] := ⟨by simp, World.ownsRow_nil _ _ _ _⟩
theorem Ob.lit (base : Nat) (W : World) (l : List Int) (hn : l.length ≤ 1000) (hb : base ≤ W.heap.size) (c : Array Value) (hc : c.toList = u8s l) (n : Nat) (hn' : n = l.length) :
    Ob base (W.alloc (.cells c 5)) (.slice (some ⟨W.heap.size, 0, none⟩) n n) l := by
  subst hn'
  refine ⟨by omega, ?_⟩
  have := World.ownsRow_lit (base := base) (e := 5) (size := 1) W c l.length hb (by unfold maxLen; omega) (by rw [← Array.length_toList, hc, u8s_length, Nat.mul_one])
  rwa [hc] at this
/-- Bytes in memory. -/
def Sb (W : World) (s : Value) (m : List Int) : Prop :=
  (∃ c, s = .slice none 0 c ∧ m = []) ∨ ∃ a c, s = .slice (some a) m.length c ∧ ∀ j u, (u8s m)[j]? = some u → W.cell? (a.add j) = some u
theorem RowB.sb {A : Nat → Prop} {bs : List Int} {v : Value} (h : RowB A W bs v) : Sb W v bs := by
  rcases h with ⟨rfl, a, c, rfl⟩ | ⟨g, cap, cur, rfl, _, hc, h1, h2⟩
  · cases a with
    | none => exact .inl ⟨c, rfl, rfl⟩
    | some a => exact .inr ⟨a, c, rfl, fun j u hu => by simp [u8s] at hu⟩
  · refine .inr ⟨⟨g, 0, none⟩, cap, rfl, fun j u hu => ?_⟩
    have hj : j < bs.length := by simpa using (List.getElem?_eq_some_iff.1 hu).1
    rw [Addr.add_lit, Nat.zero_add]
    simp only [World.cell?, hc]
    rw [u8s, ← h2, List.getElem?_take_of_lt hj] at hu
    simpa using hu
theorem Ob.sb {base : Nat} {v : Value} {l : List Int} (h : Ob base W v l) : Sb W v l := by
  rcases h.row.2 with ⟨h1, h2⟩ | ⟨g, cap, cur, rfl, hb, hg, hc, hm, h5, h6⟩
  · exact .inl ⟨0, h1, List.eq_nil_of_length_eq_zero h2⟩
  · refine .inr ⟨⟨g, 0, none⟩, cap, rfl, fun j u hu => ?_⟩
    rw [Addr.add_lit, Nat.zero_add]
    have hj : j < l.length := by simpa using (List.getElem?_eq_some_iff.1 hu).1
    simp only [World.cell?, hg]
    rw [← h6, Nat.mul_one, List.getElem?_take_of_lt hj] at hu
    simpa using hu
/-- Only the row's own block has turned, or new ones; the row lies where it lay, or anew. -/
structure Loc (v : Value) (W : World) (v' : Value) (W' : World) : Prop where
  gr : Gr (fun k => v.ownBlock = some k) W W'
  at_ : v'.ownBlock = v.ownBlock ∨ ∀ k, v'.ownBlock = some k → W.heap.size ≤ k
theorem Loc.refl (v : Value) (W : World) : Loc v W v W := ⟨Gr.refl _ _, .inl rfl⟩
theorem Loc.trans {v v1 v' : Value} (h : Loc v W v1 W1) (k : Loc v1 W1 v' W') : Loc v W v' W' := by
  refine ⟨h.gr.trans' k.gr (fun i hi e => ?_), ?_⟩
  · rcases h.at_ with h1 | h1
    · rw [← h1]; exact e
    · have := h1 i e; omega
  · rcases k.at_ with k1 | k1
    · rw [k1]; exact h.at_
    · exact .inr (fun i e => Nat.le_trans h.gr.size (k1 i e))
theorem i5 : (Try.prog.info? 5).map (fun i => (i.zero, i.size, i.bytes)) = some (some (.int .u8 0), 1, 1) := by kernel_rfl
theorem ap_run (w : World) (ty : TypeId) (base : Nat) (v s : Value) (l m : List Int) (hv : Ob base w v l) (hs : Sb w s m) (hlen : l.length + m.length ≤ 1000000) (hbase : base ≤ w.heap.size) :
    ∃ v' w', (Builtin.append_ #[22, 22] ty #[v, s]).run Try.prog w = .ok v' w' ∧ Ob base w' v' (l ++ m) ∧ Loc v w v' w' := by
  obtain ⟨i0, hi, hz0, hz1, hz2⟩ := info_parts i5
  rcases hs with ⟨c, rfl, rfl⟩ | ⟨a, cap, rfl, h3⟩
  · exact ⟨v, w, run_append_owned_none w base 22 ty 5 i0 1 Try.underlying22 hi v _ _ hv.row, by simpa using hv, Loc.refl _ _⟩
  · obtain ⟨v', w', hr, hown, hgrow, _, hloc⟩ := run_append_own_at (P := Try.prog) w base 22 ty 5 i0 (.int .u8 0) 1 1 Try.underlying22 hi hz0 hz1 hz2 rfl (by decide) v l.length (u8s l) hv.row a m.length cap (u8s m) (by simp)
      h3 (fun u hu => by obtain ⟨x, _, rfl⟩ := List.mem_map.1 hu; rfl) (by unfold maxLen; omega) (by omega) hbase
    refine ⟨v', w', hr, ⟨by simpa using hlen, ?_⟩, Gr.of_grown hgrow (fun k e => e), hloc.imp id (fun h k e => by rw [h] at e; cases e; exact Nat.le_refl _)⟩
    rw [u8s_append, List.length_append]; exact hown
section
variable {w : World} {ops : Array Oper} {rest : List Oper} {o : Oper} {a : Act} {Q : Exit → Act → World → Prop} {K : Act → World → Prop} {E : Prop}
theorem wpList_ap (hgd : o.guard = none) (x y : Operand)
    (ho : o.op = .call { callee := .builtin .append, args := #[x, y], argTypes := #[22, 22] }) (base : Nat) (v s : Value) (l m : List Int) (hx : a.eval x = v) (hy : a.eval y = s)
    (hv : Ob base w v l) (hs : Sb w s m) (hlen : l.length + m.length ≤ 1000000) (hbase : base ≤ w.heap.size)
    (h : ∀ v' w', Ob base w' v' (l ++ m) → Loc v w v' w' → wpList Try.prog ops Q rest (a.put o.dst v') w') : wpList Try.prog ops Q (o :: rest) a w := by
  refine wpList_plain hgd fun K hK => ?_
  obtain ⟨v', w', hr, h1, h2⟩ := ap_run w o.type base v s l m hv hs hlen hbase
  unfold Oper.wp execOp
  simp only [ho, resolve, invoke, builtin, Sem.run_bind, Sem.run_pure, Result.andThen_ok, List.map_toArray, List.map_cons, List.map_nil, hx, hy, hr]
  exact hK _ _ (h v' w' h1 h2)
end
end Go.Proofs.Yticgnaikbmnagaa



