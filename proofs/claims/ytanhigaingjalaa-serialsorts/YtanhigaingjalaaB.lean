/-
  What a call leaves as it was; rows of numbers of 32 bits in memory; rows of the call's own; append.
-/
import Derived.Test.YtanhigaingjalaaA
import Derived.Maps.AppendAt
import Derived.Laws.OwnMore
import Derived.Lib.Walk
set_option linter.unusedSimpArgs false
set_option linter.unusedVariables false
namespace Go.Proofs.Ytanhigaingjalaa
open Go.RowKit Go.Maps

/-- From W to W' only blocks of S and new ones have turned. -/
structure Gr (S : Nat → Prop) (W W' : World) : Prop where
  os : W'.os = W.os
  tape : W'.tape = W.tape
  output : W'.output = W.output
  size : W.heap.size ≤ W'.heap.size
  block : ∀ k, k < W.heap.size → ¬ S k → W'.heap[k]? = W.heap[k]?
variable {S S' : Nat → Prop} {W W1 W' : World}
theorem Gr.refl (S : Nat → Prop) (W : World) : Gr S W W := ⟨rfl, rfl, rfl, Nat.le_refl _, fun _ _ _ => rfl⟩
theorem Gr.trans' (h : Gr S W W1) (k : Gr S' W1 W') (hs : ∀ i, i < W.heap.size → S' i → S i) : Gr S W W' :=
  ⟨k.os.trans h.os, k.tape.trans h.tape, k.output.trans h.output, Nat.le_trans h.size k.size,
   fun i hi hn => (k.block i (Nat.lt_of_lt_of_le hi h.size) (fun e => hn (hs i hi e))).trans (h.block i hi hn)⟩
theorem Gr.trans (h : Gr S W W1) (k : Gr S W1 W') : Gr S W W' := h.trans' k (fun _ _ e => e)
theorem Gr.mono (h : Gr S W W') (hs : ∀ i, i < W.heap.size → S i → S' i) : Gr S' W W' :=
  ⟨h.os, h.tape, h.output, h.size, fun i hi hn => h.block i hi (fun e => hn (hs i hi e))⟩
theorem Gr.of_below (h : Below W.heap.size W W') (S : Nat → Prop) : Gr S W W' := ⟨h.os, h.tape, h.output, h.size, fun k hk _ => h.block k hk⟩
theorem Gr.of_grown {row : Option Nat} (h : W.grownBy W' row) (hr : ∀ k, row = some k → S k) : Gr S W W' :=
  ⟨h.os, h.tape, h.output, h.size, fun k hk hn => h.block k hk (fun e => hn (hr k e.symm))⟩
theorem Gr.alloc (W : World) (o : Obj) (S : Nat → Prop) : Gr S W (W.alloc o) := .of_below ((Below.refl _ W).alloc (Nat.le_refl _) o) S
theorem Gr.set (W : World) (p : Addr) (v : Value) (h : S p.block) : Gr S W (W.setCell p v) :=
  ⟨rfl, rfl, rfl, by simp, fun k _ hn => heap_setCell_other W p k v (fun e => hn (e ▸ h))⟩
theorem Gr.drew (W : World) (S : Nat → Prop) : Gr S W W.drew := .of_below ((Below.refl _ W).drew) S
theorem Gr.drewN (W : World) (m : Nat) (S : Nat → Prop) : Gr S W (W.drewN m) := ⟨rfl, rfl, rfl, Nat.le_refl _, fun _ _ _ => rfl⟩
theorem Gr.below (h : Gr S W W') {N : Nat} (hN : N ≤ W.heap.size) (hs : ∀ i, S i → N ≤ i) : Below N W W' :=
  ⟨h.os, h.tape, h.output, h.size, fun k hk => h.block k (by omega) (fun e => by have := hs k e; omega)⟩
/-- Nothing that was there has turned. -/
abbrev G0 := Gr (fun _ => False)


/-- Is it a number of 32 bits? -/
abbrev Rg (x : Int) : Prop := 0 ≤ x ∧ x < 4294967296
/-- Numbers in memory. -/
structure Sl (W : World) (v : Value) (l : List Int) : Prop where
  rng : ∀ x ∈ l, Rg x
  len : l.length * 4 ≤ 140737488355328
  at' : (v = .slice none 0 0 ∧ l = []) ∨ ∃ a cap, v = .slice (some a) l.length cap ∧ l.length ≤ cap ∧ cap ≤ 9223372036854775807 ∧ ∀ i, i < l.length → W.cell? (a.add i) = some (.int .u32 (l.getD i 0))
theorem Sl.sv {W : World} {v : Value} {l : List Int} (h : Sl W v l) : ∃ a cap, v = .slice a l.length cap ∧ l.length ≤ cap ∧ cap ≤ 9223372036854775807 ∧ (l ≠ [] → ∃ b off, a = some ⟨b, off, none⟩ ∧ ∀ i, i < l.length → W.cell? ⟨b, off + i, none⟩ = some (.int .u32 (l.getD i 0))) := by
  rcases h.at' with ⟨rfl, rfl⟩ | ⟨a, cap, rfl, h1, h2, h3⟩
  · exact ⟨none, 0, rfl, Nat.le_refl _, by omega, fun e => absurd rfl e⟩
  · refine ⟨some a, cap, rfl, h1, h2, fun hn => ?_⟩
    have hp : 0 < l.length := List.length_pos_iff.2 hn
    obtain ⟨b, off, spot⟩ := a
    have hs : spot = none := by simpa [Addr.add] using World.cell?_spot (h3 0 hp)
    subst hs
    exact ⟨b, off, rfl, fun i hi => by simpa [Addr.add_lit] using h3 i hi⟩
theorem getD_rg {l : List Int} (h : ∀ x ∈ l, Rg x) (i : Nat) : Rg (l.getD i 0) := by
  rw [List.getD_eq_getElem?_getD]
  rcases Nat.lt_or_ge i l.length with hi | hi
  · rw [List.getElem?_eq_getElem hi]; exact h _ (List.getElem_mem hi)
  · rw [List.getElem?_eq_none hi]; decide
theorem take_succ {l : List Int} {k : Nat} (h : k < l.length) : l.take (k + 1) = l.take k ++ [l.getD k 0] := by
  rw [List.take_add_one, List.getD_eq_getElem?_getD, List.getElem?_eq_getElem h]; rfl

theorem Sl.blk {v : Value} {l : List Int} (h : Sl W v l) (hb : ∀ b off len cap, v = .slice (some ⟨b, off, none⟩) len cap → b < W.heap.size → W'.heap[b]? = W.heap[b]?) : Sl W' v l := by
  refine ⟨h.rng, h.len, ?_⟩
  rcases h.at' with h0 | ⟨a, cap, rfl, h1, h2, h3⟩
  · exact .inl h0
  · refine .inr ⟨a, cap, rfl, h1, h2, fun i hi => ?_⟩
    have := h3 i hi
    obtain ⟨b, off, spot⟩ := a
    have hs : spot = none := by simpa [Addr.add] using World.cell?_spot (h3 0 (by omega))
    subst hs
    rw [Addr.add_lit] at this ⊢
    have hlt : b < W.heap.size := by
      rcases Nat.lt_or_ge b W.heap.size with hlt | hge
      · exact hlt
      · simp [World.cell?, Array.getElem?_eq_none hge] at this
    simp only [World.cell?, hb b off _ _ rfl hlt] at this ⊢
    exact this
theorem Sl.gr {v : Value} {l : List Int} (h : Sl W v l) (g : Gr S W W') (hs : ∀ b off len cap, v = .slice (some ⟨b, off, none⟩) len cap → ¬ S b) : Sl W' v l :=
  h.blk (fun b off len cap e hlt => g.block b hlt (hs b off len cap e))
theorem Sl.g0 {v : Value} {l : List Int} (h : Sl W v l) (g : G0 W W') : Sl W' v l := h.gr g (fun _ _ _ _ _ e => e)

def bs (l : List Int) : List Value := l.map (fun x => Value.int .u32 x)
theorem bs_get (l : List Int) (i : Nat) (h : i < l.length) : (bs l)[i]? = some (.int .u32 (l.getD i 0)) := by
  simp [bs, List.getElem?_eq_getElem h, List.getD_eq_getElem?_getD]
@[simp] theorem bs_length (l : List Int) : (bs l).length = l.length := by simp [bs]
theorem bs_append (a b : List Int) : bs (a ++ b) = bs a ++ bs b := by simp [bs]

/-- A row of numbers of the call's own. -/
structure Ow (base : Nat) (W : World) (v : Value) (l : List Int) : Prop where
  rng : ∀ x ∈ l, Rg x
  len : l.length * 4 ≤ 140737488355328
  row : W.ownsRow base 22 1 v l.length (bs l)
theorem Ow.sl {base : Nat} {v : Value} {l : List Int} (h : Ow base W v l) : Sl W v l := by
  refine ⟨h.rng, h.len, ?_⟩
  rcases h.row.2 with ⟨h1, h2⟩ | ⟨g, cap, cur, rfl, hb, hg, hc, hm, _⟩
  · exact .inl ⟨h1, List.length_eq_zero_iff.1 h2⟩
  · refine .inr ⟨⟨g, 0, none⟩, cap, rfl, hc, by unfold maxLen at hm; omega, fun i hi => ?_⟩
    exact h.row.cells rfl i _ (bs_get l i hi)
theorem Ow.of_block {base : Nat} {v : Value} {l : List Int} (h : Ow base W v l) (hb : ∀ k, base ≤ k → v.ownBlock = some k → W'.heap[k]? = W.heap[k]?) : Ow base W' v l := by
  refine ⟨h.rng, h.len, h.row.1, ?_⟩
  rcases h.row.2 with h0 | ⟨g, cap, cur, rfl, hg, h2, h3⟩
  · exact .inl h0
  · exact .inr ⟨g, cap, cur, rfl, hg, (hb g hg rfl).trans h2, h3⟩
theorem Ow.lt {base : Nat} {v : Value} {l : List Int} (h : Ow base W v l) (k : Nat) (hk : v.ownBlock = some k) : base ≤ k ∧ k < W.heap.size := h.row.lt k hk
theorem Ow.gr {base : Nat} {v : Value} {l : List Int} (h : Ow base W v l) (g : Gr S W W') (hs : ∀ k, base ≤ k → v.ownBlock = some k → ¬ S k) : Ow base W' v l :=
  h.of_block (fun k h1 h2 => g.block k (h.lt k h2).2 (hs k h1 h2))
theorem Ow.g0 {base : Nat} {v : Value} {l : List Int} (h : Ow base W v l) (g : G0 W W') : Ow base W' v l := h.gr g (fun _ _ _ e => e)
theorem Ow.mono {base base' : Nat} {v : Value} {l : List Int} (h : Ow base W v l) (hb : base' ≤ base) : Ow base' W v l := by
  refine ⟨h.rng, h.len, h.row.1, ?_⟩
  rcases h.row.2 with h0 | ⟨g, cap, cur, rfl, hg, h2, h3⟩
  · exact .inl h0
  · exact .inr ⟨g, cap, cur, rfl, by omega, h2, h3⟩
theorem Ow.nil (base : Nat) (W : World) : Ow base W (.slice none 0 0) [] := ⟨by simp, by simp, World.ownsRow_nil _ _ _ _⟩
theorem Ow.lit (base : Nat) (W : World) (l : List Int) (hl : ∀ x ∈ l, Rg x) (hn : l.length ≤ 1000) (hb : base ≤ W.heap.size) (c : Array Value) (hc : c.toList = bs l) (n : Nat) (hn' : n = l.length) :
    Ow base (W.alloc (.cells c 22)) (.slice (some ⟨W.heap.size, 0, none⟩) n n) l := by
  subst hn'
  refine ⟨hl, by omega, ?_⟩
  have := World.ownsRow_lit (base := base) (e := 22) (size := 1) W c l.length hb (by unfold maxLen; omega) (by rw [← Array.length_toList, hc, bs_length, Nat.mul_one])
  rwa [hc] at this

theorem Ow.grown {base : Nat} {v : Value} {l : List Int} (h : Ow base W v l) (hg : W.grownBy W' v.ownBlock) : Gr (fun k => base ≤ k) W W' := Gr.of_grown hg (fun k e => (h.lt k e).1)
/-- What is written from B on, is new to those who were there ahead of it. -/
theorem Gr.new {B : Nat} (h : G0 W W1) (k : Gr (fun i => B ≤ i) W1 W') (hB : W.heap.size ≤ B) : G0 W W' := h.trans' k (fun i hi e => by omega)
theorem info22 : (Try.prog.info? 22).map (fun i => (i.zero, i.size, i.bytes)) = some (some (.int .u32 0), 1, 4) := by kernel_rfl

theorem app_run (w : World) (ty : TypeId) (base : Nat) (v s : Value) (l m : List Int) (hv : Ow base w v l) (hs : Sl w s m) (hlen : (l.length + m.length) * 4 ≤ 140737488355328) (hbase : base ≤ w.heap.size) :
    ∃ v' w', (Builtin.append_ #[29, 29] ty #[v, s]).run Try.prog w = .ok v' w' ∧ Ow base w' v' (l ++ m) ∧ w.grownBy w' v.ownBlock ∧ (v' = .slice none 0 0 → v = .slice none 0 0 ∧ m = []) ∧ (v'.ownBlock = v.ownBlock ∨ v'.ownBlock = some w.heap.size) := by
  obtain ⟨i0, hi, hz0, hz1, hz2⟩ := info_parts info22
  have hby : ∀ x ∈ l ++ m, Rg x := fun x hx => (List.mem_append.1 hx).elim (hv.rng x) (hs.rng x)
  rcases hs.at' with ⟨rfl, rfl⟩ | ⟨a, cap, rfl, h1, h2, h3⟩
  · refine ⟨v, w, run_append_owned_none w base 29 ty 22 i0 1 Try.underlying29 hi v _ _ hv.row, by simpa using hv, ⟨rfl, rfl, rfl, Nat.le_refl _, fun _ _ _ => rfl⟩, fun e => ⟨e, rfl⟩, .inl rfl⟩
  · obtain ⟨v', w', hr, hown, hgrow, hnil, hblk⟩ := run_append_own_at (P := Try.prog) w base 29 ty 22 i0 (.int .u32 0) 1 4 Try.underlying29 hi hz0 hz1 hz2 rfl (by decide) v l.length (bs l) hv.row a m.length cap (bs m) (by simp)
      (fun j u hj => by
        have hjm : j < m.length := by simpa using (List.getElem?_eq_some_iff.1 hj).1
        rw [bs_get m j hjm] at hj
        rw [← hj]; exact h3 j hjm)
      (fun u hu => by obtain ⟨x, _, rfl⟩ := List.mem_map.1 hu; rfl) (by unfold maxLen; omega) (by omega) hbase
    refine ⟨v', w', hr, ⟨hby, by rw [List.length_append]; exact hlen, ?_⟩, hgrow, fun e => ?_, hblk⟩
    · rw [bs_append, List.length_append]; exact hown
    · obtain ⟨e1, e2⟩ := hnil.1 e
      exact ⟨e1, List.length_eq_zero_iff.1 e2⟩
theorem wpList_app (w : World) {ops : Array Oper} {rest : List Oper} {o : Oper} {a : Act} {Q : Exit → Act → World → Prop} (hgd : o.guard = none) (x y : Operand)
    (ho : o.op = .call { callee := .builtin .append, args := #[x, y], argTypes := #[29, 29] }) (base : Nat) (v s : Value) (l m : List Int) (hx : a.eval x = v) (hy : a.eval y = s)
    (hv : Ow base w v l) (hs : Sl w s m) (hlen : (l.length + m.length) * 4 ≤ 140737488355328) (hbase : base ≤ w.heap.size)
    (h : ∀ v' w', Ow base w' v' (l ++ m) → w.grownBy w' v.ownBlock → (v' = .slice none 0 0 → v = .slice none 0 0 ∧ m = []) → (v'.ownBlock = v.ownBlock ∨ v'.ownBlock = some w.heap.size) → wpList Try.prog ops Q rest (a.put o.dst v') w') :
    wpList Try.prog ops Q (o :: rest) a w := by
  refine wpList_plain hgd fun K hK => ?_
  obtain ⟨v', w', hr, h1, h2, h3, h4⟩ := app_run w o.type base v s l m hv hs hlen hbase
  unfold Oper.wp execOp
  simp only [ho, resolve, invoke, builtin, Sem.run_bind, Sem.run_pure, Result.andThen_ok, List.map_toArray, List.map_cons, List.map_nil, hx, hy, hr]
  exact hK _ _ (h v' w' h1 h2 h3 h4)


theorem Ow.form {base : Nat} {v : Value} {l : List Int} (h : Ow base W v l) (hl : l ≠ []) : ∃ g cap, v = .slice (some ⟨g, 0, none⟩) l.length cap ∧ base ≤ g := by
  rcases h.row.2 with ⟨_, h2⟩ | ⟨g, cap, cur, rfl, hb, _⟩
  · exact absurd (List.length_eq_zero_iff.1 h2) hl
  · exact ⟨g, cap, rfl, hb⟩
theorem Ow.sv {base : Nat} {v : Value} {l : List Int} (h : Ow base W v l) : ∃ a cap, v = .slice a l.length cap := by
  obtain ⟨a, cap, e, _⟩ := h.sl.sv
  exact ⟨a, cap, e⟩
theorem Ow.cell {base g n cap : Nat} {l : List Int} (h : Ow base W (.slice (some ⟨g, 0, none⟩) n cap) l) (hn : n = l.length) {j : Nat} (hj : j < l.length) : W.cell? ⟨g, j, none⟩ = some (.int .u32 (l.getD j 0)) ∧ W.frozen? ⟨g, j, none⟩ = false := by
  subst hn
  exact ⟨by rw [h.row.cellAt j (by omega), bs_get l j hj], h.row.frozenAt j⟩
theorem bs_set (l : List Int) (j : Nat) (x : Int) : bs (l.set j x) = (bs l).set j (.int .u32 x) := by simp [bs, List.map_set]
theorem Ow.stored {base g n cap : Nat} {l : List Int} (h : Ow base W (.slice (some ⟨g, 0, none⟩) n cap) l) (hn : n = l.length) (j : Nat) (x : Int) (hx : Rg x) :
    Ow base (W.setCell ⟨g, j, none⟩ (.int .u32 x)) (.slice (some ⟨g, 0, none⟩) n cap) (l.set j x) := by
  subst hn
  refine ⟨fun y hy => ?_, by simpa using h.len, ?_⟩
  · rcases List.mem_or_eq_of_mem_set hy with h1 | rfl
    · exact h.rng y h1
    · exact hx
  · have := (h.row.stored j (.int .u32 x)).1
    rw [bs_set, List.length_set]
    exact this

/-- append as one step of a region that draws. -/
theorem step_app {ops : Array Oper} {o : Oper} {a : Act} {w : World} {K : Act → World → Prop} {Q : Exit → Act → World → Prop} {E : Prop} (hgd : o.guard = none) (x y : Operand)
    (ho : o.op = .call { callee := .builtin .append, args := #[x, y], argTypes := #[29, 29] }) (base : Nat) (v s : Value) (l m : List Int) (hx : a.eval x = v) (hy : a.eval y = s)
    (hv : Ow base w v l) (hs : Sl w s m) (hlen : (l.length + m.length) * 4 ≤ 140737488355328) (hbase : base ≤ w.heap.size)
    (h : ∀ v' w', Ow base w' v' (l ++ m) → w.grownBy w' v.ownBlock → K (a.put o.dst v') w') :
    if Region.wanted o (yielded ops a.tmps) = true then Oper.wp Try.prog o a w K Q else E := by
  have hw : Region.wanted o (yielded ops a.tmps) = true := by simp [Region.wanted, hgd]
  rw [if_pos hw]
  obtain ⟨v', w', hr, h1, h2, _⟩ := app_run w o.type base v s l m hv hs hlen hbase
  unfold Oper.wp execOp
  simp only [ho, resolve, invoke, builtin, Sem.run_bind, Sem.run_pure, Result.andThen_ok, List.map_toArray, List.map_cons, List.map_nil, hx, hy, hr]
  exact h v' w' h1 h2
end Go.Proofs.Ytanhigaingjalaa
