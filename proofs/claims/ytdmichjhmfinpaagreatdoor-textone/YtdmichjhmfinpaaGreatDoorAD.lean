/-
  Parse: what was thrown is recovered, and told.
-/
import Derived.Test.YtdmichjhmfinpaaGreatDoorAB
import Derived.Defers
import Derived.Recover
import Derived.Laws.Pointers
set_option linter.unusedVariables false
set_option linter.unusedSimpArgs false
namespace Go.Proofs.YtdmichjhmfinpaaGreatDoor
open Go.RowKit Go.Maps

theorem ta_nil (w : World) : (Instr.typeAssert .nilIface 20 47 true).run Tryz.prog w = .ok (.tuple #[flt 0 0, .bool false]) w := by kernel_rfl
theorem ta_flt (w : World) (a c : Int) : (Instr.typeAssert (.iface 47 (.agg #[.int .i64 a, .int .i64 c])) 20 47 true).run Tryz.prog w = .ok (.tuple #[.agg #[.int .i64 a, .int .i64 c], .bool true]) w := by kernel_rfl

/-- What recover hands back, and the frames behind it. -/
def recd (cs : List Frame) : Value × List Frame := (recoverD cs).getD (.nilIface, cs)
/-- A region whose first operation recovers. -/
theorem wpS_region_rec {P : Program} {Q : Exit → Act → List Frame → World → Prop} {a : Act} {cs : List Frame} {w : World} {id : Nat} {ops : Array Oper} {o : Oper} {l : List Oper} (hops : ops = (o :: l).toArray)
    (hw : Region.wanted o (yielded ops a.tmps) = true) (hr : (execOp a.eval o).run P w = .ok .recover w)
    (h : wpList P ops (fun e a' w' => Q e a' (recd cs).2 w') l (a.put o.dst (recd cs).1) w) : (Code.region id ops false).wpS P Q a cs w := by
  intro b k hb hro
  have ho : ops[0]? = some o := by rw [hops]; rfl
  have hl : ∀ j, l[j]? = ops[1 + j]? := fun j => by rw [hops, Nat.add_comm 1 j]; simp
  have hrange : List.range ops.size = 0 :: List.range' 1 l.length := by
    rw [hops]; simp [List.range_eq_range', List.range'_succ]
  have h1 : wpOps P ops (fun e a' w' => Q e a' (recd cs).2 w') (List.range' 1 l.length) (a.put o.dst (recd cs).1) w := by rw [wpOps_eq_wpList l 1 hl]; exact h
  obtain ⟨e, a', w', hq, harr⟩ := wp_ops _ _ _ h1 b k (recd cs).2
  have hs0 := step_region (P := P) (b := b) (a := a) (k := k) (cs := cs) (w := w) (ops := ops) (id := id)
  rw [hrange] at hs0
  have hg := stepG_op (P := P) (b := b) (k := k) (cs := cs) (w := w) (rest := List.range' 1 l.length) ho hw
  have hfin : ∀ v, (b.at a (.inRegion ops (0 :: List.range' 1 l.length) :: k)).finish v = b.at (a.put o.dst v) (.inRegion ops (List.range' 1 l.length) :: k) := by
    intro v; rw [Frame.finish_at, ho]; rfl
  have hk : (b.at a (.inRegion ops (0 :: List.range' 1 l.length) :: k)).kind = .deferred := hb
  have htr := tryRecover_deferred hk cs
  refine ⟨e, a', (recd cs).2, w', hq, .of_steps (.head hs0 (.one (step_lone_go ?_))) harr⟩
  rw [hg, ← hfin]
  simp only [Frame.at] at htr ⊢
  unfold recd
  cases hrec : recoverD cs with
  | none => simp [stepG.apply, hr, htr, hrec]
  | some x => obtain ⟨v, cs'⟩ := x; simp [stepG.apply, hr, htr, hrec]

set_option maxRecDepth 100000 in
set_option maxHeartbeats 400000 in
theorem catch_idle (p q r : Nat) (w : World) :
    CallsD Tryz.prog 15 #[pt p, pt q, pt r] .returning w fun e u' w' => e = .returned (.tuple #[]) ∧ u' = .returning ∧ Gr (fun _ => False) w w' := by
  have h1 := ta_nil
  refine callsD_of_wpS Tryz.func15 rfl fun c₀ cs hu => ?_
  have hrec : recd (c₀ :: cs) = (.nilIface, c₀ :: cs) := by simp [recd, recoverD, hu]
  apply wpS_seq
  refine wpS_region_rec rfl (by rfl) (by rfl) ?_
  rw [hrec]
  simp only [Tryz.ntmps15, List.size_toArray, List.length_cons, List.length_nil, Nat.reduceAdd, Nat.reduceSub, Array.replicate_succ, Array.replicate_zero, List.push_toArray, List.append_toArray, List.nil_append, List.cons_append]
  go_wp2
  refine (wpS_of_wp ?_ : Code.wpS _ _ _ _ _ _)
  go_wp2
  cases c₀
  simp only at hu
  subst hu
  exact ⟨rfl, _, rfl, _, results_none rfl _ _ _, rfl, rfl, Gr.alloc _ _ _⟩

theorem set9_same {W : World} {g : Nat} {x0 x1 x2 x3 x4 x5 x6 x7 x8 v0 v1 v2 v3 v4 v5 v6 v7 v8 : Value} (h : W.heap[g]? = some (.cells #[x0, x1, x2, x3, x4, x5, x6, x7, x8] 31 (0, 0))) :
    (((((((((W.setCell ⟨g, 0, none⟩ v0).setCell ⟨g, 1, none⟩ v1).setCell ⟨g, 2, none⟩ v2).setCell ⟨g, 3, none⟩ v3).setCell ⟨g, 4, none⟩ v4).setCell ⟨g, 5, none⟩ v5).setCell ⟨g, 6, none⟩ v6).setCell ⟨g, 7, none⟩ v7).setCell ⟨g, 8, none⟩ v8).heap[g]? = some (.cells #[v0, v1, v2, v3, v4, v5, v6, v7, v8] 31 (0, 0)) := by
  obtain ⟨W0, hW0⟩ : ∃ W0, W.setCell ⟨g, 0, none⟩ v0 = W0 := ⟨_, rfl⟩
  have h0 : W0.heap[g]? = some (.cells #[v0, x1, x2, x3, x4, x5, x6, x7, x8] 31 (0, 0)) := hW0 ▸ heap_setCell_same W g 0 _ 31 _ h
  obtain ⟨W1, hW1⟩ : ∃ W1, W0.setCell ⟨g, 1, none⟩ v1 = W1 := ⟨_, rfl⟩
  have h1 : W1.heap[g]? = some (.cells #[v0, v1, x2, x3, x4, x5, x6, x7, x8] 31 (0, 0)) := hW1 ▸ heap_setCell_same W0 g 1 _ 31 _ h0
  obtain ⟨W2, hW2⟩ : ∃ W2, W1.setCell ⟨g, 2, none⟩ v2 = W2 := ⟨_, rfl⟩
  have h2 : W2.heap[g]? = some (.cells #[v0, v1, v2, x3, x4, x5, x6, x7, x8] 31 (0, 0)) := hW2 ▸ heap_setCell_same W1 g 2 _ 31 _ h1
  obtain ⟨W3, hW3⟩ : ∃ W3, W2.setCell ⟨g, 3, none⟩ v3 = W3 := ⟨_, rfl⟩
  have h3 : W3.heap[g]? = some (.cells #[v0, v1, v2, v3, x4, x5, x6, x7, x8] 31 (0, 0)) := hW3 ▸ heap_setCell_same W2 g 3 _ 31 _ h2
  obtain ⟨W4, hW4⟩ : ∃ W4, W3.setCell ⟨g, 4, none⟩ v4 = W4 := ⟨_, rfl⟩
  have h4 : W4.heap[g]? = some (.cells #[v0, v1, v2, v3, v4, x5, x6, x7, x8] 31 (0, 0)) := hW4 ▸ heap_setCell_same W3 g 4 _ 31 _ h3
  obtain ⟨W5, hW5⟩ : ∃ W5, W4.setCell ⟨g, 5, none⟩ v5 = W5 := ⟨_, rfl⟩
  have h5 : W5.heap[g]? = some (.cells #[v0, v1, v2, v3, v4, v5, x6, x7, x8] 31 (0, 0)) := hW5 ▸ heap_setCell_same W4 g 5 _ 31 _ h4
  obtain ⟨W6, hW6⟩ : ∃ W6, W5.setCell ⟨g, 6, none⟩ v6 = W6 := ⟨_, rfl⟩
  have h6 : W6.heap[g]? = some (.cells #[v0, v1, v2, v3, v4, v5, v6, x7, x8] 31 (0, 0)) := hW6 ▸ heap_setCell_same W5 g 6 _ 31 _ h5
  obtain ⟨W7, hW7⟩ : ∃ W7, W6.setCell ⟨g, 7, none⟩ v7 = W7 := ⟨_, rfl⟩
  have h7 : W7.heap[g]? = some (.cells #[v0, v1, v2, v3, v4, v5, v6, v7, x8] 31 (0, 0)) := hW7 ▸ heap_setCell_same W6 g 7 _ 31 _ h6
  obtain ⟨W8, hW8⟩ : ∃ W8, W7.setCell ⟨g, 8, none⟩ v8 = W8 := ⟨_, rfl⟩
  have h8 : W8.heap[g]? = some (.cells #[v0, v1, v2, v3, v4, v5, v6, v7, v8] 31 (0, 0)) := hW8 ▸ heap_setCell_same W7 g 8 _ 31 _ h7
  rw [hW0, hW1, hW2, hW3, hW4, hW5, hW6, hW7, hW8]
  exact h8

theorem catch_end {p q r j : Nat} {c : Int} {w w1 : World} (hg1 : Gr (fun _ => False) w w1) (hp1 : Bx w1 p 0 0 0 0 e0 0 0 0 nl nl) (hq1 : w1.heap[q]? = some (.cells #[.int .i64 0] 3 (0, 0))) (hr1 : w1.heap[r]? = some (.cells #[.int .i64 0] 32 (0, 0)))
    (hpq : p ≠ q) (hpr : p ≠ r) (hqr : q ≠ r) :
    Bx ((((((((((((w1.setCell ⟨p, 0, none⟩ (.int .i64 0)).setCell ⟨p, 1, none⟩ (.int .i64 0)).setCell ⟨p, 2, none⟩ (.complex .f64 0 0)).setCell ⟨p, 3, none⟩ (.string e0)).setCell ⟨p, 4, none⟩ (.int .i64 0)).setCell ⟨p, 5, none⟩ (.int .u32 0)).setCell ⟨p, 6, none⟩ (.int .u64 0)).setCell ⟨p, 7, none⟩ nl).setCell ⟨p, 8, none⟩ nl).setCell ⟨q, 0, none⟩ (.int .i64 (j : Int))).setCell ⟨r, 0, none⟩ (.int .i64 c)).drew) p 0 0 0 0 e0 0 0 0 nl nl ∧ ((((((((((((w1.setCell ⟨p, 0, none⟩ (.int .i64 0)).setCell ⟨p, 1, none⟩ (.int .i64 0)).setCell ⟨p, 2, none⟩ (.complex .f64 0 0)).setCell ⟨p, 3, none⟩ (.string e0)).setCell ⟨p, 4, none⟩ (.int .i64 0)).setCell ⟨p, 5, none⟩ (.int .u32 0)).setCell ⟨p, 6, none⟩ (.int .u64 0)).setCell ⟨p, 7, none⟩ nl).setCell ⟨p, 8, none⟩ nl).setCell ⟨q, 0, none⟩ (.int .i64 (j : Int))).setCell ⟨r, 0, none⟩ (.int .i64 c)).drew).heap[q]? = some (.cells #[.int .i64 (j : Int)] 3 (0, 0)) ∧ ((((((((((((w1.setCell ⟨p, 0, none⟩ (.int .i64 0)).setCell ⟨p, 1, none⟩ (.int .i64 0)).setCell ⟨p, 2, none⟩ (.complex .f64 0 0)).setCell ⟨p, 3, none⟩ (.string e0)).setCell ⟨p, 4, none⟩ (.int .i64 0)).setCell ⟨p, 5, none⟩ (.int .u32 0)).setCell ⟨p, 6, none⟩ (.int .u64 0)).setCell ⟨p, 7, none⟩ nl).setCell ⟨p, 8, none⟩ nl).setCell ⟨q, 0, none⟩ (.int .i64 (j : Int))).setCell ⟨r, 0, none⟩ (.int .i64 c)).drew).heap[r]? = some (.cells #[.int .i64 c] 32 (0, 0)) ∧ Gr (fun k => k = p ∨ k = q ∨ k = r) w ((((((((((((w1.setCell ⟨p, 0, none⟩ (.int .i64 0)).setCell ⟨p, 1, none⟩ (.int .i64 0)).setCell ⟨p, 2, none⟩ (.complex .f64 0 0)).setCell ⟨p, 3, none⟩ (.string e0)).setCell ⟨p, 4, none⟩ (.int .i64 0)).setCell ⟨p, 5, none⟩ (.int .u32 0)).setCell ⟨p, 6, none⟩ (.int .u64 0)).setCell ⟨p, 7, none⟩ nl).setCell ⟨p, 8, none⟩ nl).setCell ⟨q, 0, none⟩ (.int .i64 (j : Int))).setCell ⟨r, 0, none⟩ (.int .i64 c)).drew) := by
  have t9 := Gr.own9 w1 p (.int .i64 0) (.int .i64 0) (.complex .f64 0 0) (.string e0) (.int .i64 0) (.int .u32 0) (.int .u64 0) nl nl
  have e9 := set9_same (v0 := .int .i64 0) (v1 := .int .i64 0) (v2 := .complex .f64 0 0) (v3 := .string e0) (v4 := .int .i64 0) (v5 := .int .u32 0) (v6 := .int .u64 0) (v7 := nl) (v8 := nl) hp1
  generalize (((((((((w1.setCell ⟨p, 0, none⟩ (.int .i64 0)).setCell ⟨p, 1, none⟩ (.int .i64 0)).setCell ⟨p, 2, none⟩ (.complex .f64 0 0)).setCell ⟨p, 3, none⟩ (.string e0)).setCell ⟨p, 4, none⟩ (.int .i64 0)).setCell ⟨p, 5, none⟩ (.int .u32 0)).setCell ⟨p, 6, none⟩ (.int .u64 0)).setCell ⟨p, 7, none⟩ nl).setCell ⟨p, 8, none⟩ nl) = wa at t9 e9 ⊢
  have tq := own1 wa q 0 (.int .i64 (j : Int))
  have tr := own1 (wa.setCell ⟨q, 0, none⟩ (.int .i64 (j : Int))) r 0 (.int .i64 c)
  have td := Gr.drew ((wa.setCell ⟨q, 0, none⟩ (.int .i64 (j : Int))).setCell ⟨r, 0, none⟩ (.int .i64 c)) (fun _ => False)
  have eq1 : (wa.setCell ⟨q, 0, none⟩ (.int .i64 (j : Int))).heap[q]? = some (.cells #[.int .i64 (j : Int)] 3 (0, 0)) := heap_setCell_same wa q 0 _ 3 _ (t9.keep hq1 (fun e => hpq e.symm))
  have er1 : ((wa.setCell ⟨q, 0, none⟩ (.int .i64 (j : Int))).setCell ⟨r, 0, none⟩ (.int .i64 c)).heap[r]? = some (.cells #[.int .i64 c] 32 (0, 0)) := heap_setCell_same _ r 0 _ 32 _ (tq.keep (t9.keep hr1 (fun e => hpr e.symm)) (fun e => hqr e.symm))
  exact ⟨td.keep (tr.keep (tq.keep e9 hpq) hpr) (fun e => e), td.keep (tr.keep eq1 hqr) (fun e => e), td.keep er1 (fun e => e),
    ((((hg1.mono (fun _ _ e => e.elim)).trans (t9.mono (fun _ _ e => .inl e))).trans (tq.mono (fun _ _ e => .inr (.inl e)))).trans (tr.mono (fun _ _ e => .inr (.inr e)))).trans (td.mono (fun _ _ e => e.elim))⟩

set_option maxRecDepth 100000 in
set_option maxHeartbeats 1600000 in
theorem catch_thrown (p q r j : Nat) (c : Int) (w : World) (hp : Bx w p 0 0 0 0 e0 0 0 0 nl nl) (hq : w.heap[q]? = some (.cells #[.int .i64 0] 3 (0, 0))) (hr : w.heap[r]? = some (.cells #[.int .i64 0] 32 (0, 0))) :
    CallsD Tryz.prog 15 #[pt p, pt q, pt r] (.panicking [{ v := .iface 47 (flt j c), recovered := false }]) w fun e u' w' => e = .returned (.tuple #[]) ∧ u' = .panicking [{ v := .iface 47 (flt j c), recovered := true }] ∧
      Bx w' p 0 0 0 0 e0 0 0 0 nl nl ∧ w'.heap[q]? = some (.cells #[.int .i64 (j : Int)] 3 (0, 0)) ∧ w'.heap[r]? = some (.cells #[.int .i64 c] 32 (0, 0)) ∧ Gr (fun k => k = p ∨ k = q ∨ k = r) w w' := by
  have h1 := fun w => ta_flt w (j : Int) c
  have hpq : p ≠ q := by intro e; subst e; unfold Bx at hp; rw [hp] at hq; simp at hq
  have hpr : p ≠ r := by intro e; subst e; unfold Bx at hp; rw [hp] at hr; simp at hr
  have hqr : q ≠ r := by intro e; subst e; rw [hq] at hr; simp at hr
  refine callsD_of_wpS Tryz.func15 rfl fun c₀ cs hu => ?_
  have hrec : recd (c₀ :: cs) = (.iface 47 (flt j c), { c₀ with mode := .panicking [{ v := .iface 47 (flt j c), recovered := true }] } :: cs) := by simp [recd, recoverD, hu]
  apply wpS_seq
  refine wpS_region_rec rfl (by rfl) (by rfl) ?_
  rw [hrec]
  simp only [Tryz.ntmps15, List.size_toArray, List.length_cons, List.length_nil, Nat.reduceAdd, Nat.reduceSub, Array.replicate_succ, Array.replicate_zero, List.push_toArray, List.append_toArray, List.nil_append, List.cons_append]
  go_wp2
  generalize hW1 : w.alloc _ = w1
  have hg1 : Gr (fun _ => False) w w1 := hW1 ▸ Gr.alloc _ _ _
  have hf1 : w1.heap[w.heap.size]? = some (.cells #[.int .i64 (j : Int), .int .i64 c] 47 (0, 0)) := hW1 ▸ heap_alloc_new w _
  have hp1 := hp.gr hg1 (fun e => e)
  have hq1 := hg1.keep hq (fun e => e)
  have hr1 := hg1.keep hr (fun e => e)
  have hlp := hp.lt
  have hlq := (Array.getElem?_eq_some_iff.1 hq).1
  have hlr := (Array.getElem?_eq_some_iff.1 hr).1
  obtain ⟨⟨m0, m1, m2, m3, m4, m5, m6, m7, m8⟩, mf⟩ := nine (show w1.heap[p]? = _ from hp1)
  obtain ⟨q1, q2⟩ := cell_of hq1
  obtain ⟨r1, r2⟩ := cell_of hr1
  obtain ⟨g, hgg⟩ : ∃ g, g = w.heap.size := ⟨_, rfl⟩
  rw [← hgg] at hf1 ⊢
  have d1 : ¬ g = p := by omega
  have d2 : ¬ g = q := by omega
  have d3 : ¬ g = r := by omega
  have f1 : w1.cell? ⟨g, 0, none⟩ = some (.int .i64 (j : Int)) ∧ w1.cell? ⟨g, 1, none⟩ = some (.int .i64 c) := by simp [World.cell?, hf1]
  obtain ⟨f1, f2⟩ := f1
  clear hW1 hgg
  refine (wpS_of_wp ?_ : Code.wpS _ _ _ _ _ _)
  go_wp2
  go_region
  exact ⟨rfl, _, rfl, _, results_none rfl _ _ _, rfl, rfl, catch_end hg1 hp1 hq1 hr1 hpq hpr hqr⟩
end Go.Proofs.YtdmichjhmfinpaaGreatDoor
