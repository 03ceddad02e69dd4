/-
  A table tells just its names, left early and begun again.
-/
import Derived.Test.YtipdniiamaaolaaH
namespace Go.Proofs.Ytipdniiamaaolaa
open Go.RowKit Go.Maps Go.WideMaps Go.Shelf
attribute [local go_sem] Oper.semAt_some

theorem Snap.sv {W : World} {sv : Value} {l : List ByteArray} (h : Snap W sv l) : ∃ a cap, sv = .slice a l.length cap := by
  rcases h.2 with ⟨rfl, a, cap, rfl⟩ | ⟨g, cap, rfl, _⟩
  · exact ⟨a, cap, rfl⟩
  · exact ⟨_, cap, rfl⟩
theorem Snap.cell {W : World} {a : Option Addr} {cap : Nat} {l : List ByteArray} (h : Snap W (.slice a l.length cap) l) {k : Nat} (hk : k < l.length) : ∃ g, a = some ⟨g, 0, none⟩ ∧ W.cell? ⟨g, k, none⟩ = some (.string (at_ l k)) := by
  rcases h.2 with ⟨rfl, _⟩ | ⟨g, cap, e, hc⟩
  · simp at hk
  · cases e; exact ⟨g, rfl, hc k hk⟩

theorem Cnt_at {X0 X : World} {q k j : Nat} {o : Obj} (h : CntI X0 q k X) (h0 : X0.heap[j]? = some o) (hj : j < q) : X.heap[j]? = some o :=
  (h.2.block j (Array.getElem?_eq_some_iff.1 h0).1 (by omega)).trans h0
theorem alloc_at {X : World} {o : Obj} (j : Nat) {o' : Obj} (h : X.heap[j]? = some o') : (X.alloc o).heap[j]? = some o' := (heap_alloc_old X o (Array.getElem?_eq_some_iff.1 h).1).trans h
/-- What lies in memory while the names are told. -/
structure Told (W : World) (lv sv : Value) (st : Int) (l : List ByteArray) (X : World) : Prop where
  c0 : X.heap[W.heap.size]? = some (.cells #[lv] 27 (0, 0))
  c1 : X.heap[W.heap.size + 1]? = some (.cells #[.int .i64 st] 3 (0, 0))
  c2 : X.heap[W.heap.size + 2]? = some (.cells #[.bool false] 4 (0, 0))
  c3 : X.heap[W.heap.size + 3]? = some (.cells #[sv] 27 (0, 0))
  gr : Gr (fun _ => False) W X
theorem Told.alloc {W X : World} {lv sv : Value} {st : Int} {l : List ByteArray} (h : Told W lv sv st l X) (o : Obj) : Told W lv sv st l (X.alloc o) :=
  ⟨alloc_at _ h.c0, alloc_at _ h.c1, alloc_at _ h.c2, alloc_at _ h.c3, h.gr.trans (Gr.alloc _ _ _)⟩
theorem Told.cnt {W X0 X : World} {lv sv : Value} {st : Int} {l : List ByteArray} {q k : Nat} (h : Told W lv sv st l X0) (hq : W.heap.size + 3 < q) (hc : CntI X0 q k X) : Told W lv sv st l X :=
  ⟨Cnt_at hc h.c0 (by omega), Cnt_at hc h.c1 (by omega), Cnt_at hc h.c2 (by omega), Cnt_at hc h.c3 (by omega), h.gr.trans' hc.2 (fun i hi e => by omega)⟩

theorem told_end {W Y : World} {lv sv : Value} {st : Int} {l : List ByteArray} {b0 b1 : Nat} (t : Told W lv sv st l Y) (h1 : Y.heap[b1]? = some (.deferred (some []))) (h0 : Y.heap[b0]? = some (.deferred (some [])))
    (g0 : W.heap.size + 2 < b0) (g1 : W.heap.size + 2 < b1) (g2 : b0 ≠ b1) (o : Obj) :
    ((Y.setCell ⟨W.heap.size + 1 + 1, 0, none⟩ (.bool true)).alloc o).heap[b1]? = some (.deferred (some [])) ∧
    (((Y.setCell ⟨W.heap.size + 1 + 1, 0, none⟩ (.bool true)).alloc o).putObj b1 (.deferred none)).heap[b0]? = some (.deferred (some [])) ∧
    ((((Y.setCell ⟨W.heap.size + 1 + 1, 0, none⟩ (.bool true)).alloc o).putObj b1 (.deferred none)).putObj b0 (.deferred none)).heap[W.heap.size + 1 + 1]? = some (.cells #[.bool true] 4 (0, 0)) ∧
    Gr (fun _ => False) W ((((Y.setCell ⟨W.heap.size + 1 + 1, 0, none⟩ (.bool true)).alloc o).putObj b1 (.deferred none)).putObj b0 (.deferred none)) := by
  have e1 : (Y.setCell ⟨W.heap.size + 1 + 1, 0, none⟩ (.bool true)).heap[b1]? = some (.deferred (some [])) := (heap_setCell_other Y _ _ _ (show b1 ≠ W.heap.size + 1 + 1 by omega)).trans h1
  have e0 : (Y.setCell ⟨W.heap.size + 1 + 1, 0, none⟩ (.bool true)).heap[b0]? = some (.deferred (some [])) := (heap_setCell_other Y _ _ _ (show b0 ≠ W.heap.size + 1 + 1 by omega)).trans h0
  have e2 : (Y.setCell ⟨W.heap.size + 1 + 1, 0, none⟩ (.bool true)).heap[W.heap.size + 1 + 1]? = some (.cells #[.bool true] 4 (0, 0)) := heap_setCell_same Y _ 0 _ 4 _ t.c2
  refine ⟨alloc_at _ e1, (World.putObj_heap_other (by omega)).trans (alloc_at _ e0), (World.putObj_heap_other (by omega)).trans ((World.putObj_heap_other (by omega)).trans (alloc_at _ e2)), ?_⟩
  have g3 : Gr (fun i => W.heap.size ≤ i) W Y := t.gr.mono (fun _ _ e => e.elim)
  have g4 := (((g3.trans (Gr.set Y ⟨W.heap.size + 1 + 1, 0, none⟩ (.bool true) (show W.heap.size ≤ W.heap.size + 1 + 1 by omega))).trans (Gr.alloc _ o _)).trans
    (Gr.of_grown (grownBy_putObj' _ b1 (.deferred none)) (fun k e => by cases e; omega))).trans (Gr.of_grown (grownBy_putObj' _ b0 (.deferred none)) (fun k e => by cases e; omega))
  exact g4.mono (fun i hi e => by omega)
theorem told0 (W : World) (lv sv : Value) (st : Int) (l : List ByteArray) (X0 : World) (hX0 : (((((W.alloc (Obj.cells #[lv] 27)).alloc (Obj.cells #[Value.int IntKind.i64 st] 3)).alloc (Obj.cells #[Value.bool false] 4)).alloc (Obj.cells #[sv] 27)).alloc (Obj.cells #[Value.int IntKind.i64 0] 3)).alloc (Obj.cells #[Value.int IntKind.i64 0] 3) = X0) : Told W lv sv st l X0 := by
  subst hX0
  have a0 := heap_alloc_new W (Obj.cells #[lv] 27)
  have a1 := heap_alloc_new (W.alloc (Obj.cells #[lv] 27)) (Obj.cells #[Value.int IntKind.i64 st] 3)
  have a2 := heap_alloc_new ((W.alloc (Obj.cells #[lv] 27)).alloc (Obj.cells #[Value.int IntKind.i64 st] 3)) (Obj.cells #[Value.bool false] 4)
  have a3 := heap_alloc_new (((W.alloc (Obj.cells #[lv] 27)).alloc (Obj.cells #[Value.int IntKind.i64 st] 3)).alloc (Obj.cells #[Value.bool false] 4)) (Obj.cells #[sv] 27)
  simp only [World.size_alloc] at a1 a2 a3
  exact ⟨alloc_at _ (alloc_at _ (alloc_at _ (alloc_at _ (alloc_at _ a0)))), alloc_at _ (alloc_at _ (alloc_at _ (alloc_at _ a1))), alloc_at _ (alloc_at _ (alloc_at _ a2)), alloc_at _ (alloc_at _ a3),
    (((((Gr.alloc _ _ _).trans (Gr.alloc _ _ _)).trans (Gr.alloc _ _ _)).trans (Gr.alloc _ _ _)).trans (Gr.alloc _ _ _)).trans (Gr.alloc _ _ _)⟩
theorem turn0 (W : World) (lv sv : Value) (st : Int) (X0 : World) (hX0 : (((((W.alloc (Obj.cells #[lv] 27)).alloc (Obj.cells #[Value.int IntKind.i64 st] 3)).alloc (Obj.cells #[Value.bool false] 4)).alloc (Obj.cells #[sv] 27)).alloc (Obj.cells #[Value.int IntKind.i64 0] 3)).alloc (Obj.cells #[Value.int IntKind.i64 0] 3) = X0) : X0.heap[W.heap.size + 4]? = some (.cells #[.int .i64 0] 3 (0, 0)) := by
  subst hX0
  have a4 := heap_alloc_new ((((W.alloc (Obj.cells #[lv] 27)).alloc (Obj.cells #[Value.int IntKind.i64 st] 3)).alloc (Obj.cells #[Value.bool false] 4)).alloc (Obj.cells #[sv] 27)) (Obj.cells #[Value.int IntKind.i64 0] 3)
  simp only [World.size_alloc] at a4
  exact alloc_at _ a4
theorem cnt0 (W : World) (lv sv : Value) (st : Int) (X0 : World) (hX0 : (((((W.alloc (Obj.cells #[lv] 27)).alloc (Obj.cells #[Value.int IntKind.i64 st] 3)).alloc (Obj.cells #[Value.bool false] 4)).alloc (Obj.cells #[sv] 27)).alloc (Obj.cells #[Value.int IntKind.i64 0] 3)).alloc (Obj.cells #[Value.int IntKind.i64 0] 3) = X0) : CntI X0 (W.heap.size + 5) 0 X0 := by
  refine ⟨?_, Gr.refl _ _⟩
  subst hX0
  have a5 := heap_alloc_new (((((W.alloc (Obj.cells #[lv] 27)).alloc (Obj.cells #[Value.int IntKind.i64 st] 3)).alloc (Obj.cells #[Value.bool false] 4)).alloc (Obj.cells #[sv] 27)).alloc (Obj.cells #[Value.int IntKind.i64 0] 3)) (Obj.cells #[Value.int IntKind.i64 0] 3)
  simp only [World.size_alloc] at a5
  exact a5

set_option maxRecDepth 100000 in
set_option maxHeartbeats 8000000 in
theorem tells_c (W : World) (b : Nat) (m : Option Nat) (sv lv : Value) (l : List ByteArray) (st : Int) (h : Tab W b m sv l) (hl : Snap W lv l) :
    Calls Try.prog 18 #[pt b, lv, .int .i64 st] W fun e W' => e = .returned (.bool true) ∧ Gr (fun _ => False) W W' := by
  obtain ⟨al, cl, rfl⟩ := hl.sv
  have hq := eqFn
  refine (callsIn_wide (n := 3)).1 ?_
  refine callsIn_of_wp_marks Try.func18 rfl trivial ?_ rfl
  simp only [Try.ntmps18, List.size_toArray, List.length_cons, List.length_nil, Nat.reduceAdd, Nat.reduceSub, Array.replicate_succ, Array.replicate_zero, List.push_toArray, List.append_toArray, List.nil_append, List.cons_append]
  gi_wp2_with (first
    | (refine ⟨trivial, ?_⟩; gi_at_call 22; refine (callsIn_wide.2 (all_c _ b m sv l (h.gr (((Gr.alloc _ _ (fun _ => False)).trans (Gr.alloc _ _ _)).trans (Gr.alloc _ _ _)) (fun _ _ e => e)))).mono ?_; rintro e w2 ⟨rfl, rfl⟩))
  refine wpIn_loop_rounds 3 ?_
  rw [roundsIn_succ]
  gi_wp2
  obtain ⟨X0, hX0⟩ : ∃ X0, (((((W.alloc (Obj.cells #[Value.slice al l.length cl] 27)).alloc (Obj.cells #[Value.int IntKind.i64 st] 3)).alloc (Obj.cells #[Value.bool false] 4)).alloc (Obj.cells #[sv] 27)).alloc (Obj.cells #[Value.int IntKind.i64 0] 3)).alloc (Obj.cells #[Value.int IntKind.i64 0] 3) = X0 := ⟨_, rfl⟩
  have hs0 : X0.heap.size = W.heap.size + 6 := by rw [← hX0]; simp
  have t0 : Told W (.slice al l.length cl) sv st l X0 := told0 W _ sv st l _ hX0
  have hT0 : X0.heap[W.heap.size + 4]? = some (.cells #[.int .i64 0] 3 (0, 0)) := turn0 W _ sv st _ hX0
  have hN0 : CntI X0 (W.heap.size + 5) 0 X0 := cnt0 W _ sv st _ hX0
  refine (congrArg (fun X => Code.wpIn Fence.wide 3 Try.prog _ _ _ X) hX0).mpr ?_
  refine rangeAll (nb := W.heap.size + 3) (sv := sv) (xs := l) rfl rfl (cell_of t0.c3).1 (h.gr t0.gr (fun _ _ e => e)).snap (CntI X0 (W.heap.size + 5)) (fun c X => c = .exit 2 ∧ ∃ k, CntI X0 (W.heap.size + 5) k X) ?_ ?_ ?_ hN0
    (fun k => { tmps := #[pt b, Value.slice al l.length cl, Value.int IntKind.i64 st, undef, pt W.heap.size, pt (W.heap.size + 1), pt (W.heap.size + 1 + 1), Value.func (Fn.func 26) #[] #[pt (W.heap.size + 1 + 1 + 1)], pt (W.heap.size + 1 + 1 + 1 + 1), pt (W.heap.size + 1 + 1 + 1 + 1 + 1), .int .i64 (k : Int), .string (at_ l k), pt b, Value.func (Fn.func 26) #[] #[pt (W.heap.size + 1 + 1 + 1)], Value.func (Fn.func 26) #[] #[pt (W.heap.size + 1 + 1 + 1)], Value.bool false, Value.int IntKind.i64 0, Value.bool true, undef, undef, Value.func (Fn.func 26) #[] #[pt (W.heap.size + 1 + 1 + 1)], .int .i64 (k : Int), .string (at_ l k), undef, undef, undef, undef, undef, undef, undef, undef, undef, undef, undef, undef, undef, undef, undef, undef, undef, undef, undef, undef, undef, undef, undef, undef, undef, undef, undef, undef, undef, undef, undef, undef, undef, undef, undef], defers := [] }) ?assign ?body ?done ?stop
  · intro k X X' hi t; rw [hs0] at t; exact hi.turn t
  · rintro c X X' ⟨e, k, hi⟩ t; rw [hs0] at t; exact ⟨e, k, hi.turn t⟩
  · intro k X hi; exact (h.gr (t0.cnt (by omega) hi).gr (fun _ _ e => e)).snap
  case assign =>
    intro lp k X K _ hK
    gi_wp2
    exact hK
  case body =>
    rintro k X hi hk hlt
    rw [hs0] at hlt ⊢
    have tX := t0.cnt (by omega) hi
    obtain ⟨x0, y0⟩ := cell_of tX.c0
    obtain ⟨x1, y1⟩ := cell_of tX.c1
    obtain ⟨x4, y4⟩ := cell_of (Cnt_at hi hT0 (by omega))
    obtain ⟨x5, y5⟩ := cell_of hi.1
    obtain ⟨g, rfl, cg⟩ := (hl.gr tX.gr (fun _ _ e => e)).cell hk
    have hkl : (k : Int) < (l.length : Int) := by omega
    have hll : (l.length : Int) ≤ 4096 := by have := hl.1; omega
    by_cases hst : st < (k : Int) + 1
    · gi_wp2
      exact ⟨hi.step.1, rfl, _, hi.step.2⟩
    · gi_wp2
      exact hi.step
  case done =>
    rintro X hi hK
    rw [hs0] at hK ⊢
    have tX := t0.cnt (by omega) hi
    obtain ⟨x0, y0⟩ := cell_of tX.c0
    obtain ⟨x4, y4⟩ := cell_of (Cnt_at hi hT0 (by omega))
    obtain ⟨x5, y5⟩ := cell_of hi.1
    have hXs : W.heap.size + 6 < X.heap.size := (Array.getElem?_eq_some_iff.1 hK).1
    gi_wp2
    rw [roundsIn_succ]
    gi_wp2
    clear x0 y0 x4 y4 x5 y5
    obtain ⟨X1, hX1⟩ : ∃ X1, (X.alloc (Obj.cells #[Value.int IntKind.i64 1] 3)).alloc (Obj.cells #[Value.int IntKind.i64 0] 3) = X1 := ⟨_, rfl⟩
    have hs1 : X1.heap.size = X.heap.size + 2 := by rw [← hX1]; simp
    have t1 : Told W (.slice al l.length cl) sv st l X1 := by rw [← hX1]; exact (tX.alloc _).alloc _
    have hT1 : X1.heap[X.heap.size]? = some (.cells #[.int .i64 1] 3 (0, 0)) := by rw [← hX1]; exact alloc_at _ (heap_alloc_new _ _)
    have hN1 : CntI X1 (X.heap.size + 1) 0 X1 := by
      refine ⟨?_, Gr.refl _ _⟩
      rw [← hX1]; have := heap_alloc_new (X.alloc (Obj.cells #[Value.int IntKind.i64 1] 3)) (Obj.cells #[Value.int IntKind.i64 0] 3); rwa [World.size_alloc] at this
    have hK1 : X1.heap[W.heap.size + 6]? = some (.deferred (some [])) := by rw [← hX1]; exact alloc_at _ (alloc_at _ hK)
    refine (congrArg (fun X => Code.wpIn Fence.wide 3 Try.prog _ _ _ X) hX1).mpr ?_
    refine rangeAll (nb := W.heap.size + 3) (sv := sv) (xs := l) rfl rfl (cell_of t1.c3).1 (h.gr t1.gr (fun _ _ e => e)).snap (CntI X1 (X.heap.size + 1)) (fun _ _ => False) ?_ (fun _ _ _ e _ => e) ?_ hN1
      (fun k => { tmps := #[pt b, Value.slice al l.length cl, Value.int IntKind.i64 st, undef, pt W.heap.size, pt (W.heap.size + 1), pt (W.heap.size + 1 + 1), Value.func (Fn.func 26) #[] #[pt (W.heap.size + 1 + 1 + 1)], pt X.heap.size, pt (X.heap.size + 1), .int .i64 (k : Int), .string (at_ l k), pt b, Value.func (Fn.func 26) #[] #[pt (W.heap.size + 1 + 1 + 1)], Value.func (Fn.func 26) #[] #[pt (W.heap.size + 1 + 1 + 1)], Value.bool false, Value.int IntKind.i64 1, Value.bool true, Value.int IntKind.i64 0, Value.int IntKind.i64 1, Value.func (Fn.func 26) #[] #[pt (W.heap.size + 1 + 1 + 1)], .int .i64 (k : Int), .string (at_ l k), undef, undef, undef, undef, undef, undef, undef, undef, undef, undef, undef, undef, undef, undef, undef, undef, undef, undef, undef, undef, undef, undef, undef, undef, undef, undef, Value.int IntKind.i64 0, Value.bool false, Value.bool false, undef, undef, undef, undef, Value.bool false, Value.int IntKind.i64 0], defers := [] }) ?assign1 ?body1 ?done1 ?stop1
    · intro k X X' hi t; rw [hs1] at t; exact hi.turn t
    · intro k X hi; exact (h.gr (t1.cnt (by omega) hi).gr (fun _ _ e => e)).snap
    case assign1 =>
      intro lp k X K _ hK
      gi_wp2
      exact hK
    case body1 =>
      rintro k Y hj hk hlt
      rw [hs1] at hlt ⊢
      have tY := t1.cnt (by omega) hj
      obtain ⟨x0, y0⟩ := cell_of tY.c0
      obtain ⟨x1, y1⟩ := cell_of tY.c1
      obtain ⟨x4, y4⟩ := cell_of (Cnt_at hj hT1 (by omega))
      obtain ⟨x5, y5⟩ := cell_of hj.1
      obtain ⟨g, rfl, cg⟩ := (hl.gr tY.gr (fun _ _ e => e)).cell hk
      have hkl : (k : Int) < (l.length : Int) := by omega
      have hll : (l.length : Int) ≤ 4096 := by have := hl.1; omega
      gi_wp2
      exact hj.step
    case done1 =>
      rintro Y hj hKy
      rw [hs1] at hKy ⊢
      have tY := t1.cnt (by omega) hj
      obtain ⟨x0, y0⟩ := cell_of tY.c0
      obtain ⟨x2, y2⟩ := cell_of tY.c2
      obtain ⟨x4, y4⟩ := cell_of (Cnt_at hj hT1 (by omega))
      obtain ⟨x5, y5⟩ := cell_of hj.1
      have hy2 : W.heap.size + 2 < Y.heap.size := (Array.getElem?_eq_some_iff.1 tY.c2).1
      have hy3 : W.heap.size + 1 + 1 < Y.heap.size := hy2
      have hK2 : Y.heap[W.heap.size + 6]? = some (.deferred (some [])) := Cnt_at hj hK1 (by omega)
      gi_wp2
      rw [roundsIn_succ]
      gi_wp2
      obtain ⟨z1, z2, z3, z4⟩ := told_end tY hKy hK2 (by omega) (by omega) (by omega) (Obj.cells #[Value.int IntKind.i64 2] 3)
      have hc5 := (cell_of z3).1
      refine ⟨by simp, .inl ⟨_, _, rfl, run_takeDeferred z1, ?_⟩⟩
      refine ⟨by simp, .inl ⟨_, _, rfl, run_takeDeferred z2, ?_⟩⟩
      refine ⟨.bool true, ?_, rfl, z4⟩
      simp [results, Try.results18, go_sem, hc5]
    case stop1 =>
      rintro c Y e _
      exact e.elim
  case stop =>
    rintro c X ⟨rfl, kk, hi⟩ hK
    rw [hs0] at hK ⊢
    have tX := t0.cnt (by omega) hi
    obtain ⟨x0, y0⟩ := cell_of tX.c0
    obtain ⟨x4, y4⟩ := cell_of (Cnt_at hi hT0 (by omega))
    obtain ⟨x5, y5⟩ := cell_of hi.1
    have hXs : W.heap.size + 6 < X.heap.size := (Array.getElem?_eq_some_iff.1 hK).1
    gi_wp2
    rw [roundsIn_succ]
    gi_wp2
    clear x0 y0 x4 y4 x5 y5
    obtain ⟨X1, hX1⟩ : ∃ X1, (X.alloc (Obj.cells #[Value.int IntKind.i64 1] 3)).alloc (Obj.cells #[Value.int IntKind.i64 0] 3) = X1 := ⟨_, rfl⟩
    have hs1 : X1.heap.size = X.heap.size + 2 := by rw [← hX1]; simp
    have t1 : Told W (.slice al l.length cl) sv st l X1 := by rw [← hX1]; exact (tX.alloc _).alloc _
    have hT1 : X1.heap[X.heap.size]? = some (.cells #[.int .i64 1] 3 (0, 0)) := by rw [← hX1]; exact alloc_at _ (heap_alloc_new _ _)
    have hN1 : CntI X1 (X.heap.size + 1) 0 X1 := by
      refine ⟨?_, Gr.refl _ _⟩
      rw [← hX1]; have := heap_alloc_new (X.alloc (Obj.cells #[Value.int IntKind.i64 1] 3)) (Obj.cells #[Value.int IntKind.i64 0] 3); rwa [World.size_alloc] at this
    have hK1 : X1.heap[W.heap.size + 6]? = some (.deferred (some [])) := by rw [← hX1]; exact alloc_at _ (alloc_at _ hK)
    refine (congrArg (fun X => Code.wpIn Fence.wide 3 Try.prog _ _ _ X) hX1).mpr ?_
    refine rangeAll (nb := W.heap.size + 3) (sv := sv) (xs := l) rfl rfl (cell_of t1.c3).1 (h.gr t1.gr (fun _ _ e => e)).snap (CntI X1 (X.heap.size + 1)) (fun _ _ => False) ?_ (fun _ _ _ e _ => e) ?_ hN1
      (fun k => { tmps := #[pt b, Value.slice al l.length cl, Value.int IntKind.i64 st, undef, pt W.heap.size, pt (W.heap.size + 1), pt (W.heap.size + 1 + 1), Value.func (Fn.func 26) #[] #[pt (W.heap.size + 1 + 1 + 1)], pt X.heap.size, pt (X.heap.size + 1), .int .i64 (k : Int), .string (at_ l k), pt b, Value.func (Fn.func 26) #[] #[pt (W.heap.size + 1 + 1 + 1)], Value.func (Fn.func 26) #[] #[pt (W.heap.size + 1 + 1 + 1)], Value.bool false, Value.int IntKind.i64 1, Value.bool true, Value.int IntKind.i64 0, Value.int IntKind.i64 1, Value.func (Fn.func 26) #[] #[pt (W.heap.size + 1 + 1 + 1)], .int .i64 (k : Int), .string (at_ l k), undef, undef, undef, undef, undef, undef, undef, undef, undef, undef, undef, undef, undef, undef, undef, undef, undef, undef, undef, undef, undef, undef, undef, undef, undef, undef, Value.int IntKind.i64 0, Value.bool false, Value.bool false, undef, undef, undef, undef, Value.bool false, Value.int IntKind.i64 0], defers := [] }) ?assign1 ?body1 ?done1 ?stop1
    · intro k X X' hi t; rw [hs1] at t; exact hi.turn t
    · intro k X hi; exact (h.gr (t1.cnt (by omega) hi).gr (fun _ _ e => e)).snap
    case assign1 =>
      intro lp k X K _ hK
      gi_wp2
      exact hK
    case body1 =>
      rintro k Y hj hk hlt
      rw [hs1] at hlt ⊢
      have tY := t1.cnt (by omega) hj
      obtain ⟨x0, y0⟩ := cell_of tY.c0
      obtain ⟨x1, y1⟩ := cell_of tY.c1
      obtain ⟨x4, y4⟩ := cell_of (Cnt_at hj hT1 (by omega))
      obtain ⟨x5, y5⟩ := cell_of hj.1
      obtain ⟨g, rfl, cg⟩ := (hl.gr tY.gr (fun _ _ e => e)).cell hk
      have hkl : (k : Int) < (l.length : Int) := by omega
      have hll : (l.length : Int) ≤ 4096 := by have := hl.1; omega
      gi_wp2
      exact hj.step
    case done1 =>
      rintro Y hj hKy
      rw [hs1] at hKy ⊢
      have tY := t1.cnt (by omega) hj
      obtain ⟨x0, y0⟩ := cell_of tY.c0
      obtain ⟨x2, y2⟩ := cell_of tY.c2
      obtain ⟨x4, y4⟩ := cell_of (Cnt_at hj hT1 (by omega))
      obtain ⟨x5, y5⟩ := cell_of hj.1
      have hy2 : W.heap.size + 2 < Y.heap.size := (Array.getElem?_eq_some_iff.1 tY.c2).1
      have hy3 : W.heap.size + 1 + 1 < Y.heap.size := hy2
      have hK2 : Y.heap[W.heap.size + 6]? = some (.deferred (some [])) := Cnt_at hj hK1 (by omega)
      gi_wp2
      rw [roundsIn_succ]
      gi_wp2
      obtain ⟨z1, z2, z3, z4⟩ := told_end tY hKy hK2 (by omega) (by omega) (by omega) (Obj.cells #[Value.int IntKind.i64 2] 3)
      have hc5 := (cell_of z3).1
      refine ⟨by simp, .inl ⟨_, _, rfl, run_takeDeferred z1, ?_⟩⟩
      refine ⟨by simp, .inl ⟨_, _, rfl, run_takeDeferred z2, ?_⟩⟩
      refine ⟨.bool true, ?_, rfl, z4⟩
      simp [results, Try.results18, go_sem, hc5]
    case stop1 =>
      rintro c Y e _
      exact e.elim
end Go.Proofs.Ytipdniiamaaolaa
