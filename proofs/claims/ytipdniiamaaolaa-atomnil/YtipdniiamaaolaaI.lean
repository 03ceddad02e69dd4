/-
  What no table answers.
-/
import Derived.Test.YtipdniiamaaolaaH
namespace Go.Proofs.Ytipdniiamaaolaa
open Go.RowKit Go.Maps Go.WideMaps Go.Shelf
attribute [local go_sem] Oper.semAt_some

theorem putNil (s : ByteArray) (W : World) : Calls Try.prog 14 #[.pointer none, .string s] W fun e W' => e = .returned (.tuple #[.int .i64 0, .int .i64 1]) ∧ W = W' := by
  go_enter Try.func14, Try.ntmps14
  go_wp2
  go_ret2
  exact ⟨rfl, rfl⟩
theorem findNil (s : ByteArray) (W : World) : Calls Try.prog 16 #[.pointer none, .string s] W fun e W' => e = .returned (.tuple #[.int .i64 0, .bool false]) ∧ W = W' := by
  go_enter Try.func16, Try.ntmps16
  go_wp2
  go_ret2
  exact ⟨rfl, rfl⟩
theorem nameNil (n : Int) (W : World) : Calls Try.prog 17 #[.pointer none, .int .i64 n] W fun e W' => e = .returned (.tuple #[.string ⟨#[]⟩, .int .i64 1]) ∧ W = W' := by
  go_enter Try.func17, Try.ntmps17
  go_wp2
  go_ret2
  exact ⟨rfl, rfl⟩
theorem lenNil (W : World) : Calls Try.prog 20 #[.pointer none] W fun e W' => e = .returned (.int .i64 0) ∧ W = W' := by
  go_enter Try.func20, Try.ntmps20
  go_wp2
  go_ret
  exact ⟨rfl, rfl⟩
theorem allNil (W : World) : Calls Try.prog 22 #[.pointer none] W fun e W' => e = .returned (.func (.func 26) #[] #[pt W.heap.size]) ∧ W' = W.alloc (.cells #[.slice none 0 0] 27) := by
  go_enter Try.func22, Try.ntmps22
  go_wp2
  go_ret
  exact ⟨rfl, rfl⟩
theorem copyNil (W : World) : Calls Try.prog 19 #[.pointer none] W fun e W' => e = .returned (.pointer none) ∧ W = W' := by
  go_enter Try.func19, Try.ntmps19
  go_wp2
  go_ret
  exact ⟨rfl, rfl⟩

set_option maxRecDepth 100000 in
set_option maxHeartbeats 4000000 in
theorem nil_c (s : ByteArray) (n : Int) (W : World) : Calls Try.prog 8 #[.string s, .int .i64 n] W fun e W' => e = .returned (.bool true) ∧ Gr (fun _ => False) W W' := by
  refine (callsIn_wide (n := 3)).1 ?_
  refine callsIn_of_wp_marks Try.func8 rfl trivial ?_ rfl
  simp only [Try.ntmps8, List.size_toArray, List.length_cons, List.length_nil, Nat.reduceAdd, Nat.reduceSub, Array.replicate_succ, Array.replicate_zero, List.push_toArray, List.append_toArray, List.nil_append, List.cons_append]
  gi_wp2_with (first
    | (refine ⟨trivial, ?_⟩; gi_at_call 9; refine (callsIn_wide.2 (alive_c _)).mono ?_; rintro e w1 ⟨rfl, hg⟩)
    | (refine ⟨trivial, ?_⟩; gi_at_call 14; refine (callsIn_wide.2 (putNil _ _)).mono ?_; rintro e w2 ⟨rfl, rfl⟩)
    | (refine ⟨trivial, ?_⟩; gi_at_call 16; refine (callsIn_wide.2 (findNil _ _)).mono ?_; rintro e w3 ⟨rfl, rfl⟩)
    | (refine ⟨trivial, ?_⟩; gi_at_call 17; refine (callsIn_wide.2 (nameNil _ _)).mono ?_; rintro e w4 ⟨rfl, rfl⟩)
    | (refine ⟨trivial, ?_⟩; gi_at_call 22; refine (callsIn_wide.2 (allNil _)).mono ?_; rintro e w5 ⟨rfl, rfl⟩))
  have hn0 := heap_alloc_new w1 (Obj.cells #[Value.slice none 0 0] 27)
  refine rangeNone (nb := w1.heap.size) (sv := .slice none 0 0) rfl rfl (cell_of hn0).1 ⟨by simp, .inl ⟨rfl, _, _, rfl⟩⟩ ?_
  intro X hX hK
  have hb : X.heap[W.heap.size]? = some (.cells #[.bool false] 4 (0, 0)) := by
    have h1 := hg.block W.heap.size (by simp) (fun e => e)
    have h2 := hg.size
    refine (hX.block _ (by simp at h2 ⊢; omega) (by simp at h2 ⊢; omega)).trans ((heap_alloc_old _ _ (by simp at h2; omega)).trans (h1.trans (heap_alloc_new _ _)))
  obtain ⟨c0, f0⟩ := cell_of hb
  gi_wp2_with (first
    | (refine ⟨trivial, ?_⟩; gi_at_call 20; refine (callsIn_wide.2 (lenNil _)).mono ?_; rintro e w6 ⟨rfl, rfl⟩)
    | (refine ⟨trivial, ?_⟩; gi_at_call 19; refine (callsIn_wide.2 (copyNil _)).mono ?_; rintro e w7 ⟨rfl, rfl⟩))
  have hs1 : W.heap.size + 1 ≤ w1.heap.size := by have := hg.size; simpa using this
  have hd : (X.setCell ⟨W.heap.size, 0, none⟩ (Value.bool true)).heap[w1.heap.size + 1]? = some (.deferred (some [])) := by
    refine (heap_setCell_other X _ _ _ (show w1.heap.size + 1 ≠ W.heap.size by omega)).trans ?_
    simpa using hK
  have hc : ((X.setCell ⟨W.heap.size, 0, none⟩ (Value.bool true)).putObj (w1.heap.size + 1) (.deferred none)).heap[W.heap.size]? = some (.cells #[.bool true] 4 (0, 0)) :=
    (World.putObj_heap_other (by omega)).trans (heap_setCell_same X _ 0 _ 4 _ hb)
  have hc5 := (cell_of hc).1
  refine ⟨by simp, .inl ⟨_, _, rfl, run_takeDeferred hd, ?_⟩⟩
  refine ⟨.bool true, ?_, rfl, ?_⟩
  · simp [results, Try.results8, go_sem, hc5]
  · have g1 : Gr (fun i => W.heap.size ≤ i) W X := (((Gr.alloc W _ _).trans (hg.mono (fun _ _ e => e.elim))).trans (Gr.alloc w1 _ _)).trans (hX.mono (fun i _ e => by simp at e ⊢; omega))
    have g2 : Gr (fun i => W.heap.size ≤ i) W ((X.setCell ⟨W.heap.size, 0, none⟩ (Value.bool true)).putObj (w1.heap.size + 1) (.deferred none)) :=
      (g1.trans (Gr.set X _ _ (Nat.le_refl _))).trans (Gr.of_grown (grownBy_putObj' _ _ _) (fun k e => by cases e; omega))
    exact g2.mono (fun i hi e => by omega)
end Go.Proofs.Ytipdniiamaaolaa
