/-
  Carried over from another seat of ours (T).
-/
import Derived.Test.YtmohehfkbhllpaaKF
import Derived.Test.YtmohehfkbhllpaaBC
import Derived.Test.YtmohehfkbhllpaaBS
import Derived.Test.YtmohehfkbhllpaaQS
import Derived.Deep.RegionWith
set_option linter.unusedVariables false
set_option linter.unusedSimpArgs false
namespace Go.Proofs.Ytmohehfkbhllpaa
open Go.RowKit Go.Maps

def okE (m : Bool) : Int := if m = true then 0 else 24

set_option maxRecDepth 100000 in
set_option maxHeartbeats 1600000 in
theorem fault_int (W : World) (kb g : Nat) (n : Int) (hK : Kd W kb) (hB : Bx W g 1 n 0 0 e0 0 0 0 nl nl) (m : Bool)
    (hmay : ∀ w, Calls Try.prog 39 #[lf 1 n 0 0 e0 0 0 0] w fun e w' => e = .returned (.bool m) ∧ Gr (fun _ => False) w w') :
    Calls Try.prog 34 #[pt kb, pt g, .int .i64 1, .int .i64 1] W fun e w' => e = .returned (.int .i64 (okE m)) ∧ Gr (fun _ => False) W w' := by
  obtain ⟨c0, c1, c2, c3, c4, c5, c6, c7, c8⟩ := hB.facts
  obtain ⟨r0, r1, r2⟩ := hK.cells.1
  have hg := hB.lt
  have hkb := hK.lt
  go_enter Try.func34, Try.ntmps34
  go_wp2_with fail
  go_region
  all_goals
    generalize hW1 : (W.alloc (Obj.cells #[Value.func (Fn.func 38) #[] #[], Value.func (Fn.func 39) #[] #[], Value.func (Fn.func 40) #[] #[]] 89)).drew = W1
    have hg1 : Gr (fun _ => False) W W1 := hW1 ▸ (Gr.alloc _ _ _).trans (Gr.drew _ _)
    have hrow : W1.heap[W.heap.size]? = some (.cells #[fv 38, fv 39, fv 40] 89 (0, 0)) := hW1 ▸ (Gr.drew _ (fun _ => False)).keep (heap_alloc_new W _) (fun e => e)
    have hB1 := hB.gr hg1 (fun e => e)
    generalize W.heap.size = R at hrow ⊢
    clear c0 c1 c2 c3 c4 c5 c6 c7 c8 r0 r1 r2 hg hkb hW1 hK hB
    obtain ⟨c0, c1, c2, c3, c4, c5, c6, c7, c8⟩ := hB1.facts
    obtain ⟨r0, r1, r2⟩ := three87 hrow
    go_wp2_with fail
    go_region_with (first | (go_at_call 38; refine (withoutN_c _ _ _).mono ?_; rintro e w2 ⟨rfl, hg2⟩) | (go_at_call 64; refine (blank_c _ _).mono ?_; rintro e w3 ⟨rfl, hg3⟩))
  all_goals
    have hg13 := ((Gr.drew W1 (fun _ => False)).trans hg2).trans hg3
    have hB3 := hB1.gr hg13 (fun e => e)
    have hrow3 := hg13.keep hrow (fun e => e)
    clear c0 c1 c2 c3 c4 c5 c6 c7 c8 r0 r1 r2
    obtain ⟨c0, c1, c2, c3, c4, c5, c6, c7, c8⟩ := hB3.facts
    obtain ⟨r0, r1, r2⟩ := three87 hrow3
    go_wp2_with fail
    go_region_with (first | (go_at_call 39; refine (hmay _).mono ?_; rintro e w4 ⟨rfl, hg4⟩))
  all_goals
    have hg14 := hg13.trans ((Gr.drew w3 (fun _ => False)).trans hg4)
    have hB4 := hB1.gr hg14 (fun e => e)
    clear c0 c1 c2 c3 c4 c5 c6 c7 c8 r0 r1 r2
    obtain ⟨c0, c1, c2, c3, c4, c5, c6, c7, c8⟩ := hB4.facts
    cases m
    all_goals
      go_wp2_with fail
      go_ret
      exact ⟨rfl, hg1.trans hg14⟩

set_option maxRecDepth 100000 in
set_option maxHeartbeats 1600000 in
theorem fault_cx (W : World) (kb g : Nat) (x y : Nat) (hK : Kd W kb) (hB : Bx W g 2 0 x y e0 0 0 0 nl nl) (m : Bool)
    (hmay : ∀ w, Calls Try.prog 39 #[lf 2 0 x y e0 0 0 0] w fun e w' => e = .returned (.bool m) ∧ Gr (fun _ => False) w w') :
    Calls Try.prog 34 #[pt kb, pt g, .int .i64 1, .int .i64 1] W fun e w' => e = .returned (.int .i64 (okE m)) ∧ Gr (fun _ => False) W w' := by
  obtain ⟨c0, c1, c2, c3, c4, c5, c6, c7, c8⟩ := hB.facts
  obtain ⟨r0, r1, r2⟩ := hK.cells.2.1
  have hg := hB.lt
  have hkb := hK.lt
  go_enter Try.func34, Try.ntmps34
  go_wp2_with fail
  go_region
  all_goals
    generalize hW1 : (W.alloc (Obj.cells #[Value.func (Fn.func 41) #[] #[], Value.func (Fn.func 39) #[] #[], Value.func (Fn.func 40) #[] #[]] 89)).drew = W1
    have hg1 : Gr (fun _ => False) W W1 := hW1 ▸ (Gr.alloc _ _ _).trans (Gr.drew _ _)
    have hrow : W1.heap[W.heap.size]? = some (.cells #[fv 41, fv 39, fv 40] 89 (0, 0)) := hW1 ▸ (Gr.drew _ (fun _ => False)).keep (heap_alloc_new W _) (fun e => e)
    have hB1 := hB.gr hg1 (fun e => e)
    generalize W.heap.size = R at hrow ⊢
    clear c0 c1 c2 c3 c4 c5 c6 c7 c8 r0 r1 r2 hg hkb hW1 hK hB
    obtain ⟨c0, c1, c2, c3, c4, c5, c6, c7, c8⟩ := hB1.facts
    obtain ⟨r0, r1, r2⟩ := three87 hrow
    go_wp2_with fail
    go_region_with (first | (go_at_call 41; refine (withoutZ_c _ _ _ _).mono ?_; rintro e w2 ⟨rfl, hg2⟩) | (go_at_call 64; refine (blank_c _ _).mono ?_; rintro e w3 ⟨rfl, hg3⟩))
  all_goals
    have hg13 := ((Gr.drew W1 (fun _ => False)).trans hg2).trans hg3
    have hB3 := hB1.gr hg13 (fun e => e)
    have hrow3 := hg13.keep hrow (fun e => e)
    clear c0 c1 c2 c3 c4 c5 c6 c7 c8 r0 r1 r2
    obtain ⟨c0, c1, c2, c3, c4, c5, c6, c7, c8⟩ := hB3.facts
    obtain ⟨r0, r1, r2⟩ := three87 hrow3
    go_wp2_with fail
    go_region_with (first | (go_at_call 39; refine (hmay _).mono ?_; rintro e w4 ⟨rfl, hg4⟩))
  all_goals
    have hg14 := hg13.trans ((Gr.drew w3 (fun _ => False)).trans hg4)
    have hB4 := hB1.gr hg14 (fun e => e)
    clear c0 c1 c2 c3 c4 c5 c6 c7 c8 r0 r1 r2
    obtain ⟨c0, c1, c2, c3, c4, c5, c6, c7, c8⟩ := hB4.facts
    cases m
    all_goals
      go_wp2_with fail
      go_ret
      exact ⟨rfl, hg1.trans hg14⟩

set_option maxRecDepth 100000 in
set_option maxHeartbeats 1600000 in
theorem fault_ref (W : World) (kb g : Nat) (a c d : Int) (hK : Kd W kb) (hB : Bx W g 4 0 0 0 e0 a c d nl nl) (m : Bool)
    (hmay : ∀ w, Calls Try.prog 36 #[lf 4 0 0 0 e0 a c d] w fun e w' => e = .returned (.bool m) ∧ Gr (fun _ => False) w w') :
    Calls Try.prog 34 #[pt kb, pt g, .int .i64 1, .int .i64 1] W fun e w' => e = .returned (.int .i64 (okE m)) ∧ Gr (fun _ => False) W w' := by
  obtain ⟨c0, c1, c2, c3, c4, c5, c6, c7, c8⟩ := hB.facts
  obtain ⟨r0, r1, r2⟩ := hK.cells.2.2.2.1
  have hg := hB.lt
  have hkb := hK.lt
  go_enter Try.func34, Try.ntmps34
  go_wp2_with fail
  go_region
  all_goals
    generalize hW1 : (W.alloc (Obj.cells #[Value.func (Fn.func 35) #[] #[], Value.func (Fn.func 36) #[] #[], Value.func (Fn.func 37) #[] #[]] 89)).drew = W1
    have hg1 : Gr (fun _ => False) W W1 := hW1 ▸ (Gr.alloc _ _ _).trans (Gr.drew _ _)
    have hrow : W1.heap[W.heap.size]? = some (.cells #[fv 35, fv 36, fv 37] 89 (0, 0)) := hW1 ▸ (Gr.drew _ (fun _ => False)).keep (heap_alloc_new W _) (fun e => e)
    have hB1 := hB.gr hg1 (fun e => e)
    generalize W.heap.size = R at hrow ⊢
    clear c0 c1 c2 c3 c4 c5 c6 c7 c8 r0 r1 r2 hg hkb hW1 hK hB
    obtain ⟨c0, c1, c2, c3, c4, c5, c6, c7, c8⟩ := hB1.facts
    obtain ⟨r0, r1, r2⟩ := three87 hrow
    go_wp2_with fail
    go_region_with (first | (go_at_call 35; refine (withoutId_c _ _ _ _ _).mono ?_; rintro e w2 ⟨rfl, hg2⟩) | (go_at_call 64; refine (blank_c _ _).mono ?_; rintro e w3 ⟨rfl, hg3⟩))
  all_goals
    have hg13 := ((Gr.drew W1 (fun _ => False)).trans hg2).trans hg3
    have hB3 := hB1.gr hg13 (fun e => e)
    have hrow3 := hg13.keep hrow (fun e => e)
    clear c0 c1 c2 c3 c4 c5 c6 c7 c8 r0 r1 r2
    obtain ⟨c0, c1, c2, c3, c4, c5, c6, c7, c8⟩ := hB3.facts
    obtain ⟨r0, r1, r2⟩ := three87 hrow3
    go_wp2_with fail
    go_region_with (first | (go_at_call 36; refine (hmay _).mono ?_; rintro e w4 ⟨rfl, hg4⟩))
  all_goals
    have hg14 := hg13.trans ((Gr.drew w3 (fun _ => False)).trans hg4)
    have hB4 := hB1.gr hg14 (fun e => e)
    clear c0 c1 c2 c3 c4 c5 c6 c7 c8 r0 r1 r2
    obtain ⟨c0, c1, c2, c3, c4, c5, c6, c7, c8⟩ := hB4.facts
    cases m
    all_goals
      go_wp2_with fail
      go_ret
      exact ⟨rfl, hg1.trans hg14⟩

set_option maxRecDepth 100000 in
set_option maxHeartbeats 1600000 in
theorem fault_pid (W : World) (kb g : Nat) (a c d : Int) (hK : Kd W kb) (hB : Bx W g 5 0 0 0 e0 a c d nl nl) (m : Bool)
    (hmay : ∀ w, Calls Try.prog 36 #[lf 5 0 0 0 e0 a c d] w fun e w' => e = .returned (.bool m) ∧ Gr (fun _ => False) w w') :
    Calls Try.prog 34 #[pt kb, pt g, .int .i64 1, .int .i64 1] W fun e w' => e = .returned (.int .i64 (okE m)) ∧ Gr (fun _ => False) W w' := by
  obtain ⟨c0, c1, c2, c3, c4, c5, c6, c7, c8⟩ := hB.facts
  obtain ⟨r0, r1, r2⟩ := hK.cells.2.2.2.2
  have hg := hB.lt
  have hkb := hK.lt
  go_enter Try.func34, Try.ntmps34
  go_wp2_with fail
  go_region
  all_goals
    generalize hW1 : (W.alloc (Obj.cells #[Value.func (Fn.func 35) #[] #[], Value.func (Fn.func 36) #[] #[], Value.func (Fn.func 37) #[] #[]] 89)).drew = W1
    have hg1 : Gr (fun _ => False) W W1 := hW1 ▸ (Gr.alloc _ _ _).trans (Gr.drew _ _)
    have hrow : W1.heap[W.heap.size]? = some (.cells #[fv 35, fv 36, fv 37] 89 (0, 0)) := hW1 ▸ (Gr.drew _ (fun _ => False)).keep (heap_alloc_new W _) (fun e => e)
    have hB1 := hB.gr hg1 (fun e => e)
    generalize W.heap.size = R at hrow ⊢
    clear c0 c1 c2 c3 c4 c5 c6 c7 c8 r0 r1 r2 hg hkb hW1 hK hB
    obtain ⟨c0, c1, c2, c3, c4, c5, c6, c7, c8⟩ := hB1.facts
    obtain ⟨r0, r1, r2⟩ := three87 hrow
    go_wp2_with fail
    go_region_with (first | (go_at_call 35; refine (withoutId_c _ _ _ _ _).mono ?_; rintro e w2 ⟨rfl, hg2⟩) | (go_at_call 64; refine (blank_c _ _).mono ?_; rintro e w3 ⟨rfl, hg3⟩))
  all_goals
    have hg13 := ((Gr.drew W1 (fun _ => False)).trans hg2).trans hg3
    have hB3 := hB1.gr hg13 (fun e => e)
    have hrow3 := hg13.keep hrow (fun e => e)
    clear c0 c1 c2 c3 c4 c5 c6 c7 c8 r0 r1 r2
    obtain ⟨c0, c1, c2, c3, c4, c5, c6, c7, c8⟩ := hB3.facts
    obtain ⟨r0, r1, r2⟩ := three87 hrow3
    go_wp2_with fail
    go_region_with (first | (go_at_call 36; refine (hmay _).mono ?_; rintro e w4 ⟨rfl, hg4⟩))
  all_goals
    have hg14 := hg13.trans ((Gr.drew w3 (fun _ => False)).trans hg4)
    have hB4 := hB1.gr hg14 (fun e => e)
    clear c0 c1 c2 c3 c4 c5 c6 c7 c8 r0 r1 r2
    obtain ⟨c0, c1, c2, c3, c4, c5, c6, c7, c8⟩ := hB4.facts
    cases m
    all_goals
      go_wp2_with fail
      go_ret
      exact ⟨rfl, hg1.trans hg14⟩
end Go.Proofs.Ytmohehfkbhllpaa

