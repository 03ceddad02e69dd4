/-
  Carried over from another seat of ours (QS).
  Carried over from another seat of ours (QT).
  Carried over from another seat of ours (QU).
  Carried over from another seat of ours (QV).
-/
import Derived.Test.YtmohehfkbhllpaaGreatKE
import Derived.Test.YtmohehfkbhllpaaGreatBB
import Derived.Test.YtmohehfkbhllpaaGreatBS
import Ieee.Arith
import GoSem.Core.Float
import Derived.Maps.AppendAt
import Derived.RegionTactic
import Derived.BigRegion
import Derived.Deep.RegionWith
import Derived.RangeFuncNested
import Derived.RangeFuncBound
import Derived.RangeFuncCalls
import Derived.RangeFuncLeaves
import Derived.Shelf.Abstract
import Derived.Shelf.RegionOpen
import Derived.OwnWalkIn
import Derived.TacticsInMore
import Derived.LoopNIn
import Derived.LoopIn
import Derived.Stop.RegionWithIn
set_option linter.unusedVariables false
set_option linter.unusedSimpArgs false
namespace Go.Proofs.YtmohehfkbhllpaaGreat
open Go.RowKit
set_option maxRecDepth 20000 in
set_option maxHeartbeats 800000 in
theorem blank_c (k : Int) (w : World) : Calls Tryz.prog 83 #[lf k 0 0 0 e0 0 0 0] w fun e w' => e = .returned (.bool true) ∧ Gr (fun _ => False) w w' := by
  go_enter Tryz.func83, Tryz.ntmps83
  go_wp2
  go_ret
  exact ⟨rfl, Gr.alloc _ _ _⟩
set_option maxRecDepth 20000 in
set_option maxHeartbeats 800000 in
theorem withoutN_c (k n : Int) (w : World) : Calls Tryz.prog 66 #[lf k n 0 0 e0 0 0 0] w fun e w' => e = .returned (lf k 0 0 0 e0 0 0 0) ∧ Gr (fun _ => False) w w' := by
  go_enter Tryz.func66, Tryz.ntmps66
  go_wp2
  exact bodyPost_ret (v := lf k 0 0 0 e0 0 0 0) (by simp [results, Tryz.results66, go_sem]) rfl ⟨rfl, (Gr.alloc _ _ _).trans (Gr.alloc _ _ _)⟩
set_option maxRecDepth 20000 in
set_option maxHeartbeats 800000 in
theorem right_int (n : Int) (w : World) : Calls Tryz.prog 67 #[lf 1 n 0 0 e0 0 0 0] w fun e w' => e = .returned (.bool (inR n)) ∧ Gr (fun _ => False) w w' := by
  go_enter Tryz.func67, Tryz.ntmps67
  go_wp2_with (first | (go_at_call 88; refine (inRange_c _ _).mono ?_; rintro e w1 ⟨rfl, rfl⟩))
  go_ret
  exact ⟨rfl, Gr.alloc _ _ _⟩
set_option maxRecDepth 20000 in
set_option maxHeartbeats 800000 in
theorem withoutZ_c (k : Int) (x y : Nat) (w : World) : Calls Tryz.prog 69 #[lf k 0 x y e0 0 0 0] w fun e w' => e = .returned (lf k 0 0 0 e0 0 0 0) ∧ Gr (fun _ => False) w w' := by
  go_enter Tryz.func69, Tryz.ntmps69
  go_wp2
  exact bodyPost_ret (v := lf k 0 0 0 e0 0 0 0) (by simp [results, Tryz.results69, go_sem]) rfl ⟨rfl, (Gr.alloc _ _ _).trans (Gr.alloc _ _ _)⟩
set_option maxRecDepth 20000 in
set_option maxHeartbeats 800000 in
theorem withoutId_c (k a c d : Int) (w : World) : Calls Tryz.prog 63 #[lf k 0 0 0 e0 a c d] w fun e w' => e = .returned (lf k 0 0 0 e0 0 0 0) ∧ Gr (fun _ => False) w w' := by
  go_enter Tryz.func63, Tryz.ntmps63
  go_wp2
  exact bodyPost_ret (v := lf k 0 0 0 e0 0 0 0) (by simp [results, Tryz.results63, go_sem]) rfl ⟨rfl, (Gr.alloc _ _ _).trans (Gr.alloc _ _ _)⟩
set_option maxRecDepth 20000 in
set_option maxHeartbeats 800000 in
theorem right_cx (x y : Nat) (hx : x < 18446744073709551616) (hy : y < 18446744073709551616) (w : World) : Calls Tryz.prog 67 #[lf 2 0 x y e0 0 0 0] w fun e w' => e = .returned (.bool (rp x && rp y)) ∧ Gr (fun _ => False) w w' := by
  have h1 := fun w => rightPart_c x hx w
  have h2 := fun w => rightPart_c y hy w
  clear hx hy
  cases hr : rp x with
  | false =>
    rw [hr] at h1
    clear hr h2
    go_enter Tryz.func67, Tryz.ntmps67
    go_wp2_with fail
    refine (h1 _).mono ?_
    rintro e w1 ⟨rfl, rfl⟩
    go_wp2_with fail
    go_ret
    exact ⟨by simp, Gr.alloc _ _ _⟩
  | true =>
    rw [hr] at h1
    clear hr
    generalize rp y = m at h2 ⊢
    go_enter Tryz.func67, Tryz.ntmps67
    go_wp2_with fail
    refine (h1 _).mono ?_
    rintro e w1 ⟨rfl, rfl⟩
    go_wp2_with fail
    refine (h2 _).mono ?_
    rintro e w1 ⟨rfl, rfl⟩
    go_wp2_with fail
    go_ret
    exact ⟨by simp, Gr.alloc _ _ _⟩

set_option maxRecDepth 20000 in
set_option maxHeartbeats 1600000 in
theorem idMay_c (k a c d : Int) (w : World) : Calls Tryz.prog 64 #[lf k 0 0 0 e0 a c d] w fun e w' => e = .returned (.bool (idOk a c d)) ∧ Gr (fun _ => False) w w' := by
  by_cases h1 : 1 ≤ a
  · by_cases h2 : a ≤ 64
    · by_cases h3 : 1 ≤ c
      · by_cases h4 : 1 ≤ d <;> simp only [idOk, h1, h2, h3, h4, decide_true, decide_false, Bool.and_true, Bool.and_false]
        all_goals (go_enter Tryz.func64, Tryz.ntmps64; go_wp2; go_ret; exact ⟨by simp, Gr.alloc _ _ _⟩)
      · simp only [idOk, h1, h2, h3, decide_true, decide_false, Bool.and_true, Bool.and_false, Bool.true_and, Bool.false_and]
        go_enter Tryz.func64, Tryz.ntmps64; go_wp2; go_ret; exact ⟨by simp, Gr.alloc _ _ _⟩
    · simp only [idOk, h1, h2, decide_true, decide_false, Bool.and_true, Bool.and_false, Bool.true_and, Bool.false_and]
      go_enter Tryz.func64, Tryz.ntmps64; go_wp2; go_ret; exact ⟨by simp, Gr.alloc _ _ _⟩
  · simp only [idOk, h1, decide_false, Bool.false_and]
    go_enter Tryz.func64, Tryz.ntmps64; go_wp2; go_ret; exact ⟨by simp, Gr.alloc _ _ _⟩

end Go.Proofs.YtmohehfkbhllpaaGreat



namespace Go.Proofs.YtmohehfkbhllpaaGreat
open Go.RowKit Go.Maps

def okE (m : Bool) : Int := if m = true then 0 else 24

set_option maxRecDepth 100000 in
set_option maxHeartbeats 1600000 in
theorem fault_int (W : World) (kb g : Nat) (n : Int) (hK : Kd W kb) (hB : Bx W g 1 n 0 0 e0 0 0 0 nl nl) (m : Bool)
    (hmay : ∀ w, Calls Tryz.prog 67 #[lf 1 n 0 0 e0 0 0 0] w fun e w' => e = .returned (.bool m) ∧ Gr (fun _ => False) w w') :
    Calls Tryz.prog 62 #[pt kb, pt g, .int .i64 1, .int .i64 1] W fun e w' => e = .returned (.int .i64 (okE m)) ∧ Gr (fun _ => False) W w' := by
  obtain ⟨c0, c1, c2, c3, c4, c5, c6, c7, c8⟩ := hB.facts
  obtain ⟨r0, r1, r2⟩ := hK.cells.1
  have hg := hB.lt
  have hkb := hK.lt
  go_enter Tryz.func62, Tryz.ntmps62
  go_wp2_with fail
  go_region
  all_goals
    generalize hW1 : (W.alloc (Obj.cells #[Value.func (Fn.func 66) #[] #[], Value.func (Fn.func 67) #[] #[], Value.func (Fn.func 68) #[] #[]] 120)).drew = W1
    have hg1 : Gr (fun _ => False) W W1 := hW1 ▸ (Gr.alloc _ _ _).trans (Gr.drew _ _)
    have hrow : W1.heap[W.heap.size]? = some (.cells #[fv 66, fv 67, fv 68] 120 (0, 0)) := hW1 ▸ (Gr.drew _ (fun _ => False)).keep (heap_alloc_new W _) (fun e => e)
    have hB1 := hB.gr hg1 (fun e => e)
    generalize W.heap.size = R at hrow ⊢
    clear c0 c1 c2 c3 c4 c5 c6 c7 c8 r0 r1 r2 hg hkb hW1 hK hB
    obtain ⟨c0, c1, c2, c3, c4, c5, c6, c7, c8⟩ := hB1.facts
    obtain ⟨r0, r1, r2⟩ := three87 hrow
    go_wp2_with fail
    go_region_with (first | (go_at_call 66; refine (withoutN_c _ _ _).mono ?_; rintro e w2 ⟨rfl, hg2⟩) | (go_at_call 83; refine (blank_c _ _).mono ?_; rintro e w3 ⟨rfl, hg3⟩))
  all_goals
    have hg13 := ((Gr.drew W1 (fun _ => False)).trans hg2).trans hg3
    have hB3 := hB1.gr hg13 (fun e => e)
    have hrow3 := hg13.keep hrow (fun e => e)
    clear c0 c1 c2 c3 c4 c5 c6 c7 c8 r0 r1 r2
    obtain ⟨c0, c1, c2, c3, c4, c5, c6, c7, c8⟩ := hB3.facts
    obtain ⟨r0, r1, r2⟩ := three87 hrow3
    go_wp2_with fail
    go_region_with (first | (go_at_call 67; refine (hmay _).mono ?_; rintro e w4 ⟨rfl, hg4⟩))
  all_goals
    have hg14 := hg13.trans ((Gr.drew w3 (fun _ => False)).trans hg4)
    have hB4 := hB1.gr hg14 (fun e => e)
    clear c0 c1 c2 c3 c4 c5 c6 c7 c8 r0 r1 r2
    obtain ⟨c0, c1, c2, c3, c4, c5, c6, c7, c8⟩ := hB4.facts
    cases m
    all_goals
      go_wp2_with fail
      go_ret
      exact ⟨rfl, hg1.trans hg14⟩

set_option maxRecDepth 100000 in
set_option maxHeartbeats 1600000 in
theorem fault_cx (W : World) (kb g : Nat) (x y : Nat) (hK : Kd W kb) (hB : Bx W g 2 0 x y e0 0 0 0 nl nl) (m : Bool)
    (hmay : ∀ w, Calls Tryz.prog 67 #[lf 2 0 x y e0 0 0 0] w fun e w' => e = .returned (.bool m) ∧ Gr (fun _ => False) w w') :
    Calls Tryz.prog 62 #[pt kb, pt g, .int .i64 1, .int .i64 1] W fun e w' => e = .returned (.int .i64 (okE m)) ∧ Gr (fun _ => False) W w' := by
  obtain ⟨c0, c1, c2, c3, c4, c5, c6, c7, c8⟩ := hB.facts
  obtain ⟨r0, r1, r2⟩ := hK.cells.2.1
  have hg := hB.lt
  have hkb := hK.lt
  go_enter Tryz.func62, Tryz.ntmps62
  go_wp2_with fail
  go_region
  all_goals
    generalize hW1 : (W.alloc (Obj.cells #[Value.func (Fn.func 69) #[] #[], Value.func (Fn.func 67) #[] #[], Value.func (Fn.func 68) #[] #[]] 120)).drew = W1
    have hg1 : Gr (fun _ => False) W W1 := hW1 ▸ (Gr.alloc _ _ _).trans (Gr.drew _ _)
    have hrow : W1.heap[W.heap.size]? = some (.cells #[fv 69, fv 67, fv 68] 120 (0, 0)) := hW1 ▸ (Gr.drew _ (fun _ => False)).keep (heap_alloc_new W _) (fun e => e)
    have hB1 := hB.gr hg1 (fun e => e)
    generalize W.heap.size = R at hrow ⊢
    clear c0 c1 c2 c3 c4 c5 c6 c7 c8 r0 r1 r2 hg hkb hW1 hK hB
    obtain ⟨c0, c1, c2, c3, c4, c5, c6, c7, c8⟩ := hB1.facts
    obtain ⟨r0, r1, r2⟩ := three87 hrow
    go_wp2_with fail
    go_region_with (first | (go_at_call 69; refine (withoutZ_c _ _ _ _).mono ?_; rintro e w2 ⟨rfl, hg2⟩) | (go_at_call 83; refine (blank_c _ _).mono ?_; rintro e w3 ⟨rfl, hg3⟩))
  all_goals
    have hg13 := ((Gr.drew W1 (fun _ => False)).trans hg2).trans hg3
    have hB3 := hB1.gr hg13 (fun e => e)
    have hrow3 := hg13.keep hrow (fun e => e)
    clear c0 c1 c2 c3 c4 c5 c6 c7 c8 r0 r1 r2
    obtain ⟨c0, c1, c2, c3, c4, c5, c6, c7, c8⟩ := hB3.facts
    obtain ⟨r0, r1, r2⟩ := three87 hrow3
    go_wp2_with fail
    go_region_with (first | (go_at_call 67; refine (hmay _).mono ?_; rintro e w4 ⟨rfl, hg4⟩))
  all_goals
    have hg14 := hg13.trans ((Gr.drew w3 (fun _ => False)).trans hg4)
    have hB4 := hB1.gr hg14 (fun e => e)
    clear c0 c1 c2 c3 c4 c5 c6 c7 c8 r0 r1 r2
    obtain ⟨c0, c1, c2, c3, c4, c5, c6, c7, c8⟩ := hB4.facts
    cases m
    all_goals
      go_wp2_with fail
      go_ret
      exact ⟨rfl, hg1.trans hg14⟩

set_option maxRecDepth 100000 in
set_option maxHeartbeats 1600000 in
theorem fault_ref (W : World) (kb g : Nat) (a c d : Int) (hK : Kd W kb) (hB : Bx W g 4 0 0 0 e0 a c d nl nl) (m : Bool)
    (hmay : ∀ w, Calls Tryz.prog 64 #[lf 4 0 0 0 e0 a c d] w fun e w' => e = .returned (.bool m) ∧ Gr (fun _ => False) w w') :
    Calls Tryz.prog 62 #[pt kb, pt g, .int .i64 1, .int .i64 1] W fun e w' => e = .returned (.int .i64 (okE m)) ∧ Gr (fun _ => False) W w' := by
  obtain ⟨c0, c1, c2, c3, c4, c5, c6, c7, c8⟩ := hB.facts
  obtain ⟨r0, r1, r2⟩ := hK.cells.2.2.2.1
  have hg := hB.lt
  have hkb := hK.lt
  go_enter Tryz.func62, Tryz.ntmps62
  go_wp2_with fail
  go_region
  all_goals
    generalize hW1 : (W.alloc (Obj.cells #[Value.func (Fn.func 63) #[] #[], Value.func (Fn.func 64) #[] #[], Value.func (Fn.func 65) #[] #[]] 120)).drew = W1
    have hg1 : Gr (fun _ => False) W W1 := hW1 ▸ (Gr.alloc _ _ _).trans (Gr.drew _ _)
    have hrow : W1.heap[W.heap.size]? = some (.cells #[fv 63, fv 64, fv 65] 120 (0, 0)) := hW1 ▸ (Gr.drew _ (fun _ => False)).keep (heap_alloc_new W _) (fun e => e)
    have hB1 := hB.gr hg1 (fun e => e)
    generalize W.heap.size = R at hrow ⊢
    clear c0 c1 c2 c3 c4 c5 c6 c7 c8 r0 r1 r2 hg hkb hW1 hK hB
    obtain ⟨c0, c1, c2, c3, c4, c5, c6, c7, c8⟩ := hB1.facts
    obtain ⟨r0, r1, r2⟩ := three87 hrow
    go_wp2_with fail
    go_region_with (first | (go_at_call 63; refine (withoutId_c _ _ _ _ _).mono ?_; rintro e w2 ⟨rfl, hg2⟩) | (go_at_call 83; refine (blank_c _ _).mono ?_; rintro e w3 ⟨rfl, hg3⟩))
  all_goals
    have hg13 := ((Gr.drew W1 (fun _ => False)).trans hg2).trans hg3
    have hB3 := hB1.gr hg13 (fun e => e)
    have hrow3 := hg13.keep hrow (fun e => e)
    clear c0 c1 c2 c3 c4 c5 c6 c7 c8 r0 r1 r2
    obtain ⟨c0, c1, c2, c3, c4, c5, c6, c7, c8⟩ := hB3.facts
    obtain ⟨r0, r1, r2⟩ := three87 hrow3
    go_wp2_with fail
    go_region_with (first | (go_at_call 64; refine (hmay _).mono ?_; rintro e w4 ⟨rfl, hg4⟩))
  all_goals
    have hg14 := hg13.trans ((Gr.drew w3 (fun _ => False)).trans hg4)
    have hB4 := hB1.gr hg14 (fun e => e)
    clear c0 c1 c2 c3 c4 c5 c6 c7 c8 r0 r1 r2
    obtain ⟨c0, c1, c2, c3, c4, c5, c6, c7, c8⟩ := hB4.facts
    cases m
    all_goals
      go_wp2_with fail
      go_ret
      exact ⟨rfl, hg1.trans hg14⟩

set_option maxRecDepth 100000 in
set_option maxHeartbeats 1600000 in
theorem fault_pid (W : World) (kb g : Nat) (a c d : Int) (hK : Kd W kb) (hB : Bx W g 5 0 0 0 e0 a c d nl nl) (m : Bool)
    (hmay : ∀ w, Calls Tryz.prog 64 #[lf 5 0 0 0 e0 a c d] w fun e w' => e = .returned (.bool m) ∧ Gr (fun _ => False) w w') :
    Calls Tryz.prog 62 #[pt kb, pt g, .int .i64 1, .int .i64 1] W fun e w' => e = .returned (.int .i64 (okE m)) ∧ Gr (fun _ => False) W w' := by
  obtain ⟨c0, c1, c2, c3, c4, c5, c6, c7, c8⟩ := hB.facts
  obtain ⟨r0, r1, r2⟩ := hK.cells.2.2.2.2
  have hg := hB.lt
  have hkb := hK.lt
  go_enter Tryz.func62, Tryz.ntmps62
  go_wp2_with fail
  go_region
  all_goals
    generalize hW1 : (W.alloc (Obj.cells #[Value.func (Fn.func 63) #[] #[], Value.func (Fn.func 64) #[] #[], Value.func (Fn.func 65) #[] #[]] 120)).drew = W1
    have hg1 : Gr (fun _ => False) W W1 := hW1 ▸ (Gr.alloc _ _ _).trans (Gr.drew _ _)
    have hrow : W1.heap[W.heap.size]? = some (.cells #[fv 63, fv 64, fv 65] 120 (0, 0)) := hW1 ▸ (Gr.drew _ (fun _ => False)).keep (heap_alloc_new W _) (fun e => e)
    have hB1 := hB.gr hg1 (fun e => e)
    generalize W.heap.size = R at hrow ⊢
    clear c0 c1 c2 c3 c4 c5 c6 c7 c8 r0 r1 r2 hg hkb hW1 hK hB
    obtain ⟨c0, c1, c2, c3, c4, c5, c6, c7, c8⟩ := hB1.facts
    obtain ⟨r0, r1, r2⟩ := three87 hrow
    go_wp2_with fail
    go_region_with (first | (go_at_call 63; refine (withoutId_c _ _ _ _ _).mono ?_; rintro e w2 ⟨rfl, hg2⟩) | (go_at_call 83; refine (blank_c _ _).mono ?_; rintro e w3 ⟨rfl, hg3⟩))
  all_goals
    have hg13 := ((Gr.drew W1 (fun _ => False)).trans hg2).trans hg3
    have hB3 := hB1.gr hg13 (fun e => e)
    have hrow3 := hg13.keep hrow (fun e => e)
    clear c0 c1 c2 c3 c4 c5 c6 c7 c8 r0 r1 r2
    obtain ⟨c0, c1, c2, c3, c4, c5, c6, c7, c8⟩ := hB3.facts
    obtain ⟨r0, r1, r2⟩ := three87 hrow3
    go_wp2_with fail
    go_region_with (first | (go_at_call 64; refine (hmay _).mono ?_; rintro e w4 ⟨rfl, hg4⟩))
  all_goals
    have hg14 := hg13.trans ((Gr.drew w3 (fun _ => False)).trans hg4)
    have hB4 := hB1.gr hg14 (fun e => e)
    clear c0 c1 c2 c3 c4 c5 c6 c7 c8 r0 r1 r2
    obtain ⟨c0, c1, c2, c3, c4, c5, c6, c7, c8⟩ := hB4.facts
    cases m
    all_goals
      go_wp2_with fail
      go_ret
      exact ⟨rfl, hg1.trans hg14⟩
end Go.Proofs.YtmohehfkbhllpaaGreat



namespace Go.Proofs.YtmohehfkbhllpaaGreat
open Go.RowKit Go.Maps Go.Shelf
attribute [local go_sem] Oper.semAt_some

abbrev nls : Value := .slice none 0 0

set_option maxRecDepth 100000 in
set_option maxHeartbeats 2000000 in
theorem leaf_c (lp bd bt g : Nat) (d : Int) (J0 J1 Jx : World → Prop)
    (hY : ∀ W, J0 W → YieldAt Fence.wide 1 Tryz.prog lp #[.int .i64 d, pt g] W fun e W' => (e = .returned (.bool true) ∧ J1 W') ∨ (e = .returned (.bool false) ∧ Jx W'))
    (hJ : ∀ W o, J0 W → J0 (W.alloc o)) (hcell : ∀ W, J1 W → W.cell? ⟨bt, 0, none⟩ = some (pt g) ∧ W.cell? ⟨g, 8, none⟩ = some nls)
    (W : World) (hbd : bd < W.heap.size) (hbt : bt < W.heap.size) (hd : W.cell? ⟨bd, 0, none⟩ = some (.int .i64 d)) (hp : W.cell? ⟨bt, 0, none⟩ = some (pt g)) (h0 : J0 W) :
    CallsIn Fence.wide 2 Tryz.prog 82 #[.func (.yield lp) #[] #[], pt bd, pt bt] W fun e W' => (∃ v, e = .returned v) ∧ (J1 W' ∨ Jx W') := by
  refine callsIn_of_wp Tryz.func82 rfl trivial ?_ rfl
  simp only [Tryz.ntmps82, List.size_toArray, List.length_cons, List.length_nil, Nat.reduceAdd, Nat.reduceSub, Array.replicate_succ, Array.replicate_zero, List.push_toArray, List.append_toArray, List.nil_append, List.cons_append]
  obtain ⟨fn, tmps, assign, body, hy, hR⟩ := hY _ (hJ W (.cells #[.func (.yield lp) #[] #[]] 127) h0)
  gi_wp2
  refine hR.mono ?_
  rintro e W3 (⟨rfl, hJ3⟩ | ⟨rfl, hJx3⟩)
  · obtain ⟨k1, k2⟩ := hcell W3 hJ3
    gi_wp2
    gi_loopw [17] (fun i wr => i = .int .i64 0 ∧ J1 wr) (fun _ _ => 0)
    case atStart => exact ⟨rfl, hJ3⟩
    case round =>
      obtain ⟨rfl, hJs⟩ := hrel
      gi_wp2
      go_end0
      exact ⟨⟨_, rfl⟩, .inl hJs⟩
  · gi_wp2
    refine bodyPost_ret (results_none rfl _ _ _) rfl ?_
    exact ⟨⟨_, rfl⟩, .inr hJx3⟩

/-- The two blocks that a loop over a function lays lie as they lay. -/
def Book (B : Nat) (W W' : World) : Prop := W'.heap[B]? = W.heap[B]? ∧ W'.heap[B + 1]? = W.heap[B + 1]?
def allPost (B : Nat) (I : World → Prop) (Ix : Code → World → Prop) (W : World) : Exit → Act → World → Prop
  | .normal, _, W' => Book B W W' ∧ I W'
  | .ret, _, W' => Book B W W' ∧ Ix .ret W'
  | .exit id, _, W' => Book B W W' ∧ Ix (.exit id) W'
  | .goto t, _, W' => Book B W W' ∧ Ix (.goto t) W'
  | .panic _, _, _ => False
  | .outgrown, _, _ => False
/-- Only the two blocks have turned, or new ones. -/
abbrev BookTurn (B : Nat) (W W' : World) : Prop := Gr (fun i => i = B ∨ i = B + 1) W W'
theorem bookTurn_put (B : Nat) (W : World) (o : Obj) : BookTurn B W (W.putObj (B + 1) o) := Gr.of_grown (grownBy_putObj' W (B + 1) o) (fun k e => by cases e; exact .inr rfl)

set_option maxHeartbeats 1000000 in
theorem rangeLeaf {q : Operand} {ps : Array Tmp} {assign body : Code} {Q : Exit → Act → World → Prop} {a : Act} {w : World} {bd bt g : Nat} {d : Int}
    (hg : a.eval q = .func (.func 82) #[] #[pt bd, pt bt]) (hps : ps.size = 2) (hbd : bd < w.heap.size) (hbt : bt < w.heap.size) (hd : w.cell? ⟨bd, 0, none⟩ = some (.int .i64 d)) (hp : w.cell? ⟨bt, 0, none⟩ = some (pt g))
    (I : Nat → World → Prop) (Ix : Code → World → Prop)
    (hI : ∀ k W W', I k W → BookTurn w.heap.size W W' → I k W') (hIx : ∀ c W W', Ix c W → BookTurn w.heap.size W W' → Ix c W')
    (hS : ∀ W, I 1 W → W.cell? ⟨bt, 0, none⟩ = some (pt g) ∧ W.cell? ⟨g, 8, none⟩ = some nls) (h0 : I 0 w) (a₁ : Act)
    (hassign : ∀ (l : Nat) (W : World) (K : Act → World → Prop), K a₁ W →
      assign.wpIn (Fence.wide.inRound l) 1 Tryz.prog (Exit.then K (fun _ _ _ => False)) { tmps := (ps.zip #[.int .i64 d, pt g]).foldl (fun t (p, v) => t.setIfInBounds p v) a.tmps, defers := [] } W)
    (hbody : ∀ (W : World), I 0 W → w.heap.size + 1 < W.heap.size → body.wpIn (Fence.wide.inRound (w.heap.size + 1)) 1 Tryz.prog (allPost w.heap.size (I 1) Ix W) a₁ W)
    (hdone : ∀ W, I 1 W → W.heap[w.heap.size]? = some (.deferred (some [])) → Q .normal { a with defers := { target := .collected w.heap.size, args := #[] } :: a.defers } W)
    (hstop : ∀ c W, Ix c W → W.heap[w.heap.size]? = some (.deferred (some [])) → c.wpIn Fence.wide 3 Tryz.prog Q { a with defers := { target := .collected w.heap.size, args := #[] } :: a.defers } W) :
    (Code.rangeFunc q ps assign body).wpIn Fence.wide 3 Tryz.prog Q a w := by
  refine wpIn_rangeFunc ?_
  intro fn _
  obtain ⟨B, hB⟩ : ∃ B, w.heap.size = B := ⟨_, rfl⟩
  obtain ⟨rec, hrec⟩ : ∃ rec : LoopState → Option Code → Loop, rec = fun st pe => { state := st, pending := pe, fn, tmps := a.tmps, params := ps, assign, body, defers := B } := ⟨_, rfl⟩
  obtain ⟨W1, hW1⟩ : ∃ W1, (w.alloc (.deferred (some []))).alloc (.loop (rec .ready none)) = W1 := ⟨_, rfl⟩
  have hL1 : W1.heap[B + 1]? = some (.loop (rec .ready none)) := by
    rw [← hW1, ← hB]; have := World.alloc_heap_new (w.alloc (.deferred (some []))) (.loop (rec .ready none)); rwa [World.size_alloc] at this
  have hK1 : W1.heap[B]? = some (.deferred (some [])) := by
    rw [← hW1, ← hB]; exact (Below.heap_alloc _ _ _ (by simp)).trans (World.alloc_heap_new w _)
  have hT1 : BookTurn B w W1 := by rw [← hW1]; exact (Gr.alloc _ _ _).trans (Gr.alloc _ _ _)
  have hc1 : W1.cell? ⟨bd, 0, none⟩ = some (.int .i64 d) := by
    rw [World.cell?_of_block (w' := W1) (w := w) (a := ⟨bd, 0, none⟩) (hT1.block bd hbd (by omega))]; exact hd
  have hc2 : W1.cell? ⟨bt, 0, none⟩ = some (pt g) := by
    rw [World.cell?_of_block (w' := W1) (w := w) (a := ⟨bt, 0, none⟩) (hT1.block bt hbt (by omega))]; exact hp
  rw [hB] at hI hIx hbody hdone hstop
  refine ⟨B + 1, [{ target := .collected B, args := #[] }], W1, { target := .fn (.func 82) #[pt bd, pt bt], args := #[.func (.yield (B + 1)) #[] #[]] }, W1, 82,
    #[.func (.yield (B + 1)) #[] #[]] ++ #[pt bd, pt bt], W1, ?_, ?_, ?_, ?_, fun _ => by omega, ?_⟩
  · rw [← hW1, hrec, ← hB]; exact run_enterLoop_outer _ _ _ _ _
  · simp only [resolve, hg]
    simp [go_sem]
  · intro f' _; trivial
  · simp [invoke, go_sem]
  · let J : Nat → World → Prop := fun k W => I k W ∧ W.heap[B + 1]? = some (.loop (rec .ready none)) ∧ W.heap[B]? = some (.deferred (some []))
    let Jx : World → Prop := fun W => ∃ c, Ix c W ∧ W.heap[B + 1]? = some (.loop (rec .done (some c))) ∧ W.heap[B]? = some (.deferred (some []))
    have hJ0 : J 0 W1 := ⟨hI 0 w W1 h0 hT1, hL1, hK1⟩
    have round : ∀ W, J 0 W → YieldAt Fence.wide 1 Tryz.prog (B + 1) #[.int .i64 d, pt g] W fun e W' =>
        (e = .returned (.bool true) ∧ J 1 W') ∨ (e = .returned (.bool false) ∧ Jx W') := by
      rintro W ⟨hi, hl, hk⟩
      have hlt : B + 1 < W.heap.size := (Array.getElem?_eq_some_iff.1 hl).1
      have hy := run_yield (P := Tryz.prog) (args := #[.int .i64 d, pt g]) hl (by rw [hrec]; exact hps.symm)
      rw [hrec] at hy
      refine ⟨fn, _, assign, body, hy, roundIn_of_wpIn trivial (hassign _ W _ ⟨_, run_beginRound hl (by rw [hrec]), ?_⟩)⟩
      obtain ⟨W2, hW2⟩ : ∃ W2, W.putObj (B + 1) (.loop { rec .ready none with state := .busy }) = W2 := ⟨_, rfl⟩
      have hl2 : W2.heap[B + 1]? = some (.loop { rec .ready none with state := .busy }) := by rw [← hW2]; exact World.putObj_heap_same hlt
      have hk2 : W2.heap[B]? = some (.deferred (some [])) := by rw [← hW2]; exact (World.putObj_heap_other (by omega)).trans hk
      have hi2 : I 0 W2 := by rw [← hW2]; exact hI 0 W _ hi (bookTurn_put B W _)
      rw [hW2]
      refine wpIn_mono (hbody W2 hi2 (Array.getElem?_eq_some_iff.1 hl2).1) ?_
      have fin : ∀ (jump : Option Code) (W3 : World), Book B W2 W3 →
          (Instr.endRound (B + 1) jump).run Tryz.prog W3 = .ok (.bool jump.isNone) (W3.putObj (B + 1) (.loop (rec (if jump.isNone then .ready else .done) jump))) ∧
          (W3.putObj (B + 1) (.loop (rec (if jump.isNone then .ready else .done) jump))).heap[B + 1]? = some (.loop (rec (if jump.isNone then .ready else .done) jump)) ∧
          (W3.putObj (B + 1) (.loop (rec (if jump.isNone then .ready else .done) jump))).heap[B]? = some (.deferred (some [])) := fun jump W3 hk3 => by
        have hl3 := hk3.2.trans hl2
        have := run_endRound (P := Tryz.prog) jump hl3
        rw [hrec] at this ⊢
        exact ⟨this, World.putObj_heap_same (Array.getElem?_eq_some_iff.1 hl3).1, (World.putObj_heap_other (by omega)).trans (hk3.1.trans hk2)⟩
      rintro e a3 W3 hp
      cases e with
      | normal =>
        obtain ⟨hk3, hi3⟩ := hp
        obtain ⟨hr, hl4, hk4⟩ := fin none W3 hk3
        exact ⟨_, _, hr, .inl ⟨rfl, hI _ _ _ hi3 (bookTurn_put B W3 _), hl4, hk4⟩⟩
      | ret =>
        obtain ⟨hk3, hi3⟩ := hp
        obtain ⟨hr, hl4, hk4⟩ := fin (some .ret) W3 hk3
        exact ⟨_, _, hr, .inr ⟨rfl, .ret, hIx _ _ _ hi3 (bookTurn_put B W3 _), hl4, hk4⟩⟩
      | exit id =>
        obtain ⟨hk3, hi3⟩ := hp
        obtain ⟨hr, hl4, hk4⟩ := fin (some (.exit id)) W3 hk3
        exact ⟨_, _, hr, .inr ⟨rfl, .exit id, hIx _ _ _ hi3 (bookTurn_put B W3 _), hl4, hk4⟩⟩
      | goto t =>
        obtain ⟨hk3, hi3⟩ := hp
        obtain ⟨hr, hl4, hk4⟩ := fin (some (.goto t)) W3 hk3
        exact ⟨_, _, hr, .inr ⟨rfl, .goto t, hIx _ _ _ hi3 (bookTurn_put B W3 _), hl4, hk4⟩⟩
      | panic ch => exact hp.elim
      | outgrown => exact hp.elim
    have behind : ∀ e W2, ((∃ v, e = .returned v) ∧ (J 1 W2 ∨ Jx W2)) → rangePost Fence.wide 3 Tryz.prog (B + 1) Q { a with defers := [{ target := .collected B, args := #[] }] ++ a.defers } e W2 := by
      rintro e W2 ⟨⟨v, rfl⟩, (⟨hi, hl, hk⟩ | ⟨c, hi, hl, hk⟩)⟩
      · exact ⟨none, _, by have := run_endLoop (P := Tryz.prog) hl (by rw [hrec]; simp); rw [hrec] at this; exact this, hdone _ (hI _ _ _ hi (bookTurn_put B W2 _)) ((World.putObj_heap_other (by omega)).trans hk)⟩
      · exact ⟨some c, _, by have := run_endLoop (P := Tryz.prog) hl (by rw [hrec]; simp); rw [hrec] at this; exact this, hstop c _ (hIx _ _ _ hi (bookTurn_put B W2 _)) ((World.putObj_heap_other (by omega)).trans hk)⟩
    refine (leaf_c (B + 1) bd bt g d (J 0) (J 1) Jx round ?_ (fun W h => hS W h.1) W1 (by have := hT1.size; omega) (by have := hT1.size; omega) hc1 hc2 hJ0).mono behind
    rintro W o ⟨hi, hl, hk⟩
    have hta : Gr (fun _ => False) W (W.alloc o) := Gr.alloc _ _ _
    exact ⟨hI 0 W _ hi (hta.mono (fun _ _ e => e.elim)), hta.keep hl (fun e => e), hta.keep hk (fun e => e)⟩
end Go.Proofs.YtmohehfkbhllpaaGreat



namespace Go.Proofs.YtmohehfkbhllpaaGreat
open Go.RowKit Go.Maps Go.Shelf
attribute [local go_sem] Oper.semAt_some
theorem Wg.step {W : World} {N kb : Nat} {k n : Int} {x y : Nat} {s : ByteArray} {a c d : Int} {X : World} (h : Wg W N kb k n x y s a c d 0 X) (hkb : kb < N := by omega) (hN : W.heap.size ≤ N := by omega) :
    Wg W N kb k n x y s a c d 1 (X.setCell ⟨N + 4, 0, none⟩ (.int .i64 1)).drew := by
  have t : Gr (fun i => i = N + 4) X (X.setCell ⟨N + 4, 0, none⟩ (.int .i64 1)).drew := (Gr.set (S := fun i => i = N + 4) X ⟨N + 4, 0, none⟩ (.int .i64 1) rfl).trans (Gr.drew _ _)
  exact ⟨h.term.gr t (fun e => by omega), t.keep h.tab (fun e => by omega), t.keep h.r1 (fun e => by omega), t.keep h.r2 (fun e => by omega),
    heap_setCell_same X (N + 4) 0 _ 3 _ h.size, t.keep h.at_ (fun e => by omega), h.kd.gr t (fun e => by omega), h.gr.trans' t (fun i hi e => by omega)⟩
theorem wgood {W : World} {N kb : Nat} {k n : Int} {x y : Nat} {s : ByteArray} {a c d : Int} {X X2 X3 : World} (h2 : Gr (fun i => i = N + 4) X X2) (h3 : Gr (fun _ => False) X2 X3) (hw : Wg W N kb k n x y s a c d 1 X3) (hlt : N + 7 + 1 < X.heap.size) :
    Book (N + 7) X X3 ∧ Wg W N kb k n x y s a c d 1 X3 := by
  have t : Gr (fun i => i = N + 4) X X3 := h2.trans (h3.mono (fun _ _ e => e.elim))
  exact ⟨⟨t.block _ (by omega) (by omega), t.block _ (by omega) (by omega)⟩, hw⟩
theorem wfail {W : World} {kb : Nat} {k n : Int} {x y : Nat} {s : ByteArray} {a c d : Int} {X X2 X3 : World} (h2 : Gr (fun i => i = W.heap.size + 4) X X2) (h3 : Gr (fun _ => False) X2 X3) (hw : Wg W W.heap.size kb k n x y s a c d 1 X3) (hlt : W.heap.size + 7 + 1 < X.heap.size) :
    Book (W.heap.size + 7) X ((X3.setCell ⟨W.heap.size + 1 + 1, 0, none⟩ (.int .i64 0)).setCell ⟨W.heap.size + 1 + 1 + 1, 0, none⟩ (.int .i64 24)) ∧ Code.ret = Code.ret ∧
    ((X3.setCell ⟨W.heap.size + 1 + 1, 0, none⟩ (.int .i64 0)).setCell ⟨W.heap.size + 1 + 1 + 1, 0, none⟩ (.int .i64 24)).heap[W.heap.size + 2]? = some (.cells #[.int .i64 0] 3 (0, 0)) ∧
    ((X3.setCell ⟨W.heap.size + 1 + 1, 0, none⟩ (.int .i64 0)).setCell ⟨W.heap.size + 1 + 1 + 1, 0, none⟩ (.int .i64 24)).heap[W.heap.size + 3]? = some (.cells #[.int .i64 24] 32 (0, 0)) ∧
    Gr (fun _ => False) W ((X3.setCell ⟨W.heap.size + 1 + 1, 0, none⟩ (.int .i64 0)).setCell ⟨W.heap.size + 1 + 1 + 1, 0, none⟩ (.int .i64 24)) := by
  have t3 : Gr (fun i => i = W.heap.size + 2) X3 (X3.setCell ⟨W.heap.size + 1 + 1, 0, none⟩ (.int .i64 0)) := Gr.set _ _ _ rfl
  have t4 : Gr (fun i => i = W.heap.size + 3) (X3.setCell ⟨W.heap.size + 1 + 1, 0, none⟩ (.int .i64 0)) ((X3.setCell ⟨W.heap.size + 1 + 1, 0, none⟩ (.int .i64 0)).setCell ⟨W.heap.size + 1 + 1 + 1, 0, none⟩ (.int .i64 24)) := Gr.set _ _ _ rfl
  have t : Gr (fun i => i = W.heap.size + 2 ∨ i = W.heap.size + 3 ∨ i = W.heap.size + 4) X ((X3.setCell ⟨W.heap.size + 1 + 1, 0, none⟩ (.int .i64 0)).setCell ⟨W.heap.size + 1 + 1 + 1, 0, none⟩ (.int .i64 24)) :=
    (((h2.mono (fun _ _ e => .inr (.inr e))).trans (h3.mono (fun _ _ e => e.elim))).trans (t3.mono (fun _ _ e => .inl e))).trans (t4.mono (fun _ _ e => .inr (.inl e)))
  refine ⟨⟨t.block _ (by omega) (by omega), t.block _ (by omega) (by omega)⟩, rfl, ?_, ?_, ?_⟩
  · exact t4.keep (heap_setCell_same X3 (W.heap.size + 2) 0 _ 3 _ hw.r1) (by omega)
  · exact heap_setCell_same _ (W.heap.size + 3) 0 _ 32 _ (t3.keep hw.r2 (by omega))
  · exact (hw.gr.trans' t3 (fun i hi e => by omega)).trans' t4 (fun i hi e => by omega)
set_option maxRecDepth 100000 in
set_option maxHeartbeats 1600000 in
theorem weigh_c (W : World) (kb : Nat) (k n : Int) (x y : Nat) (s : ByteArray) (a c d : Int) (hK : Kd W kb) (m : Bool)
    (hf : ∀ W g, Kd W kb → Bx W g k n x y s a c d nl nl → Calls Tryz.prog 62 #[pt kb, pt g, .int .i64 1, .int .i64 1] W fun e w' => e = .returned (.int .i64 (okE m)) ∧ Gr (fun _ => False) W w') :
    Calls Tryz.prog 38 #[lf k n x y s a c d, pt kb] W fun e w' => e = .returned (.tuple #[.int .i64 (if m = true then 1 else 0), .int .i64 (okE m)]) ∧ Gr (fun _ => False) W w' := by
  have hkb := hK.lt
  refine (callsIn_wide (n := 3)).1 ?_
  refine callsIn_of_wp_marks Tryz.func38 rfl trivial ?_ rfl
  simp only [Tryz.ntmps38, List.size_toArray, List.length_cons, List.length_nil, Nat.reduceAdd, Nat.reduceSub, Array.replicate_succ, Array.replicate_zero, List.push_toArray, List.append_toArray, List.nil_append, List.cons_append]
  gi_wp2_with (first
    | (refine ⟨trivial, ?_⟩; gi_at_call 61; refine (callsIn_wide.2 (parts_c _ _ _)).mono ?_; rintro e w1 ⟨rfl, rfl⟩))
  generalize hX0 : (World.alloc (World.alloc (World.alloc (World.alloc (World.alloc (World.alloc (World.alloc W _) _) _) _) _) _) _) = X0
  have hgX : Gr (fun _ => False) W X0 := hX0 ▸ (((((((Gr.alloc _ _ _).trans (Gr.alloc _ _ _)).trans (Gr.alloc _ _ _)).trans (Gr.alloc _ _ _)).trans (Gr.alloc _ _ _)).trans (Gr.alloc _ _ _)).trans (Gr.alloc _ _ _))
  have hs0 : X0.heap.size = W.heap.size + 7 := by rw [← hX0]; simp
  have hw0 : Wg W W.heap.size kb k n x y s a c d 0 X0 := by
    subst hX0
    refine ⟨?_, ?_, ?_, ?_, ?_, ?_, hK.gr hgX (fun e => e), hgX⟩ <;> (simp only [Bx, al, World.size_alloc]; repeat (first | rw [if_pos trivial] | rw [if_pos (by omega)] | rw [if_neg (by omega)]))
  have hd0 : X0.heap[W.heap.size + 6]? = some (.cells #[.int .i64 1] 3 (0, 0)) := by subst hX0; simp only [al, World.size_alloc]; repeat (first | rw [if_pos trivial] | rw [if_pos (by omega)] | rw [if_neg (by omega)])
  have c6 := cell_of hd0
  have c5 := cell_of hw0.at_
  clear hX0
  refine rangeLeaf (bd := W.heap.size + 6) (bt := W.heap.size + 5) (g := W.heap.size) (d := 1) rfl rfl (by omega) (by omega) c6.1 c5.1
    (fun j X => (j = 0 ∧ Wg W W.heap.size kb k n x y s a c d 0 X) ∨ (j = 1 ∧ m = true ∧ Wg W W.heap.size kb k n x y s a c d 1 X))
    (fun q X => q = .ret ∧ m = false ∧ X.heap[W.heap.size + 2]? = some (.cells #[.int .i64 0] 3 (0, 0)) ∧ X.heap[W.heap.size + 3]? = some (.cells #[.int .i64 24] 32 (0, 0)) ∧ Gr (fun _ => False) W X)
    ?hI ?hIx ?hS (.inl ⟨rfl, hw0⟩) ?a1 ?assign ?body ?done ?stop
  case hI =>
    rintro j X X' (⟨rfl, h⟩ | ⟨rfl, hm, h⟩) t
    · exact .inl ⟨rfl, h.turn t (fun i e => by omega) hkb (Nat.le_refl _)⟩
    · exact .inr ⟨rfl, hm, h.turn t (fun i e => by omega) hkb (Nat.le_refl _)⟩
  case hIx =>
    rintro q X X' ⟨rfl, hm, h1, h2, h3⟩ t
    exact ⟨rfl, hm, t.keep h1 (fun e => by omega), t.keep h2 (fun e => by omega), h3.trans' t (fun i hi e => by omega)⟩
  case hS =>
    rintro X (⟨h, _⟩ | ⟨_, _, h⟩)
    · cases h
    · exact ⟨(cell_of h.at_).1, h.term.facts.2.2.2.2.2.2.2.2⟩
  case assign =>
    intro l X K hK
    gi_wp2
    exact hK
  case body =>
    rintro X (⟨_, h⟩ | ⟨h, _⟩) hlt
    · have hw1 : IntKind.i64.wrap (IntKind.i64.wrap 1) = 1 := by decide
      rw [hs0] at hlt
      obtain ⟨t0, t1, t2, t3, t4, t5, t6, t7, t8⟩ := h.term.facts
      obtain ⟨z1, z2⟩ := cell_of h.size
      obtain ⟨y1, y2⟩ := cell_of h.tab
      have z1' : X.cell? ⟨W.heap.size + 1 + 1 + 1 + 1, 0, none⟩ = some (.int .i64 0) := z1
      have z2' : X.frozen? ⟨W.heap.size + 1 + 1 + 1 + 1, 0, none⟩ = false := z2
      gi_wp2
      gi_region_with (fail)
      all_goals

        generalize hX2 : World.drew (World.setCell X _ _) = X2
        have hs2 : Gr (fun i => i = W.heap.size + 4) X X2 := hX2 ▸ ((Gr.set (S := fun i => i = W.heap.size + 4) X ⟨W.heap.size + 4, 0, none⟩ (.int .i64 1) rfl).trans (Gr.drew _ _))
        have hw2 : Wg W W.heap.size kb k n x y s a c d 1 X2 := hX2 ▸ h.step
        have hx2 : W.heap.size + 8 < X2.heap.size := by have := hs2.size; omega
        clear hX2 z1 z2 z1' z2' y1 y2 t0 t1 t2 t3 t4 t5 t6 t7 t8
        obtain ⟨z1, z2⟩ := cell_of hw2.size
        obtain ⟨y1, y2⟩ := cell_of hw2.tab
        have z1' : X2.cell? ⟨W.heap.size + 1 + 1 + 1 + 1, 0, none⟩ = some (.int .i64 1) := z1
        cases m
        · gi_wp2_with (first
            | (refine ⟨trivial, ?_⟩; gi_at_call 62; refine (CallsIn.inRound _ (callsIn_wide.2 (hf X2 _ hw2.kd hw2.term))).mono ?_; rintro e X3 ⟨rfl, hg3⟩; have hw3 := hw2.turn hg3 (fun i e => e.elim) hkb (Nat.le_refl _); have q1 := cell_of hw3.r1; have q2 := cell_of hw3.r2; have q1' : X3.frozen? ⟨W.heap.size + 1 + 1, 0, none⟩ = false := q1.2; have q2' : X3.frozen? ⟨W.heap.size + 1 + 1 + 1, 0, none⟩ = false := q2.2; have q3' : X3.cell? ⟨W.heap.size + 1 + 1, 0, none⟩ = some (.int .i64 0) := q1.1; have q4' : X3.cell? ⟨W.heap.size + 1 + 1 + 1, 0, none⟩ = some (.int .i64 0) := q2.1))
          exact wfail hs2 hg3 hw3 hlt
        · gi_wp2_with (first
            | (refine ⟨trivial, ?_⟩; gi_at_call 62; refine (CallsIn.inRound _ (callsIn_wide.2 (hf X2 _ hw2.kd hw2.term))).mono ?_; rintro e X3 ⟨rfl, hg3⟩; have hw3 := hw2.turn hg3 (fun i e => e.elim) hkb (Nat.le_refl _)))
          exact wgood hs2 hg3 hw3 hlt
    · cases h
  case done =>
    rintro X (⟨h, _⟩ | ⟨_, hm, h⟩) hD
    · cases h
    · rw [hs0] at hD ⊢
      subst hm
      obtain ⟨z1, z2⟩ := cell_of h.size
      obtain ⟨p1, p2⟩ := cell_of h.r1
      obtain ⟨p3, p4⟩ := cell_of h.r2
      have z1' : X.cell? ⟨W.heap.size + 1 + 1 + 1 + 1, 0, none⟩ = some (.int .i64 1) := z1
      have p1' : X.cell? ⟨W.heap.size + 1 + 1, 0, none⟩ = some (.int .i64 0) := p1
      have p2' : X.frozen? ⟨W.heap.size + 1 + 1, 0, none⟩ = false := p2
      have p3' : X.cell? ⟨W.heap.size + 1 + 1 + 1, 0, none⟩ = some (.int .i64 0) := p3
      have p4' : X.frozen? ⟨W.heap.size + 1 + 1 + 1, 0, none⟩ = false := p4
      have t3 : Gr (fun i => i = W.heap.size + 2) X (X.setCell ⟨W.heap.size + 1 + 1, 0, none⟩ (.int .i64 1)) := Gr.set _ _ _ rfl
      have t4 : Gr (fun i => i = W.heap.size + 3) (X.setCell ⟨W.heap.size + 1 + 1, 0, none⟩ (.int .i64 1)) ((X.setCell ⟨W.heap.size + 1 + 1, 0, none⟩ (.int .i64 1)).setCell ⟨W.heap.size + 1 + 1 + 1, 0, none⟩ (.int .i64 0)) := Gr.set _ _ _ rfl
      have e1 : ((X.setCell ⟨W.heap.size + 1 + 1, 0, none⟩ (.int .i64 1)).setCell ⟨W.heap.size + 1 + 1 + 1, 0, none⟩ (.int .i64 0)).heap[W.heap.size + 2]? = some (.cells #[.int .i64 1] 3 (0, 0)) := t4.keep (heap_setCell_same X (W.heap.size + 2) 0 _ 3 _ h.r1) (by omega)
      have e2 : ((X.setCell ⟨W.heap.size + 1 + 1, 0, none⟩ (.int .i64 1)).setCell ⟨W.heap.size + 1 + 1 + 1, 0, none⟩ (.int .i64 0)).heap[W.heap.size + 3]? = some (.cells #[.int .i64 0] 32 (0, 0)) := heap_setCell_same (X.setCell ⟨W.heap.size + 1 + 1, 0, none⟩ (.int .i64 1)) (W.heap.size + 3) 0 _ 32 _ (t3.keep h.r2 (by omega))
      have e3 := t4.keep (t3.keep hD (by omega)) (by omega)
      have e4 := (h.gr.trans' t3 (fun i hi e => by omega)).trans' t4 (fun i hi e => by omega)
      gi_wp2
      refine ⟨by simp, .inl ⟨_, _, rfl, run_takeDeferred e3, ?_⟩⟩
      obtain ⟨k1, k2, k3⟩ := wend e1 e2 e4
      exact ⟨.tuple #[.int .i64 1, .int .i64 0], by simp [results, Tryz.results38, go_sem, k1, k2], rfl, k3⟩
  case stop =>
    rintro q X ⟨rfl, hm, h1, h2, h3⟩ hD
    rw [hs0] at hD ⊢
    subst hm
    obtain ⟨p1, p2⟩ := cell_of h1
    obtain ⟨p3, p4⟩ := cell_of h2
    gi_wp2
    refine ⟨by simp, .inl ⟨_, _, rfl, run_takeDeferred hD, ?_⟩⟩
    obtain ⟨k1, k2, k3⟩ := wend h1 h2 h3
    exact ⟨.tuple #[.int .i64 0, .int .i64 24], by simp [results, Tryz.results38, go_sem, k1, k2], rfl, k3⟩
end Go.Proofs.YtmohehfkbhllpaaGreat
/-
  Check of a term that has no elements.
-/
namespace Go.Proofs.YtmohehfkbhllpaaGreat
open Go.RowKit Go.Maps
set_option maxRecDepth 100000 in
set_option maxHeartbeats 400000 in
theorem check_c (W : World) (k n : Int) (x y : Nat) (s : ByteArray) (a c d : Int) (m : Bool)
    (hf : ∀ kb W g, Kd W kb → Bx W g k n x y s a c d nl nl → Calls Tryz.prog 62 #[pt kb, pt g, .int .i64 1, .int .i64 1] W fun e w' => e = .returned (.int .i64 (okE m)) ∧ Gr (fun _ => False) W w') :
    Calls Tryz.prog 19 #[lf k n x y s a c d] W fun e w' => e = .returned (.int .i64 (okE m)) ∧ Gr (fun _ => False) W w' := by
  have hw := fun w2 kb hK => weigh_c w2 kb k n x y s a c d hK m (hf kb)
  generalize (if m = true then (1 : Int) else 0) = z at hw
  generalize okE m = e at hw ⊢
  clear hf
  replace hw := Lib.hid hw
  go_enter Tryz.func19, Tryz.ntmps19
  go_wp2_with fail
  go_region_with (first
    | (go_at_call 39; refine (makeKinds_c _).mono ?_; rintro e w2 ⟨rfl, hK2, hg2⟩; have hK3 : Kd w2 (W.heap.size + 1) := (by simpa using hK2); clear hK2; have hB2 : Bx w2 W.heap.size k n x y s a c d nl nl := ((Gr.drew _ (fun _ => False)).trans hg2).keep (heap_alloc_new W _) (fun e => e); obtain ⟨c0, c1, c2, c3, c4, c5, c6, c7, c8⟩ := hB2.facts)
    | (go_at_call 38; refine (hw.out w2 (W.heap.size + 1) hK3).mono ?_; rintro e' w3 ⟨rfl, hg3⟩))
  all_goals
    go_wp2_with fail
    go_ret
    exact ⟨rfl, (((Gr.alloc _ _ _).trans (Gr.drew _ _)).trans hg2).trans hg3⟩

theorem check_int (W : World) (n : Int) : Calls Tryz.prog 19 #[lf 1 n 0 0 e0 0 0 0] W fun e w' => e = .returned (.int .i64 (okE (inR n))) ∧ Gr (fun _ => False) W w' :=
  check_c W 1 n 0 0 e0 0 0 0 _ (fun kb W g hK hB => fault_int W kb g n hK hB _ (right_int n))
theorem check_cx (W : World) (x y : Nat) (hx : x < 18446744073709551616) (hy : y < 18446744073709551616) : Calls Tryz.prog 19 #[lf 2 0 x y e0 0 0 0] W fun e w' => e = .returned (.int .i64 (okE (rp x && rp y))) ∧ Gr (fun _ => False) W w' :=
  check_c W 2 0 x y e0 0 0 0 _ (fun kb W g hK hB => fault_cx W kb g x y hK hB _ (right_cx x y hx hy))
theorem check_ref (W : World) (a c d : Int) : Calls Tryz.prog 19 #[lf 4 0 0 0 e0 a c d] W fun e w' => e = .returned (.int .i64 (okE (idOk a c d))) ∧ Gr (fun _ => False) W w' :=
  check_c W 4 0 0 0 e0 a c d _ (fun kb W g hK hB => fault_ref W kb g a c d hK hB _ (idMay_c 4 a c d))
theorem check_pid (W : World) (a c d : Int) : Calls Tryz.prog 19 #[lf 5 0 0 0 e0 a c d] W fun e w' => e = .returned (.int .i64 (okE (idOk a c d))) ∧ Gr (fun _ => False) W w' :=
  check_c W 5 0 0 0 e0 a c d _ (fun kb W g hK hB => fault_pid W kb g a c d hK hB _ (idMay_c 5 a c d))
end Go.Proofs.YtmohehfkbhllpaaGreat


