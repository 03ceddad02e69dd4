/-
  What is wrong with a term that has no elements.
-/
import Derived.Test.YtdmichjhmfinpaaGreatDoorS
import Derived.Deep.RegionWith
set_option linter.unusedVariables false
set_option linter.unusedSimpArgs false
namespace Go.Proofs.YtdmichjhmfinpaaGreatDoor
open Go.RowKit Go.Maps

/-- A term in a block of its own. -/
def Bx (W : World) (g : Nat) (k n : Int) (x y : Nat) (s : ByteArray) (a c d : Int) (bs l : Value) : Prop :=
  W.heap[g]? = some (.cells #[.int .i64 k, .int .i64 n, .complex .f64 x y, .string s, .int .i64 a, .int .u32 c, .int .u64 d, bs, l] 31 (0, 0))
theorem Bx.facts {W : World} {g : Nat} {k n : Int} {x y : Nat} {s : ByteArray} {a c d : Int} {bs l : Value} (h : Bx W g k n x y s a c d bs l) :
    W.cell? ⟨g, 0, none⟩ = some (.int .i64 k) ∧ W.cell? ⟨g, 1, none⟩ = some (.int .i64 n) ∧ W.cell? ⟨g, 2, none⟩ = some (.complex .f64 x y) ∧ W.cell? ⟨g, 3, none⟩ = some (.string s) ∧
    W.cell? ⟨g, 4, none⟩ = some (.int .i64 a) ∧ W.cell? ⟨g, 5, none⟩ = some (.int .u32 c) ∧ W.cell? ⟨g, 6, none⟩ = some (.int .u64 d) ∧ W.cell? ⟨g, 7, none⟩ = some bs ∧ W.cell? ⟨g, 8, none⟩ = some l := by
  unfold Bx at h
  simp [World.cell?, h]
theorem Bx.gr {S : Nat → Prop} {W W' : World} {g : Nat} {k n : Int} {x y : Nat} {s : ByteArray} {a c d : Int} {bs l : Value} (h : Bx W g k n x y s a c d bs l) (k' : Gr S W W') (hs : ¬ S g) : Bx W' g k n x y s a c d bs l := k'.keep h hs
theorem Bx.lt {W : World} {g : Nat} {k n : Int} {x y : Nat} {s : ByteArray} {a c d : Int} {bs l : Value} (h : Bx W g k n x y s a c d bs l) : g < W.heap.size := (Array.getElem?_eq_some_iff.1 h).1

theorem three87 {W : World} {g : Nat} {x y z : Value} (h : W.heap[g]? = some (.cells #[x, y, z] 87 (0, 0))) :
    W.cell? ⟨g, 0, none⟩ = some x ∧ W.cell? ⟨g, 1, none⟩ = some y ∧ W.cell? ⟨g, 2, none⟩ = some z := by simp [World.cell?, h]
def okE (m : Bool) : Int := if m = true then 0 else 24

set_option maxRecDepth 100000 in
set_option maxHeartbeats 1600000 in
theorem fault_int (W : World) (kb g : Nat) (n : Int) (hK : Kd W kb) (hB : Bx W g 1 n 0 0 e0 0 0 0 nl nl) (m : Bool)
    (hmay : ∀ w, Calls Tryz.prog 46 #[lf 1 n 0 0 e0 0 0 0] w fun e w' => e = .returned (.bool m) ∧ Gr (fun _ => False) w w') :
    Calls Tryz.prog 41 #[pt kb, pt g, .int .i64 1, .int .i64 1] W fun e w' => e = .returned (.int .i64 (okE m)) ∧ Gr (fun _ => False) W w' := by
  obtain ⟨c0, c1, c2, c3, c4, c5, c6, c7, c8⟩ := hB.facts
  obtain ⟨r0, r1, r2⟩ := hK.cells.1
  have hg := hB.lt
  have hkb := hK.lt
  go_enter Tryz.func41, Tryz.ntmps41
  go_wp2_with fail
  go_region
  all_goals
    generalize hW1 : (W.alloc (Obj.cells #[Value.func (Fn.func 45) #[] #[], Value.func (Fn.func 46) #[] #[], Value.func (Fn.func 47) #[] #[]] 87)).drew = W1
    have hg1 : Gr (fun _ => False) W W1 := hW1 ▸ (Gr.alloc _ _ _).trans (Gr.drew _ _)
    have hrow : W1.heap[W.heap.size]? = some (.cells #[fv 45, fv 46, fv 47] 87 (0, 0)) := hW1 ▸ (Gr.drew _ (fun _ => False)).keep (heap_alloc_new W _) (fun e => e)
    have hB1 := hB.gr hg1 (fun e => e)
    generalize W.heap.size = R at hrow ⊢
    clear c0 c1 c2 c3 c4 c5 c6 c7 c8 r0 r1 r2 hg hkb hW1 hK hB
    obtain ⟨c0, c1, c2, c3, c4, c5, c6, c7, c8⟩ := hB1.facts
    obtain ⟨r0, r1, r2⟩ := three87 hrow
    go_wp2_with fail
    go_region_with (first | (go_at_call 45; refine (withoutN_c _ _ _).mono ?_; rintro e w2 ⟨rfl, hg2⟩) | (go_at_call 75; refine (blank_c _ _).mono ?_; rintro e w3 ⟨rfl, hg3⟩))
  all_goals
    have hg13 := ((Gr.drew W1 (fun _ => False)).trans hg2).trans hg3
    have hB3 := hB1.gr hg13 (fun e => e)
    have hrow3 := hg13.keep hrow (fun e => e)
    clear c0 c1 c2 c3 c4 c5 c6 c7 c8 r0 r1 r2
    obtain ⟨c0, c1, c2, c3, c4, c5, c6, c7, c8⟩ := hB3.facts
    obtain ⟨r0, r1, r2⟩ := three87 hrow3
    go_wp2_with fail
    go_region_with (first | (go_at_call 46; refine (hmay _).mono ?_; rintro e w4 ⟨rfl, hg4⟩))
  all_goals
    have hg14 := hg13.trans ((Gr.drew w3 (fun _ => False)).trans hg4)
    have hB4 := hB1.gr hg14 (fun e => e)
    clear c0 c1 c2 c3 c4 c5 c6 c7 c8 r0 r1 r2
    obtain ⟨c0, c1, c2, c3, c4, c5, c6, c7, c8⟩ := hB4.facts
    cases m
    all_goals
      go_wp2_with fail
      go_ret
      exact ⟨rfl, hg1.trans hg14⟩

set_option maxRecDepth 100000 in
set_option maxHeartbeats 1600000 in
theorem fault_cx (W : World) (kb g : Nat) (x y : Nat) (hK : Kd W kb) (hB : Bx W g 2 0 x y e0 0 0 0 nl nl) (m : Bool)
    (hmay : ∀ w, Calls Tryz.prog 46 #[lf 2 0 x y e0 0 0 0] w fun e w' => e = .returned (.bool m) ∧ Gr (fun _ => False) w w') :
    Calls Tryz.prog 41 #[pt kb, pt g, .int .i64 1, .int .i64 1] W fun e w' => e = .returned (.int .i64 (okE m)) ∧ Gr (fun _ => False) W w' := by
  obtain ⟨c0, c1, c2, c3, c4, c5, c6, c7, c8⟩ := hB.facts
  obtain ⟨r0, r1, r2⟩ := hK.cells.2.1
  have hg := hB.lt
  have hkb := hK.lt
  go_enter Tryz.func41, Tryz.ntmps41
  go_wp2_with fail
  go_region
  all_goals
    generalize hW1 : (W.alloc (Obj.cells #[Value.func (Fn.func 48) #[] #[], Value.func (Fn.func 46) #[] #[], Value.func (Fn.func 47) #[] #[]] 87)).drew = W1
    have hg1 : Gr (fun _ => False) W W1 := hW1 ▸ (Gr.alloc _ _ _).trans (Gr.drew _ _)
    have hrow : W1.heap[W.heap.size]? = some (.cells #[fv 48, fv 46, fv 47] 87 (0, 0)) := hW1 ▸ (Gr.drew _ (fun _ => False)).keep (heap_alloc_new W _) (fun e => e)
    have hB1 := hB.gr hg1 (fun e => e)
    generalize W.heap.size = R at hrow ⊢
    clear c0 c1 c2 c3 c4 c5 c6 c7 c8 r0 r1 r2 hg hkb hW1 hK hB
    obtain ⟨c0, c1, c2, c3, c4, c5, c6, c7, c8⟩ := hB1.facts
    obtain ⟨r0, r1, r2⟩ := three87 hrow
    go_wp2_with fail
    go_region_with (first | (go_at_call 48; refine (withoutZ_c _ _ _ _).mono ?_; rintro e w2 ⟨rfl, hg2⟩) | (go_at_call 75; refine (blank_c _ _).mono ?_; rintro e w3 ⟨rfl, hg3⟩))
  all_goals
    have hg13 := ((Gr.drew W1 (fun _ => False)).trans hg2).trans hg3
    have hB3 := hB1.gr hg13 (fun e => e)
    have hrow3 := hg13.keep hrow (fun e => e)
    clear c0 c1 c2 c3 c4 c5 c6 c7 c8 r0 r1 r2
    obtain ⟨c0, c1, c2, c3, c4, c5, c6, c7, c8⟩ := hB3.facts
    obtain ⟨r0, r1, r2⟩ := three87 hrow3
    go_wp2_with fail
    go_region_with (first | (go_at_call 46; refine (hmay _).mono ?_; rintro e w4 ⟨rfl, hg4⟩))
  all_goals
    have hg14 := hg13.trans ((Gr.drew w3 (fun _ => False)).trans hg4)
    have hB4 := hB1.gr hg14 (fun e => e)
    clear c0 c1 c2 c3 c4 c5 c6 c7 c8 r0 r1 r2
    obtain ⟨c0, c1, c2, c3, c4, c5, c6, c7, c8⟩ := hB4.facts
    cases m
    all_goals
      go_wp2_with fail
      go_ret
      exact ⟨rfl, hg1.trans hg14⟩

set_option maxRecDepth 100000 in
set_option maxHeartbeats 1600000 in
theorem fault_atom (W : World) (kb g : Nat) (t : ByteArray) (hK : Kd W kb) (hB : Bx W g 3 0 0 0 t 0 0 0 nl nl) (m : Bool)
    (hmay : ∀ w, Calls Tryz.prog 50 #[lf 3 0 0 0 t 0 0 0] w fun e w' => e = .returned (.bool m) ∧ Gr (fun _ => False) w w') :
    Calls Tryz.prog 41 #[pt kb, pt g, .int .i64 1, .int .i64 1] W fun e w' => e = .returned (.int .i64 (okE m)) ∧ Gr (fun _ => False) W w' := by
  obtain ⟨c0, c1, c2, c3, c4, c5, c6, c7, c8⟩ := hB.facts
  obtain ⟨r0, r1, r2⟩ := hK.cells.2.2.1
  have hg := hB.lt
  have hkb := hK.lt
  go_enter Tryz.func41, Tryz.ntmps41
  go_wp2_with fail
  go_region
  all_goals
    generalize hW1 : (W.alloc (Obj.cells #[Value.func (Fn.func 49) #[] #[], Value.func (Fn.func 50) #[] #[], Value.func (Fn.func 51) #[] #[]] 87)).drew = W1
    have hg1 : Gr (fun _ => False) W W1 := hW1 ▸ (Gr.alloc _ _ _).trans (Gr.drew _ _)
    have hrow : W1.heap[W.heap.size]? = some (.cells #[fv 49, fv 50, fv 51] 87 (0, 0)) := hW1 ▸ (Gr.drew _ (fun _ => False)).keep (heap_alloc_new W _) (fun e => e)
    have hB1 := hB.gr hg1 (fun e => e)
    generalize W.heap.size = R at hrow ⊢
    clear c0 c1 c2 c3 c4 c5 c6 c7 c8 r0 r1 r2 hg hkb hW1 hK hB
    obtain ⟨c0, c1, c2, c3, c4, c5, c6, c7, c8⟩ := hB1.facts
    obtain ⟨r0, r1, r2⟩ := three87 hrow
    go_wp2_with fail
    go_region_with (first | (go_at_call 49; refine (withoutS_c _ _ _).mono ?_; rintro e w2 ⟨rfl, hg2⟩) | (go_at_call 75; refine (blank_c _ _).mono ?_; rintro e w3 ⟨rfl, hg3⟩))
  all_goals
    have hg13 := ((Gr.drew W1 (fun _ => False)).trans hg2).trans hg3
    have hB3 := hB1.gr hg13 (fun e => e)
    have hrow3 := hg13.keep hrow (fun e => e)
    clear c0 c1 c2 c3 c4 c5 c6 c7 c8 r0 r1 r2
    obtain ⟨c0, c1, c2, c3, c4, c5, c6, c7, c8⟩ := hB3.facts
    obtain ⟨r0, r1, r2⟩ := three87 hrow3
    go_wp2_with fail
    go_region_with (first | (go_at_call 50; refine (hmay _).mono ?_; rintro e w4 ⟨rfl, hg4⟩))
  all_goals
    have hg14 := hg13.trans ((Gr.drew w3 (fun _ => False)).trans hg4)
    have hB4 := hB1.gr hg14 (fun e => e)
    clear c0 c1 c2 c3 c4 c5 c6 c7 c8 r0 r1 r2
    obtain ⟨c0, c1, c2, c3, c4, c5, c6, c7, c8⟩ := hB4.facts
    cases m
    all_goals
      go_wp2_with fail
      go_ret
      exact ⟨rfl, hg1.trans hg14⟩

set_option maxRecDepth 100000 in
set_option maxHeartbeats 1600000 in
theorem fault_ref (W : World) (kb g : Nat) (a c d : Int) (hK : Kd W kb) (hB : Bx W g 4 0 0 0 e0 a c d nl nl) (m : Bool)
    (hmay : ∀ w, Calls Tryz.prog 43 #[lf 4 0 0 0 e0 a c d] w fun e w' => e = .returned (.bool m) ∧ Gr (fun _ => False) w w') :
    Calls Tryz.prog 41 #[pt kb, pt g, .int .i64 1, .int .i64 1] W fun e w' => e = .returned (.int .i64 (okE m)) ∧ Gr (fun _ => False) W w' := by
  obtain ⟨c0, c1, c2, c3, c4, c5, c6, c7, c8⟩ := hB.facts
  obtain ⟨r0, r1, r2⟩ := hK.cells.2.2.2.1
  have hg := hB.lt
  have hkb := hK.lt
  go_enter Tryz.func41, Tryz.ntmps41
  go_wp2_with fail
  go_region
  all_goals
    generalize hW1 : (W.alloc (Obj.cells #[Value.func (Fn.func 42) #[] #[], Value.func (Fn.func 43) #[] #[], Value.func (Fn.func 44) #[] #[]] 87)).drew = W1
    have hg1 : Gr (fun _ => False) W W1 := hW1 ▸ (Gr.alloc _ _ _).trans (Gr.drew _ _)
    have hrow : W1.heap[W.heap.size]? = some (.cells #[fv 42, fv 43, fv 44] 87 (0, 0)) := hW1 ▸ (Gr.drew _ (fun _ => False)).keep (heap_alloc_new W _) (fun e => e)
    have hB1 := hB.gr hg1 (fun e => e)
    generalize W.heap.size = R at hrow ⊢
    clear c0 c1 c2 c3 c4 c5 c6 c7 c8 r0 r1 r2 hg hkb hW1 hK hB
    obtain ⟨c0, c1, c2, c3, c4, c5, c6, c7, c8⟩ := hB1.facts
    obtain ⟨r0, r1, r2⟩ := three87 hrow
    go_wp2_with fail
    go_region_with (first | (go_at_call 42; refine (withoutId_c _ _ _ _ _).mono ?_; rintro e w2 ⟨rfl, hg2⟩) | (go_at_call 75; refine (blank_c _ _).mono ?_; rintro e w3 ⟨rfl, hg3⟩))
  all_goals
    have hg13 := ((Gr.drew W1 (fun _ => False)).trans hg2).trans hg3
    have hB3 := hB1.gr hg13 (fun e => e)
    have hrow3 := hg13.keep hrow (fun e => e)
    clear c0 c1 c2 c3 c4 c5 c6 c7 c8 r0 r1 r2
    obtain ⟨c0, c1, c2, c3, c4, c5, c6, c7, c8⟩ := hB3.facts
    obtain ⟨r0, r1, r2⟩ := three87 hrow3
    go_wp2_with fail
    go_region_with (first | (go_at_call 43; refine (hmay _).mono ?_; rintro e w4 ⟨rfl, hg4⟩))
  all_goals
    have hg14 := hg13.trans ((Gr.drew w3 (fun _ => False)).trans hg4)
    have hB4 := hB1.gr hg14 (fun e => e)
    clear c0 c1 c2 c3 c4 c5 c6 c7 c8 r0 r1 r2
    obtain ⟨c0, c1, c2, c3, c4, c5, c6, c7, c8⟩ := hB4.facts
    cases m
    all_goals
      go_wp2_with fail
      go_ret
      exact ⟨rfl, hg1.trans hg14⟩

set_option maxRecDepth 100000 in
set_option maxHeartbeats 1600000 in
theorem fault_pid (W : World) (kb g : Nat) (a c d : Int) (hK : Kd W kb) (hB : Bx W g 5 0 0 0 e0 a c d nl nl) (m : Bool)
    (hmay : ∀ w, Calls Tryz.prog 43 #[lf 5 0 0 0 e0 a c d] w fun e w' => e = .returned (.bool m) ∧ Gr (fun _ => False) w w') :
    Calls Tryz.prog 41 #[pt kb, pt g, .int .i64 1, .int .i64 1] W fun e w' => e = .returned (.int .i64 (okE m)) ∧ Gr (fun _ => False) W w' := by
  obtain ⟨c0, c1, c2, c3, c4, c5, c6, c7, c8⟩ := hB.facts
  obtain ⟨r0, r1, r2⟩ := hK.cells.2.2.2.2
  have hg := hB.lt
  have hkb := hK.lt
  go_enter Tryz.func41, Tryz.ntmps41
  go_wp2_with fail
  go_region
  all_goals
    generalize hW1 : (W.alloc (Obj.cells #[Value.func (Fn.func 42) #[] #[], Value.func (Fn.func 43) #[] #[], Value.func (Fn.func 44) #[] #[]] 87)).drew = W1
    have hg1 : Gr (fun _ => False) W W1 := hW1 ▸ (Gr.alloc _ _ _).trans (Gr.drew _ _)
    have hrow : W1.heap[W.heap.size]? = some (.cells #[fv 42, fv 43, fv 44] 87 (0, 0)) := hW1 ▸ (Gr.drew _ (fun _ => False)).keep (heap_alloc_new W _) (fun e => e)
    have hB1 := hB.gr hg1 (fun e => e)
    generalize W.heap.size = R at hrow ⊢
    clear c0 c1 c2 c3 c4 c5 c6 c7 c8 r0 r1 r2 hg hkb hW1 hK hB
    obtain ⟨c0, c1, c2, c3, c4, c5, c6, c7, c8⟩ := hB1.facts
    obtain ⟨r0, r1, r2⟩ := three87 hrow
    go_wp2_with fail
    go_region_with (first | (go_at_call 42; refine (withoutId_c _ _ _ _ _).mono ?_; rintro e w2 ⟨rfl, hg2⟩) | (go_at_call 75; refine (blank_c _ _).mono ?_; rintro e w3 ⟨rfl, hg3⟩))
  all_goals
    have hg13 := ((Gr.drew W1 (fun _ => False)).trans hg2).trans hg3
    have hB3 := hB1.gr hg13 (fun e => e)
    have hrow3 := hg13.keep hrow (fun e => e)
    clear c0 c1 c2 c3 c4 c5 c6 c7 c8 r0 r1 r2
    obtain ⟨c0, c1, c2, c3, c4, c5, c6, c7, c8⟩ := hB3.facts
    obtain ⟨r0, r1, r2⟩ := three87 hrow3
    go_wp2_with fail
    go_region_with (first | (go_at_call 43; refine (hmay _).mono ?_; rintro e w4 ⟨rfl, hg4⟩))
  all_goals
    have hg14 := hg13.trans ((Gr.drew w3 (fun _ => False)).trans hg4)
    have hB4 := hB1.gr hg14 (fun e => e)
    clear c0 c1 c2 c3 c4 c5 c6 c7 c8 r0 r1 r2
    obtain ⟨c0, c1, c2, c3, c4, c5, c6, c7, c8⟩ := hB4.facts
    cases m
    all_goals
      go_wp2_with fail
      go_ret
      exact ⟨rfl, hg1.trans hg14⟩
end Go.Proofs.YtdmichjhmfinpaaGreatDoor
