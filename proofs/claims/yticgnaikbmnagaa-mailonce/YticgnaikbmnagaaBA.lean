/-
  Carried over from another seat of ours (BA).
-/
import Derived.Test.YticgnaikbmnagaaAY
set_option linter.unusedVariables false
set_option linter.unusedSimpArgs false
namespace Go.Proofs.Yticgnaikbmnagaa
open Go.RowKit Go.Maps

abbrev ts (k n : Int) (x y : Nat) (s : ByteArray) (a c d : Int) (a1 : Option Addr) (n1 c1 : Nat) (a2 : Option Addr) (n2 c2 : Nat) : Value := tv k n x y s a c d (.slice a1 n1 c1) (.slice a2 n2 c2)
/-- Nine cells from a place on. -/
def Ns (W : World) (g o : Nat) (v : Value) : Prop := ∀ j u, (cellsOf v)[j]? = some u → W.cell? ⟨g, o + j, none⟩ = some u
theorem Ns.gr {W W' : World} {g o : Nat} {v : Value} (h : Ns W g o v) (t : Gr (fun _ => False) W W') : Ns W' g o v := fun j u hu => by
  have := h j u hu
  rw [World.cell?_of_block (w' := W') (w := W) (a := ⟨g, o + j, none⟩) (t.block g (World.block_lt_of_cell? W _ this) (fun e => e))]
  exact this
theorem Ns.facts {W : World} {g o : Nat} {k n : Int} {x y : Nat} {s : ByteArray} {a c d : Int} {bs l : Value} (h : Ns W g o (tv k n x y s a c d bs l)) :
    W.cell? ⟨g, o, none⟩ = some (.int .i64 k) ∧ W.cell? ⟨g, o + 1, none⟩ = some (.int .i64 n) ∧ W.cell? ⟨g, o + 2, none⟩ = some (.complex .f64 x y) ∧ W.cell? ⟨g, o + 3, none⟩ = some (.string s) ∧
    W.cell? ⟨g, o + 4, none⟩ = some (.int .i64 a) ∧ W.cell? ⟨g, o + 5, none⟩ = some (.int .u32 c) ∧ W.cell? ⟨g, o + 6, none⟩ = some (.int .u64 d) ∧ W.cell? ⟨g, o + 7, none⟩ = some bs ∧ W.cell? ⟨g, o + 8, none⟩ = some l :=
  ⟨h 0 _ rfl, h 1 _ rfl, h 2 _ rfl, h 3 _ rfl, h 4 _ rfl, h 5 _ rfl, h 6 _ rfl, h 7 _ rfl, h 8 _ rfl⟩
theorem Ns.lt {W : World} {g o : Nat} {k n : Int} {x y : Nat} {s : ByteArray} {a c d : Int} {bs l : Value} (h : Ns W g o (tv k n x y s a c d bs l)) : g < W.heap.size := World.block_lt_of_cell? W _ h.facts.1
set_option maxRecDepth 20000 in
set_option maxHeartbeats 800000 in
theorem blank_g (k : Int) (a1 : Option Addr) (c1 : Nat) (a2 : Option Addr) (c2 : Nat) (w : World) : Calls Try.prog 48 #[ts k 0 0 0 e0 0 0 0 a1 0 c1 a2 0 c2] w fun e w' => e = .returned (.bool true) ∧ Gr (fun _ => False) w w' := by
  go_enter Try.func48, Try.ntmps48
  go_wp2
  go_ret
  exact ⟨rfl, Gr.alloc _ _ _⟩
set_option maxRecDepth 20000 in
set_option maxHeartbeats 800000 in
theorem withoutN_g (k n : Int) (a1 : Option Addr) (n1 c1 : Nat) (a2 : Option Addr) (n2 c2 : Nat) (w : World) : Calls Try.prog 31 #[ts k n 0 0 e0 0 0 0 a1 n1 c1 a2 n2 c2] w fun e w' => e = .returned (ts k 0 0 0 e0 0 0 0 a1 n1 c1 a2 n2 c2) ∧ Gr (fun _ => False) w w' := by
  go_enter Try.func31, Try.ntmps31
  go_wp2
  exact bodyPost_ret (v := ts k 0 0 0 e0 0 0 0 a1 n1 c1 a2 n2 c2) (by simp [results, Try.results31, go_sem]) rfl ⟨rfl, (Gr.alloc _ _ _).trans (Gr.alloc _ _ _)⟩
set_option maxRecDepth 20000 in
set_option maxHeartbeats 800000 in
theorem right_int_g (n : Int) (a1 : Option Addr) (c1 : Nat) (a2 : Option Addr) (c2 : Nat) (w : World) : Calls Try.prog 32 #[ts 1 n 0 0 e0 0 0 0 a1 0 c1 a2 0 c2] w fun e w' => e = .returned (.bool (inR n)) ∧ Gr (fun _ => False) w w' := by
  go_enter Try.func32, Try.ntmps32
  go_wp2_with (first | (go_at_call 53; refine (inRange_c _ _).mono ?_; rintro e w1 ⟨rfl, rfl⟩))
  go_ret
  exact ⟨rfl, Gr.alloc _ _ _⟩
end Go.Proofs.Yticgnaikbmnagaa
/-
  What is wrong with a part of kind 1, wherever it stands: nothing, if it is right.
-/
namespace Go.Proofs.Yticgnaikbmnagaa
open Go.RowKit Go.Maps
set_option maxRecDepth 100000 in
set_option maxHeartbeats 1600000 in
theorem fault_at1 (W : World) (kb g o : Nat) (n : Int) (x y : Nat) (s : ByteArray) (a c d : Int) (a1 : Option Addr) (n1 c1 : Nat) (a2 : Option Addr) (n2 c2 : Nat) (hK : Kd W kb) (hB : Ns W g o (ts 1 n x y s a c d a1 n1 c1 a2 n2 c2)) (vr : Value)
    (hrest : ∀ w, Calls Try.prog 31 #[ts 1 n x y s a c d a1 n1 c1 a2 n2 c2] w fun e w' => e = .returned vr ∧ Gr (fun _ => False) w w')
    (hblank : ∀ w, Calls Try.prog 48 #[vr] w fun e w' => e = .returned (.bool true) ∧ Gr (fun _ => False) w w')
    (hmay : ∀ w, Calls Try.prog 32 #[ts 1 n x y s a c d a1 n1 c1 a2 n2 c2] w fun e w' => e = .returned (.bool true) ∧ Gr (fun _ => False) w w')
    (h256 : (n2 : Int) ≤ 256) (dd z : Int) (hdd : dd ≤ 24) (hz : z ≤ 4096) :
    Calls Try.prog 27 #[pt kb, ptr g o, .int .i64 dd, .int .i64 z] W fun e w' => e = .returned (.int .i64 0) ∧ Gr (fun _ => False) W w' := by
  obtain ⟨c0, c1', c2', c3, c4, c5, c6, c7, c8⟩ := hB.facts
  obtain ⟨r0, r1, r2⟩ := hK.cells.1
  have hg := hB.lt
  have hkb := hK.lt
  have q1 : ¬ 24 < dd := by omega
  have q2 : ¬ 4096 < z := by omega
  have q3 : ¬ (256 : Int) < (n2 : Int) := by omega
  clear hdd hz h256
  go_enter Try.func27, Try.ntmps27
  go_wp2_with fail
  go_region
  all_goals
    generalize hW1 : (W.alloc (Obj.cells #[Value.func (Fn.func 31) #[] #[], Value.func (Fn.func 32) #[] #[], fv 33] 67)).drew = W1
    have hg1 : Gr (fun _ => False) W W1 := hW1 ▸ (Gr.alloc _ _ _).trans (Gr.drew _ _)
    have hrow : W1.heap[W.heap.size]? = some (.cells #[fv 31, fv 32, fv 33] 67 (0, 0)) := hW1 ▸ (Gr.drew _ (fun _ => False)).keep (heap_alloc_new W _) (fun e => e)
    have hB1 := hB.gr hg1
    generalize W.heap.size = R at hrow ⊢
    clear c0 c1' c2' c3 c4 c5 c6 c7 c8 r0 r1 r2 hg hkb hW1 hK hB
    obtain ⟨c0, c1', c2', c3, c4, c5, c6, c7, c8⟩ := hB1.facts
    obtain ⟨r0, r1, r2⟩ := three87 hrow
    go_wp2_with fail
    go_region_with (first | (go_at_call 31; refine (hrest _).mono ?_; rintro e w2 ⟨rfl, hg2⟩) | (go_at_call 48; refine (hblank _).mono ?_; rintro e w3 ⟨rfl, hg3⟩) | fail)
  all_goals
    have hg13 := ((Gr.drew W1 (fun _ => False)).trans hg2).trans hg3
    have hB3 := hB1.gr hg13
    have hrow3 := hg13.keep hrow (fun e => e)
    clear c0 c1' c2' c3 c4 c5 c6 c7 c8 r0 r1 r2
    obtain ⟨c0, c1', c2', c3, c4, c5, c6, c7, c8⟩ := hB3.facts
    obtain ⟨r0, r1, r2⟩ := three87 hrow3
    go_wp2_with fail
    go_region_with (first | (go_at_call 32; refine (hmay _).mono ?_; rintro e w4 ⟨rfl, hg4⟩) | fail)
  all_goals
    have hg14 := hg13.trans ((Gr.drew w3 (fun _ => False)).trans hg4)
    have hB4 := hB1.gr hg14
    clear c0 c1' c2' c3 c4 c5 c6 c7 c8 r0 r1 r2
    obtain ⟨c0, c1', c2', c3, c4, c5, c6, c7, c8⟩ := hB4.facts
    go_wp2_with fail
    go_ret
    exact ⟨rfl, hg1.trans hg14⟩
end Go.Proofs.Yticgnaikbmnagaa
/-
  What is wrong with a part of kind 3, wherever it stands: nothing, if it is right.
-/
namespace Go.Proofs.Yticgnaikbmnagaa
open Go.RowKit Go.Maps
end Go.Proofs.Yticgnaikbmnagaa
/-
  What is wrong with a part of kind 6, wherever it stands: nothing, if it is right.
-/
namespace Go.Proofs.Yticgnaikbmnagaa
open Go.RowKit Go.Maps
end Go.Proofs.Yticgnaikbmnagaa
/-
  What is wrong with a part of kind 8, wherever it stands: nothing, if it is right.
-/
namespace Go.Proofs.Yticgnaikbmnagaa
open Go.RowKit Go.Maps
end Go.Proofs.Yticgnaikbmnagaa



