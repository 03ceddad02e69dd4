/-
  The checks at the examples' instructions.
-/
import Derived.Test.YtgdadjmeeblfoaaDoorCC
import Derived.BigQuiet
set_option linter.unusedVariables false
set_option linter.unusedSimpArgs false
namespace Go.Proofs.YtgdadjmeeblfoaaDoor
open Go.RowKit Go.Maps
variable {W W' : World}
theorem Gr.drewN (W : World) (m : Nat) (S : Nat → Prop) : Gr S W (W.drewN m) := ⟨rfl, rfl, rfl, Nat.le_refl _, fun _ _ _ => rfl⟩
abbrev ptx (g o : Nat) : Value := .pointer (some ⟨g, o, none⟩)
abbrev fB : ByteArray := ⟨#[102]⟩
/-- A function without arguments in its cells. -/
def FnAt (W : World) (fb ib n : Nat) : Prop := W.cell? ⟨fb, 0, none⟩ = some (.string fB) ∧ W.cell? ⟨fb, 1, none⟩ = some (.int .i64 0) ∧ W.cell? ⟨fb, 2, none⟩ = some (.int .i64 0) ∧ W.cell? ⟨fb, 3, none⟩ = some (.slice (some ⟨ib, 0, none⟩) n n)
theorem FnAt.gr {fb ib n : Nat} {S : Nat → Prop} (h : FnAt W fb ib n) (gr : Gr S W W') (hs : ¬ S fb) : FnAt W' fb ib n := by
  obtain ⟨h0, h1, h2, h3⟩ := h
  exact ⟨cell_gr h0 gr hs, cell_gr h1 gr hs, cell_gr h2 gr hs, cell_gr h3 gr hs⟩
theorem FnAt.lt {fb ib n : Nat} (h : FnAt W fb ib n) : fb < W.heap.size := World.block_lt_of_cell? _ _ h.1
theorem eight_cells {w : World} {b : Nat} {x0 x1 x2 x3 x4 x5 x6 x7 : Value} {t : TypeId} {f : Nat × Nat} (h : w.heap[b]? = some (.cells #[x0, x1, x2, x3, x4, x5, x6, x7] t f)) :
    (w.cell? ⟨b, 0, none⟩ = some x0 ∧ w.cell? ⟨b, 1, none⟩ = some x1 ∧ w.cell? ⟨b, 2, none⟩ = some x2 ∧ w.cell? ⟨b, 3, none⟩ = some x3) ∧ (w.cell? ⟨b, 4, none⟩ = some x4 ∧ w.cell? ⟨b, 5, none⟩ = some x5 ∧ w.cell? ⟨b, 6, none⟩ = some x6 ∧ w.cell? ⟨b, 7, none⟩ = some x7) := by
  simp [World.cell?, h]
set_option maxRecDepth 100000 in
set_option maxHeartbeats 1600000 in
theorem fields12 (W : World) (fb ib m o : Nat) (hF : FnAt W fb ib m) (hI : InAt W ib o 12 0 0) (hO : Ot W) : Calls Tryd.prog 21 #[ptx fb 0, ptx ib o] W fun e w' => e = .returned (.bool true) ∧ Gr (fun _ => False) W w' := by
  have hfl := hF.lt
  have hil := hI.lt
  have h0l := hO.lt
  have gA := Gr.alloc W (.cells #[.int .i64 0, .int .i64 0, .int .i64 0, .int .i64 0, .int .i64 1, .int .i64 0, .int .i64 0, .int .i64 0] 75) (fun _ => False)
  obtain ⟨⟨m0, m1, m2, m3⟩, m4, m5, m6, m7⟩ := eight_cells (heap_alloc_new W (.cells #[.int .i64 0, .int .i64 0, .int .i64 0, .int .i64 0, .int .i64 1, .int .i64 0, .int .i64 0, .int .i64 0] 75))
  obtain ⟨⟨o0, o1, o2, o3⟩, o4, o5, o6, o7⟩ := hO.2.2
  have hz := Lib.hid (fun w (gw : Gr (fun _ => False) W w) => zero_c w ib (o + 3) (hI.2.gr gw (fun e => e)))
  obtain ⟨f0, f1, f2, f3⟩ := hF.gr gA (fun e => e)
  obtain ⟨⟨i0, i1, i2⟩, hT⟩ := hI
  have j0 := cell_gr i0 gA (fun e => e)
  have j1 := cell_gr i1 gA (fun e => e)
  have j2 := cell_gr i2 gA (fun e => e)
  clear hT hF hO
  go_enter Tryd.func21, Tryd.ntmps21
  go_wp2_with fail
  go_quiet (fail)
  go_wp2_with fail
  go_quiet (fail)
  go_wp2_with fail
  refine (hz.out _ (gA.trans (Gr.drewN _ _ _))).mono ?_
  rintro e w1 ⟨rfl, g1⟩
  have G1 : Gr (fun _ => False) W w1 := (gA.trans (Gr.drewN _ _ _)).trans g1
  go_wp2_with fail
  go_ret
  exact ⟨rfl, G1⟩
set_option maxRecDepth 100000 in
set_option maxHeartbeats 1600000 in
theorem fields1 (W : World) (fb ib m o : Nat) (hF : FnAt W fb ib m) (hI : InAt W ib o 1 1 1) (hO : Ot W) : Calls Tryd.prog 21 #[ptx fb 0, ptx ib o] W fun e w' => e = .returned (.bool true) ∧ Gr (fun _ => False) W w' := by
  have hfl := hF.lt
  have hil := hI.lt
  have h0l := hO.lt
  have gA := Gr.alloc W (.cells #[.int .i64 0, .int .i64 0, .int .i64 0, .int .i64 1, .int .i64 0, .int .i64 1, .int .i64 0, .int .i64 1] 75) (fun _ => False)
  obtain ⟨⟨m0, m1, m2, m3⟩, m4, m5, m6, m7⟩ := eight_cells (heap_alloc_new W (.cells #[.int .i64 0, .int .i64 0, .int .i64 0, .int .i64 1, .int .i64 0, .int .i64 1, .int .i64 0, .int .i64 1] 75))
  obtain ⟨⟨o0, o1, o2, o3⟩, o4, o5, o6, o7⟩ := hO.1
  have hck := Lib.hid (fun w => ckInt w)
  obtain ⟨f0, f1, f2, f3⟩ := hF.gr gA (fun e => e)
  obtain ⟨⟨i0, i1, i2⟩, hT⟩ := hI
  obtain ⟨t0, t1, t2, t3, t4, t5, t6, t7, t8⟩ := hT.gr gA (fun e => e)
  have j0 := cell_gr i0 gA (fun e => e)
  have j1 := cell_gr i1 gA (fun e => e)
  have j2 := cell_gr i2 gA (fun e => e)
  clear hT hF hO
  go_enter Tryd.func21, Tryd.ntmps21
  go_wp2_with fail
  go_quiet (fail)
  go_wp2_with fail
  go_quiet (fail)
  go_wp2_with fail
  refine (hck.out _).mono ?_
  rintro e w1 ⟨rfl, g1⟩
  have G1 : Gr (fun _ => False) W w1 := (gA.trans (Gr.drewN _ _ _)).trans g1
  go_wp2_with fail
  go_ret
  exact ⟨rfl, G1⟩
set_option maxRecDepth 100000 in
set_option maxHeartbeats 1600000 in
theorem fields9 (W : World) (fb ib m o : Nat) (hF : FnAt W fb ib m) (hI : InAt W ib o 9 0 0) (hO : Ot W) : Calls Tryd.prog 21 #[ptx fb 0, ptx ib o] W fun e w' => e = .returned (.bool true) ∧ Gr (fun _ => False) W w' := by
  have hfl := hF.lt
  have hil := hI.lt
  have h0l := hO.lt
  have gA := Gr.alloc W (.cells #[.int .i64 2, .int .i64 0, .int .i64 0, .int .i64 0, .int .i64 0, .int .i64 0, .int .i64 0, .int .i64 2] 75) (fun _ => False)
  obtain ⟨⟨m0, m1, m2, m3⟩, m4, m5, m6, m7⟩ := eight_cells (heap_alloc_new W (.cells #[.int .i64 2, .int .i64 0, .int .i64 0, .int .i64 0, .int .i64 0, .int .i64 0, .int .i64 0, .int .i64 2] 75))
  obtain ⟨⟨o0, o1, o2, o3⟩, o4, o5, o6, o7⟩ := hO.2.1
  have hz := Lib.hid (fun w (gw : Gr (fun _ => False) W w) => zero_c w ib (o + 3) (hI.2.gr gw (fun e => e)))
  obtain ⟨f0, f1, f2, f3⟩ := hF.gr gA (fun e => e)
  obtain ⟨⟨i0, i1, i2⟩, hT⟩ := hI
  have j0 := cell_gr i0 gA (fun e => e)
  have j1 := cell_gr i1 gA (fun e => e)
  have j2 := cell_gr i2 gA (fun e => e)
  clear hT hF hO
  go_enter Tryd.func21, Tryd.ntmps21
  go_wp2_with fail
  go_quiet (fail)
  go_wp2_with fail
  go_quiet (fail)
  go_wp2_with fail
  refine (hz.out _ (gA.trans (Gr.drewN _ _ _))).mono ?_
  rintro e w1 ⟨rfl, g1⟩
  have G1 : Gr (fun _ => False) W w1 := (gA.trans (Gr.drewN _ _ _)).trans g1
  go_wp2_with fail
  go_ret
  exact ⟨rfl, G1⟩
end Go.Proofs.YtgdadjmeeblfoaaDoor
