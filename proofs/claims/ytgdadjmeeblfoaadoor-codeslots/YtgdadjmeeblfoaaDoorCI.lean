/-
  Heights at the examples: through the first instruction.
-/
import Derived.Test.YtgdadjmeeblfoaaDoorCG
set_option linter.unusedVariables false
set_option linter.unusedSimpArgs false
namespace Go.Proofs.YtgdadjmeeblfoaaDoor
open Go.RowKit Go.Maps
variable {W W' : World}
set_option maxRecDepth 100000 in
set_option maxHeartbeats 1600000 in
theorem thr1 (W : World) (wb ib hb base : Nat) (lv : Value) (hW : WkAt W wb ib hb 2 lv) (hH : HbAt W hb #[.int .i64 (0), .int .i64 (-1)]) (hI : InAt W ib 0 1 1 1) (hO : Ot W) (hL : Lf1 base W lv []) (h1 : wb < base) (h2 : hb < base) (h3 : wb ≠ hb) :
    Calls Tryd.prog 19 #[ptx wb 0, .int .i64 0] W fun e w' => e = .returned (.bool true) ∧ ∃ lv', WkAt w' wb ib hb 2 lv' ∧ HbAt w' hb #[.int .i64 (0), .int .i64 (1)] ∧ Lf1 base w' lv' [1] ∧ Gr (fun k => k = wb ∨ k = hb ∨ base ≤ k) W w' := by
  have gA := Gr.alloc W (.cells #[.int .i64 0, .int .i64 0, .int .i64 0, .int .i64 1, .int .i64 0, .int .i64 1, .int .i64 0, .int .i64 1] 75) (fun _ => False)
  obtain ⟨⟨m0, m1, m2, m3⟩, m4, m5, m6, m7⟩ := eight_cells (heap_alloc_new W (.cells #[.int .i64 0, .int .i64 0, .int .i64 0, .int .i64 1, .int .i64 0, .int .i64 1, .int .i64 0, .int .i64 1] 75))
  obtain ⟨⟨c0, c1, c2⟩, fz, hlt⟩ := hW.facts
  have hil := hI.lt
  have h0l := hO.lt
  have hhl := hH.lt
  have i0 := hI.1.1
  obtain ⟨⟨o0, o1, o2, o3⟩, o4, o5, o6, o7⟩ := hO.1
  have hW1 := hW.gr gA (fun e => e)
  have hH1 := hH.gr gA (fun e => e)
  obtain ⟨⟨x0, x1, x2⟩, xf, xl⟩ := hW1.facts
  have d0 : (W.alloc (.cells #[.int .i64 0, .int .i64 0, .int .i64 0, .int .i64 1, .int .i64 0, .int .i64 1, .int .i64 0, .int .i64 1] 75)).cell? ⟨hb, 0, none⟩ = some (.int .i64 0) := hH1.cell 0
  have htk := Lib.hid (fun w (gw : Gr (fun _ => False) W w) => taken1 w ib 0 (hI.gr gw (fun e => e)) (hO.gr gw (fun e => e)))
  have ba1 : bits BinOp.and IntKind.i64 1 1 = 1 := by decide +kernel
  have ba2 : bits BinOp.and IntKind.i64 1 2 = 0 := by decide +kernel
  have hob : Hid (∀ k, lv.ownBlock = some k → base ≤ k ∧ k < W.heap.size) := fun k e => ownsRow_lt hL.1 k e
  have hre := Lib.hid (fun w (gw : Gr (fun _ => False) W w) => reachB w wb ib hb base lv (hW.gr gw (fun e => e)) (hH.gr gw (fun e => e)) (hL.gr gw (fun _ _ e => e)) h1 h2 h3)
  clear hW hH hI hO hW1 hH1
  go_enter Tryd.func19, Tryd.ntmps19
  go_wp2_with fail
  go_quiet (first | (go_at_call 25; exact Calls.quiet_of_same (htk.out _ (gA.trans (Gr.drewN _ _ _)))) | fail)
  go_wp2_with fail
  refine (hre.out _ (gA.trans (Gr.drewN _ _ _))).mono ?_
  rintro e w1 ⟨rfl, lv', hW2, hH2, hL2, g2⟩
  have gD : Gr (fun _ => False) W _ := gA.trans (Gr.drewN _ nq _)
  have G2 : Gr (fun k => k = wb ∨ k = hb ∨ base ≤ k) W w1 := (gD.mono (fun _ _ e => e.elim)).trans (g2.mono (fun k _ e => by rcases e with e | e | e; exact .inl e; exact .inr (.inl e); exact .inr (.inr (hob.out k e).1)))
  have hno : ¬ (W.heap.size = wb ∨ W.heap.size = hb ∨ lv.ownBlock = some W.heap.size) := fun e => by rcases e with e | e | e; omega; omega; have := (hob.out _ e).2; omega
  have n5 := cell_gr (cell_gr m5 (Gr.drewN _ nq (fun _ => False)) (fun e => e)) g2 hno
  have n7 := cell_gr (cell_gr m7 (Gr.drewN _ nq (fun _ => False)) (fun e => e)) g2 hno
  have hs2 : W.heap.size < w1.heap.size := by
    have := g2.size
    have h9 : (World.drewN (W.alloc (.cells #[.int .i64 0, .int .i64 0, .int .i64 0, .int .i64 1, .int .i64 0, .int .i64 1, .int .i64 0, .int .i64 1] 75)) nq).heap.size = W.heap.size + 1 := by simp [World.drewN]
    omega
  replace hW2 := Lib.hid hW2
  replace hH2 := Lib.hid hH2
  replace hL2 := Lib.hid hL2
  replace G2 := Lib.hid G2
  clear gD hno g2 m0 m1 m2 m3 m4 m5 m6 m7 x0 x1 x2 xf xl c0 c1 c2 fz o0 o1 o2 o3 o4 o5 o6 o7 d0 i0 hre htk hob gA hL
  generalize W.heap.size = rb at n5 n7 hs2 ⊢
  go_wp2_with fail
  go_quiet (fail)
  go_wp2_with fail
  go_ret
  exact ⟨rfl, lv', hW2.out.gr (Gr.drewN w1 _ (fun _ => False)) (fun e => e), hH2.out.gr (Gr.drewN w1 _ (fun _ => False)) (fun e => e), hL2.out.gr (Gr.drewN w1 _ (fun _ => False)) (fun _ _ e => e), G2.out.trans (Gr.drewN _ _ _)⟩
end Go.Proofs.YtgdadjmeeblfoaaDoor
