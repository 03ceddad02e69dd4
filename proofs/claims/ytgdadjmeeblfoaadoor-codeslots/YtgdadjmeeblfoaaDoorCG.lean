/-
  Heights at the examples: reach, through.
-/
import Derived.Test.YtgdadjmeeblfoaaDoorCF
set_option linter.unusedVariables false
set_option linter.unusedSimpArgs false
namespace Go.Proofs.YtgdadjmeeblfoaaDoor
open Go.RowKit Go.Maps
variable {W W' : World}
/-- Heights in their block. -/
def HbAt (W : World) (hb : Nat) (c : Array Value) : Prop := W.heap[hb]? = some (.cells c 3 (0, 0))
theorem HbAt.gr {hb : Nat} {c : Array Value} {S : Nat → Prop} (h : HbAt W hb c) (g : Gr S W W') (hs : ¬ S hb) : HbAt W' hb c := g.keep h hs
theorem HbAt.lt {hb : Nat} {c : Array Value} (h : HbAt W hb c) : hb < W.heap.size := (Array.getElem?_eq_some_iff.1 h).1
theorem HbAt.cell {hb : Nat} {c : Array Value} (h : HbAt W hb c) (i : Nat) : W.cell? ⟨hb, i, none⟩ = c[i]? := by simp [World.cell?, show W.heap[hb]? = _ from h]
theorem HbAt.fz {hb : Nat} {c : Array Value} (h : HbAt W hb c) (i : Nat) : W.frozen? ⟨hb, i, none⟩ = false := by simp [World.frozen?, show W.heap[hb]? = _ from h]
theorem HbAt.set {hb : Nat} {c : Array Value} (h : HbAt W hb c) (i : Nat) (v : Value) : HbAt (W.setCell ⟨hb, i, none⟩ v) hb (c.setIfInBounds i v) := by
  unfold HbAt World.setCell at *
  simp [Array.getElem?_modify, h]
theorem Lf1.gr {base : Nat} {v : Value} {l : List Int} {S : Nat → Prop} (h : Lf1 base W v l) (g : Gr S W W') (hs : ∀ k, base ≤ k → ¬ S k) : Lf1 base W' v l := ⟨ownsRow_gr h.1 g hs, Nat.le_trans h.2 g.size⟩
set_option maxRecDepth 100000 in
set_option maxHeartbeats 1600000 in
theorem reachA1 (W : World) (wb ib hb base : Nat) (lv : Value) (hW : WkAt W wb ib hb 1 lv) (hH : HbAt W hb #[.int .i64 (-1)]) (hL : Lf1 base W lv []) (h1 : wb < base) (h2 : hb < base) (h3 : wb ≠ hb) :
    Calls Tryd.prog 16 #[ptx wb 0, .int .i64 0, .int .i64 0] W fun e w' => e = .returned (.bool true) ∧ ∃ lv', WkAt w' wb ib hb 1 lv' ∧ HbAt w' hb #[.int .i64 (0)] ∧ Lf1 base w' lv' [0] ∧ Gr (fun k => k = wb ∨ k = hb ∨ lv.ownBlock = some k) W w' := by
  obtain ⟨⟨c0, c1, c2⟩, fz, hlt⟩ := hW.facts
  have hl := hH.lt
  have d0 : W.cell? ⟨hb, 0, none⟩ = some (.int .i64 (-1)) := hH.cell 0
  have df := hH.fz 0
  have gS : Gr (fun k => k = hb) W (W.setCell ⟨hb, 0, none⟩ (.int .i64 0)) := Gr.set _ _ _ rfl
  have hH1 : HbAt (W.setCell ⟨hb, 0, none⟩ (.int .i64 0)) hb #[.int .i64 (0)] := hH.set 0 _
  have hW1 : WkAt (W.setCell ⟨hb, 0, none⟩ (.int .i64 0)) wb ib hb 1 lv := hW.gr gS h3
  obtain ⟨⟨x0, x1, x2⟩, xf, xl⟩ := hW1.facts
  have hp := Lib.hid (hpush_c _ wb ib hb 1 base lv 0 hW1 (hL.gr gS (fun k hk e => by omega)) h1)
  have hl1 := hH1.lt
  replace hH1 := Lib.hid hH1
  replace hW1 := Lib.hid hW1
  have hob : Hid (∀ k, lv.ownBlock = some k → k < base → False) := fun k e h => by have := (ownsRow_lt hL.1 k e).1; omega
  clear hW hH hL
  go_enter Tryd.func16, Tryd.ntmps16
  go_wp2_with fail
  refine hp.out.mono ?_
  rintro e w1 ⟨rfl, lv', hW2, hL2, g2⟩
  have hH2 := hH1.out.gr g2 (fun e => by rcases e with e | e; exact h3 e.symm; exact hob.out hb e h2)
  obtain ⟨⟨y0, y1, y2⟩, yf, yl⟩ := hW2.facts
  have hl2 := hH2.lt
  have e0' : w1.cell? ⟨hb, 0, none⟩ = some (.int .i64 0) := hH2.cell 0
  replace hW2 := Lib.hid hW2
  replace hH2 := Lib.hid hH2
  replace hL2 := Lib.hid hL2
  go_wp2_with fail
  go_ret
  exact ⟨rfl, lv', hW2.out, hH2.out, hL2.out, (gS.mono (fun k _ e => .inr (.inl e))).trans (g2.mono (fun k _ e => by rcases e with e | e; exact .inl e; exact .inr (.inr e)))⟩
set_option maxRecDepth 100000 in
set_option maxHeartbeats 1600000 in
theorem reachA2 (W : World) (wb ib hb base : Nat) (lv : Value) (hW : WkAt W wb ib hb 2 lv) (hH : HbAt W hb #[.int .i64 (-1), .int .i64 (-1)]) (hL : Lf1 base W lv []) (h1 : wb < base) (h2 : hb < base) (h3 : wb ≠ hb) :
    Calls Tryd.prog 16 #[ptx wb 0, .int .i64 0, .int .i64 0] W fun e w' => e = .returned (.bool true) ∧ ∃ lv', WkAt w' wb ib hb 2 lv' ∧ HbAt w' hb #[.int .i64 (0), .int .i64 (-1)] ∧ Lf1 base w' lv' [0] ∧ Gr (fun k => k = wb ∨ k = hb ∨ lv.ownBlock = some k) W w' := by
  obtain ⟨⟨c0, c1, c2⟩, fz, hlt⟩ := hW.facts
  have hl := hH.lt
  have d0 : W.cell? ⟨hb, 0, none⟩ = some (.int .i64 (-1)) := hH.cell 0
  have df := hH.fz 0
  have gS : Gr (fun k => k = hb) W (W.setCell ⟨hb, 0, none⟩ (.int .i64 0)) := Gr.set _ _ _ rfl
  have hH1 : HbAt (W.setCell ⟨hb, 0, none⟩ (.int .i64 0)) hb #[.int .i64 (0), .int .i64 (-1)] := hH.set 0 _
  have hW1 : WkAt (W.setCell ⟨hb, 0, none⟩ (.int .i64 0)) wb ib hb 2 lv := hW.gr gS h3
  obtain ⟨⟨x0, x1, x2⟩, xf, xl⟩ := hW1.facts
  have hp := Lib.hid (hpush_c _ wb ib hb 2 base lv 0 hW1 (hL.gr gS (fun k hk e => by omega)) h1)
  have hl1 := hH1.lt
  replace hH1 := Lib.hid hH1
  replace hW1 := Lib.hid hW1
  have hob : Hid (∀ k, lv.ownBlock = some k → k < base → False) := fun k e h => by have := (ownsRow_lt hL.1 k e).1; omega
  clear hW hH hL
  go_enter Tryd.func16, Tryd.ntmps16
  go_wp2_with fail
  refine hp.out.mono ?_
  rintro e w1 ⟨rfl, lv', hW2, hL2, g2⟩
  have hH2 := hH1.out.gr g2 (fun e => by rcases e with e | e; exact h3 e.symm; exact hob.out hb e h2)
  obtain ⟨⟨y0, y1, y2⟩, yf, yl⟩ := hW2.facts
  have hl2 := hH2.lt
  have e0' : w1.cell? ⟨hb, 0, none⟩ = some (.int .i64 0) := hH2.cell 0
  replace hW2 := Lib.hid hW2
  replace hH2 := Lib.hid hH2
  replace hL2 := Lib.hid hL2
  go_wp2_with fail
  go_ret
  exact ⟨rfl, lv', hW2.out, hH2.out, hL2.out, (gS.mono (fun k _ e => .inr (.inl e))).trans (g2.mono (fun k _ e => by rcases e with e | e; exact .inl e; exact .inr (.inr e)))⟩
set_option maxRecDepth 100000 in
set_option maxHeartbeats 1600000 in
theorem reachB (W : World) (wb ib hb base : Nat) (lv : Value) (hW : WkAt W wb ib hb 2 lv) (hH : HbAt W hb #[.int .i64 (0), .int .i64 (-1)]) (hL : Lf1 base W lv []) (h1 : wb < base) (h2 : hb < base) (h3 : wb ≠ hb) :
    Calls Tryd.prog 16 #[ptx wb 0, .int .i64 1, .int .i64 1] W fun e w' => e = .returned (.bool true) ∧ ∃ lv', WkAt w' wb ib hb 2 lv' ∧ HbAt w' hb #[.int .i64 (0), .int .i64 (1)] ∧ Lf1 base w' lv' [1] ∧ Gr (fun k => k = wb ∨ k = hb ∨ lv.ownBlock = some k) W w' := by
  obtain ⟨⟨c0, c1, c2⟩, fz, hlt⟩ := hW.facts
  have hl := hH.lt
  have d0 : W.cell? ⟨hb, 1, none⟩ = some (.int .i64 (-1)) := hH.cell 1
  have df := hH.fz 1
  have gS : Gr (fun k => k = hb) W (W.setCell ⟨hb, 1, none⟩ (.int .i64 1)) := Gr.set _ _ _ rfl
  have hH1 : HbAt (W.setCell ⟨hb, 1, none⟩ (.int .i64 1)) hb #[.int .i64 (0), .int .i64 (1)] := hH.set 1 _
  have hW1 : WkAt (W.setCell ⟨hb, 1, none⟩ (.int .i64 1)) wb ib hb 2 lv := hW.gr gS h3
  obtain ⟨⟨x0, x1, x2⟩, xf, xl⟩ := hW1.facts
  have hp := Lib.hid (hpush_c _ wb ib hb 2 base lv 1 hW1 (hL.gr gS (fun k hk e => by omega)) h1)
  have hl1 := hH1.lt
  replace hH1 := Lib.hid hH1
  replace hW1 := Lib.hid hW1
  have hob : Hid (∀ k, lv.ownBlock = some k → k < base → False) := fun k e h => by have := (ownsRow_lt hL.1 k e).1; omega
  clear hW hH hL
  go_enter Tryd.func16, Tryd.ntmps16
  go_wp2_with fail
  refine hp.out.mono ?_
  rintro e w1 ⟨rfl, lv', hW2, hL2, g2⟩
  have hH2 := hH1.out.gr g2 (fun e => by rcases e with e | e; exact h3 e.symm; exact hob.out hb e h2)
  obtain ⟨⟨y0, y1, y2⟩, yf, yl⟩ := hW2.facts
  have hl2 := hH2.lt
  have e0' : w1.cell? ⟨hb, 1, none⟩ = some (.int .i64 1) := hH2.cell 1
  replace hW2 := Lib.hid hW2
  replace hH2 := Lib.hid hH2
  replace hL2 := Lib.hid hL2
  go_wp2_with fail
  go_ret
  exact ⟨rfl, lv', hW2.out, hH2.out, hL2.out, (gS.mono (fun k _ e => .inr (.inl e))).trans (g2.mono (fun k _ e => by rcases e with e | e; exact .inl e; exact .inr (.inr e)))⟩
set_option maxRecDepth 100000 in
set_option maxHeartbeats 1600000 in
theorem reachC (W : World) (wb ib hb : Nat) (lv : Value) (hW : WkAt W wb ib hb 2 lv) (hH : HbAt W hb #[.int .i64 0, .int .i64 1]) :
    Calls Tryd.prog 16 #[ptx wb 0, .int .i64 0, .int .i64 1] W fun e w' => e = .returned (.bool false) ∧ w' = W := by
  obtain ⟨⟨c0, c1, c2⟩, fz, hlt⟩ := hW.facts
  have hl := hH.lt
  have d0 : W.cell? ⟨hb, 0, none⟩ = some (.int .i64 0) := hH.cell 0
  clear hW hH
  go_enter Tryd.func16, Tryd.ntmps16
  go_wp2_with fail
  go_ret
  exact ⟨rfl, rfl⟩
set_option maxRecDepth 100000 in
set_option maxHeartbeats 1600000 in
theorem thr2 (W : World) (wb ib hb base : Nat) (lv : Value) (hW : WkAt W wb ib hb 2 lv) (hH : HbAt W hb #[.int .i64 (0), .int .i64 (1)]) (hI : InAt W ib 12 12 0 0) (hO : Ot W) :
    Calls Tryd.prog 19 #[ptx wb 0, .int .i64 1] W fun e w' => e = .returned (.bool true) ∧ Gr (fun _ => False) W w' := by
  have gA := Gr.alloc W (.cells #[.int .i64 0, .int .i64 0, .int .i64 0, .int .i64 0, .int .i64 1, .int .i64 0, .int .i64 0, .int .i64 0] 75) (fun _ => False)
  obtain ⟨⟨m0, m1, m2, m3⟩, m4, m5, m6, m7⟩ := eight_cells (heap_alloc_new W (.cells #[.int .i64 0, .int .i64 0, .int .i64 0, .int .i64 0, .int .i64 1, .int .i64 0, .int .i64 0, .int .i64 0] 75))
  obtain ⟨⟨c0, c1, c2⟩, fz, hlt⟩ := hW.facts
  have hil := hI.lt
  have h0l := hO.lt
  have hhl := hH.lt
  have i0 := hI.1.1
  obtain ⟨⟨o0, o1, o2, o3⟩, o4, o5, o6, o7⟩ := hO.2.2
  have hW1 := hW.gr gA (fun e => e)
  have hH1 := hH.gr gA (fun e => e)
  obtain ⟨⟨x0, x1, x2⟩, xf, xl⟩ := hW1.facts
  have d0 : (W.alloc (.cells #[.int .i64 0, .int .i64 0, .int .i64 0, .int .i64 0, .int .i64 1, .int .i64 0, .int .i64 0, .int .i64 0] 75)).cell? ⟨hb, 1, none⟩ = some (.int .i64 1) := hH1.cell 1
  have htk := Lib.hid (fun w (gw : Gr (fun _ => False) W w) => taken12 w ib 12 (hI.gr gw (fun e => e)) (hO.gr gw (fun e => e)))
  clear hW hH hI hO hW1 hH1
  go_enter Tryd.func19, Tryd.ntmps19
  go_wp2_with fail
  go_quiet (first | (go_at_call 25; exact Calls.quiet_of_same (htk.out _ (gA.trans (Gr.drewN _ _ _)))) | fail)
  go_wp2_with fail
  go_ret
  exact ⟨rfl, gA.trans (Gr.drewN _ _ _)⟩
set_option maxRecDepth 100000 in
set_option maxHeartbeats 1600000 in
theorem thr3 (W : World) (wb ib hb base : Nat) (lv : Value) (hW : WkAt W wb ib hb 1 lv) (hH : HbAt W hb #[.int .i64 (0)]) (hI : InAt W ib 0 12 0 0) (hO : Ot W) :
    Calls Tryd.prog 19 #[ptx wb 0, .int .i64 0] W fun e w' => e = .returned (.bool false) ∧ Gr (fun _ => False) W w' := by
  have gA := Gr.alloc W (.cells #[.int .i64 0, .int .i64 0, .int .i64 0, .int .i64 0, .int .i64 1, .int .i64 0, .int .i64 0, .int .i64 0] 75) (fun _ => False)
  obtain ⟨⟨m0, m1, m2, m3⟩, m4, m5, m6, m7⟩ := eight_cells (heap_alloc_new W (.cells #[.int .i64 0, .int .i64 0, .int .i64 0, .int .i64 0, .int .i64 1, .int .i64 0, .int .i64 0, .int .i64 0] 75))
  obtain ⟨⟨c0, c1, c2⟩, fz, hlt⟩ := hW.facts
  have hil := hI.lt
  have h0l := hO.lt
  have hhl := hH.lt
  have i0 := hI.1.1
  obtain ⟨⟨o0, o1, o2, o3⟩, o4, o5, o6, o7⟩ := hO.2.2
  have hW1 := hW.gr gA (fun e => e)
  have hH1 := hH.gr gA (fun e => e)
  obtain ⟨⟨x0, x1, x2⟩, xf, xl⟩ := hW1.facts
  have d0 : (W.alloc (.cells #[.int .i64 0, .int .i64 0, .int .i64 0, .int .i64 0, .int .i64 1, .int .i64 0, .int .i64 0, .int .i64 0] 75)).cell? ⟨hb, 0, none⟩ = some (.int .i64 0) := hH1.cell 0
  have htk := Lib.hid (fun w (gw : Gr (fun _ => False) W w) => taken12 w ib 0 (hI.gr gw (fun e => e)) (hO.gr gw (fun e => e)))
  clear hW hH hI hO hW1 hH1
  go_enter Tryd.func19, Tryd.ntmps19
  go_wp2_with fail
  go_quiet (first | (go_at_call 25; exact Calls.quiet_of_same (htk.out _ (gA.trans (Gr.drewN _ _ _)))) | fail)
  go_wp2_with fail
  go_ret
  exact ⟨rfl, gA.trans (Gr.drewN _ _ _)⟩
set_option maxRecDepth 100000 in
set_option maxHeartbeats 1600000 in
theorem thr4 (W : World) (wb ib hb base : Nat) (lv : Value) (hW : WkAt W wb ib hb 2 lv) (hH : HbAt W hb #[.int .i64 (0), .int .i64 (1)]) (hI : InAt W ib 12 9 0 0) (hO : Ot W) :
    Calls Tryd.prog 19 #[ptx wb 0, .int .i64 1] W fun e w' => e = .returned (.bool false) ∧ Gr (fun _ => False) W w' := by
  have gA := Gr.alloc W (.cells #[.int .i64 2, .int .i64 0, .int .i64 0, .int .i64 0, .int .i64 0, .int .i64 0, .int .i64 0, .int .i64 2] 75) (fun _ => False)
  obtain ⟨⟨m0, m1, m2, m3⟩, m4, m5, m6, m7⟩ := eight_cells (heap_alloc_new W (.cells #[.int .i64 2, .int .i64 0, .int .i64 0, .int .i64 0, .int .i64 0, .int .i64 0, .int .i64 0, .int .i64 2] 75))
  obtain ⟨⟨c0, c1, c2⟩, fz, hlt⟩ := hW.facts
  have hil := hI.lt
  have h0l := hO.lt
  have hhl := hH.lt
  have i0 := hI.1.1
  obtain ⟨⟨o0, o1, o2, o3⟩, o4, o5, o6, o7⟩ := hO.2.1
  have hW1 := hW.gr gA (fun e => e)
  have hH1 := hH.gr gA (fun e => e)
  obtain ⟨⟨x0, x1, x2⟩, xf, xl⟩ := hW1.facts
  have d0 : (W.alloc (.cells #[.int .i64 2, .int .i64 0, .int .i64 0, .int .i64 0, .int .i64 0, .int .i64 0, .int .i64 0, .int .i64 2] 75)).cell? ⟨hb, 1, none⟩ = some (.int .i64 1) := hH1.cell 1
  have htk := Lib.hid (fun w (gw : Gr (fun _ => False) W w) => taken9 w ib 12 (hI.gr gw (fun e => e)) (hO.gr gw (fun e => e)))
  have hre := Lib.hid (fun w (gw : Gr (fun _ => False) W w) => reachC w wb ib hb lv (hW.gr gw (fun e => e)) (hH.gr gw (fun e => e)))
  have j1 := cell_gr hI.1.2.1 gA (fun e => e)
  clear hW hH hI hO hW1 hH1
  go_enter Tryd.func19, Tryd.ntmps19
  go_wp2_with fail
  go_quiet (first | (go_at_call 25; exact Calls.quiet_of_same (htk.out _ (gA.trans (Gr.drewN _ _ _)))) | fail)
  go_wp2_with fail
  go_quiet (first | (go_at_call 16; exact quiet_same2 (hre.out _ (gA.trans (Gr.drewN _ _ _)))) | fail)
  go_wp2_with fail
  go_ret
  exact ⟨rfl, (gA.trans (Gr.drewN _ _ _)).trans (Gr.drewN _ _ _)⟩
end Go.Proofs.YtgdadjmeeblfoaaDoor
