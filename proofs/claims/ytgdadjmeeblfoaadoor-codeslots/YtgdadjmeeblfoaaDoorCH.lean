/-
  Heights at the examples: from the first instruction to the end.
-/
import Derived.Test.YtgdadjmeeblfoaaDoorCG
set_option linter.unusedVariables false
set_option linter.unusedSimpArgs false
namespace Go.Proofs.YtgdadjmeeblfoaaDoor
open Go.RowKit Go.Maps
variable {W W' : World}
def InvW1 (hb : Nat) (u : Value) (wr : World) : Prop := (u = .int .i64 0 ∧ HbAt wr hb #[.int .i64 (0)]) ∨ (u = .int .i64 1 ∧ HbAt wr hb #[.int .i64 (-1)])
set_option maxRecDepth 100000 in
set_option maxHeartbeats 3200000 in
theorem newWalk1 (W : World) (ib : Nat) (hib : ib < W.heap.size) : Calls Tryd.prog 12 #[.slice (some ⟨ib, 0, none⟩) 1 1] W fun e w' => ∃ wb hb base lv, e = .returned (ptx wb 0) ∧ WkAt w' wb ib hb 1 lv ∧ HbAt w' hb #[.int .i64 (0)] ∧ Lf1 base w' lv [0] ∧ (W.heap.size ≤ wb ∧ W.heap.size ≤ hb ∧ wb ≠ hb ∧ wb < base ∧ hb < base) ∧ Gr (fun _ => False) W w' := by
  obtain ⟨hb, hhb⟩ : ∃ hb, W.heap.size = hb := ⟨_, rfl⟩
  obtain ⟨wb, hwb⟩ : ∃ wb, hb + 1 = wb := ⟨_, rfl⟩
  have g1 := Gr.alloc W (.cells #[.int .i64 0] 3) (fun _ => False)
  have g2 := Gr.alloc (W.alloc (.cells #[.int .i64 0] 3)) (.cells (wkC ib hb 1 nlv) 56) (fun _ => False)
  have hz1 : (W.alloc (.cells #[.int .i64 0] 3)).heap.size = W.heap.size + 1 := by simp
  have b1 : HbAt ((W.alloc (.cells #[.int .i64 0] 3)).alloc (.cells (wkC ib hb 1 nlv) 56)) hb #[.int .i64 0] := g2.keep (by rw [← hhb]; exact heap_alloc_new W _) (fun e => e)
  have b2 : WkAt ((W.alloc (.cells #[.int .i64 0] 3)).alloc (.cells (wkC ib hb 1 nlv) 56)) wb ib hb 1 nlv := by
    have := heap_alloc_new (W.alloc (.cells #[.int .i64 0] 3)) (.cells (wkC ib hb 1 nlv) 56)
    rw [hz1, hhb, hwb] at this
    exact this
  have g12 := g1.trans g2
  have hmk : ∀ w, (Instr.makeSlice 42 (.int .i64 1) (.int .i64 1)).run Tryd.prog w = .ok (.slice (some ⟨w.heap.size, 0, none⟩) 1 1) (w.alloc (.cells #[.int .i64 0] 3)) := fun w => by kernel_rfl
  have hlw : hb < wb := by omega
  have hW2 := Lib.hid b2
  have hH2 := Lib.hid b1
  have hG2 := Lib.hid g12
  obtain ⟨⟨x0, x1, x2⟩, xf, xl⟩ := b2.facts
  clear b1 b2 g1 g2
  go_enter Tryd.func12, Tryd.ntmps12
  go_wp2_with fail
  clear x0 x1 x2 xf xl g12 hz1 hmk
  replace hhb := Lib.hid hhb
  replace hwb := Lib.hid hwb
  go_loopw [16] (fun u wr => InvW1 hb u wr ∧ Hid (WkAt wr wb ib hb 1 nlv) ∧ Gr (fun _ => False) W wr) (fun u _ => 1 - (intOf u).toNat)
  case atStart => exact ⟨.inl ⟨rfl, hH2.out⟩, hW2, hG2.out⟩
  case round =>
    obtain ⟨hi, hWr, hG⟩ := hrel
    obtain ⟨⟨y0, y1, y2⟩, yf, yl⟩ := hWr.out.facts
    have hsz := hG.size
    have hb1 := hhb.out
    have hb2 := hwb.out
    have lt1 : hb < wb := by omega
    have lt2 : W.heap.size ≤ hb := by omega
    clear hW2 hH2 hG2 hb1 hb2 hlw
    rcases hi with ⟨rfl, hHr⟩ | ⟨rfl, hHr⟩
    · have hHi : HbAt wr hb #[.int .i64 (0)] := hHr
      have q0 : wr.frozen? ⟨hb, 0, none⟩ = false := hHi.fz 0
      have q1 : wr.cell? ⟨hb, 0, none⟩ = some (.int .i64 0) := hHi.cell 0
      have hl2 := hHi.lt
      have gS : Gr (fun k => k = hb) wr (wr.setCell ⟨hb, 0, none⟩ (.int .i64 (-1))) := Gr.set _ _ _ rfl
      have hHn : Hid (HbAt (wr.setCell ⟨hb, 0, none⟩ (.int .i64 (-1))) hb #[.int .i64 (-1)]) := hHi.set 0 _
      have hWn := Lib.hid (hWr.out.gr gS (by omega))
      have hGn : Gr (fun _ => False) W (wr.setCell ⟨hb, 0, none⟩ (.int .i64 (-1))) := hG.trans' gS (fun k hk e => absurd e (by omega))
      clear hHi hHr hG
      go_wp2_with fail
      exact ⟨⟨.inr (⟨rfl, hHn.out⟩), hWn, hGn⟩, by simp [intOf]⟩
    · have hHi : HbAt wr hb #[.int .i64 (-1)] := hHr
      have hre := Lib.hid (reachA1 wr wb ib hb (wb + 1) nlv hWr.out hHi ⟨World.ownsRow_nil _ _ _ _, by omega⟩ (by omega) (by omega) (by omega))
      clear hHi hHr
      go_wp2_with fail
      refine hre.out.mono ?_
      rintro e w1 ⟨rfl, lv', hW3, hH3, hL3, g3⟩
      have G3 : Gr (fun _ => False) W w1 := hG.trans' g3 (fun k hk e => by rcases e with e | e | e; omega; omega; cases e)
      replace hW3 := Lib.hid hW3
      replace hH3 := Lib.hid hH3
      replace hL3 := Lib.hid hL3
      clear g3 y0 y1 y2 yf
      go_wp2_with fail
      go_ret
      exact ⟨wb, hb, wb + 1, lv', rfl, hW3.out, hH3.out, hL3.out, ⟨by omega, by omega, by omega, by omega, by omega⟩, G3⟩
def InvW2 (hb : Nat) (u : Value) (wr : World) : Prop := (u = .int .i64 0 ∧ HbAt wr hb #[.int .i64 (0), .int .i64 (0)]) ∨ (u = .int .i64 1 ∧ HbAt wr hb #[.int .i64 (-1), .int .i64 (0)]) ∨ (u = .int .i64 2 ∧ HbAt wr hb #[.int .i64 (-1), .int .i64 (-1)])
set_option maxRecDepth 100000 in
set_option maxHeartbeats 3200000 in
theorem newWalk2 (W : World) (ib : Nat) (hib : ib < W.heap.size) : Calls Tryd.prog 12 #[.slice (some ⟨ib, 0, none⟩) 2 2] W fun e w' => ∃ wb hb base lv, e = .returned (ptx wb 0) ∧ WkAt w' wb ib hb 2 lv ∧ HbAt w' hb #[.int .i64 (0), .int .i64 (-1)] ∧ Lf1 base w' lv [0] ∧ (W.heap.size ≤ wb ∧ W.heap.size ≤ hb ∧ wb ≠ hb ∧ wb < base ∧ hb < base) ∧ Gr (fun _ => False) W w' := by
  obtain ⟨hb, hhb⟩ : ∃ hb, W.heap.size = hb := ⟨_, rfl⟩
  obtain ⟨wb, hwb⟩ : ∃ wb, hb + 1 = wb := ⟨_, rfl⟩
  have g1 := Gr.alloc W (.cells #[.int .i64 0, .int .i64 0] 3) (fun _ => False)
  have g2 := Gr.alloc (W.alloc (.cells #[.int .i64 0, .int .i64 0] 3)) (.cells (wkC ib hb 2 nlv) 56) (fun _ => False)
  have hz1 : (W.alloc (.cells #[.int .i64 0, .int .i64 0] 3)).heap.size = W.heap.size + 1 := by simp
  have b1 : HbAt ((W.alloc (.cells #[.int .i64 0, .int .i64 0] 3)).alloc (.cells (wkC ib hb 2 nlv) 56)) hb #[.int .i64 0, .int .i64 0] := g2.keep (by rw [← hhb]; exact heap_alloc_new W _) (fun e => e)
  have b2 : WkAt ((W.alloc (.cells #[.int .i64 0, .int .i64 0] 3)).alloc (.cells (wkC ib hb 2 nlv) 56)) wb ib hb 2 nlv := by
    have := heap_alloc_new (W.alloc (.cells #[.int .i64 0, .int .i64 0] 3)) (.cells (wkC ib hb 2 nlv) 56)
    rw [hz1, hhb, hwb] at this
    exact this
  have g12 := g1.trans g2
  have hmk : ∀ w, (Instr.makeSlice 42 (.int .i64 2) (.int .i64 2)).run Tryd.prog w = .ok (.slice (some ⟨w.heap.size, 0, none⟩) 2 2) (w.alloc (.cells #[.int .i64 0, .int .i64 0] 3)) := fun w => by kernel_rfl
  have hlw : hb < wb := by omega
  have hW2 := Lib.hid b2
  have hH2 := Lib.hid b1
  have hG2 := Lib.hid g12
  obtain ⟨⟨x0, x1, x2⟩, xf, xl⟩ := b2.facts
  clear b1 b2 g1 g2
  go_enter Tryd.func12, Tryd.ntmps12
  go_wp2_with fail
  clear x0 x1 x2 xf xl g12 hz1 hmk
  replace hhb := Lib.hid hhb
  replace hwb := Lib.hid hwb
  go_loopw [16] (fun u wr => InvW2 hb u wr ∧ Hid (WkAt wr wb ib hb 2 nlv) ∧ Gr (fun _ => False) W wr) (fun u _ => 2 - (intOf u).toNat)
  case atStart => exact ⟨.inl ⟨rfl, hH2.out⟩, hW2, hG2.out⟩
  case round =>
    obtain ⟨hi, hWr, hG⟩ := hrel
    obtain ⟨⟨y0, y1, y2⟩, yf, yl⟩ := hWr.out.facts
    have hsz := hG.size
    have hb1 := hhb.out
    have hb2 := hwb.out
    have lt1 : hb < wb := by omega
    have lt2 : W.heap.size ≤ hb := by omega
    clear hW2 hH2 hG2 hb1 hb2 hlw
    rcases hi with ⟨rfl, hHr⟩ | ⟨rfl, hHr⟩ | ⟨rfl, hHr⟩
    · have hHi : HbAt wr hb #[.int .i64 (0), .int .i64 (0)] := hHr
      have q0 : wr.frozen? ⟨hb, 0, none⟩ = false := hHi.fz 0
      have q1 : wr.cell? ⟨hb, 0, none⟩ = some (.int .i64 0) := hHi.cell 0
      have hl2 := hHi.lt
      have gS : Gr (fun k => k = hb) wr (wr.setCell ⟨hb, 0, none⟩ (.int .i64 (-1))) := Gr.set _ _ _ rfl
      have hHn : Hid (HbAt (wr.setCell ⟨hb, 0, none⟩ (.int .i64 (-1))) hb #[.int .i64 (-1), .int .i64 (0)]) := hHi.set 0 _
      have hWn := Lib.hid (hWr.out.gr gS (by omega))
      have hGn : Gr (fun _ => False) W (wr.setCell ⟨hb, 0, none⟩ (.int .i64 (-1))) := hG.trans' gS (fun k hk e => absurd e (by omega))
      clear hHi hHr hG
      go_wp2_with fail
      exact ⟨⟨.inr (.inl ⟨rfl, hHn.out⟩), hWn, hGn⟩, by simp [intOf]⟩
    · have hHi : HbAt wr hb #[.int .i64 (-1), .int .i64 (0)] := hHr
      have q0 : wr.frozen? ⟨hb, 1, none⟩ = false := hHi.fz 1
      have q1 : wr.cell? ⟨hb, 1, none⟩ = some (.int .i64 0) := hHi.cell 1
      have hl2 := hHi.lt
      have gS : Gr (fun k => k = hb) wr (wr.setCell ⟨hb, 1, none⟩ (.int .i64 (-1))) := Gr.set _ _ _ rfl
      have hHn : Hid (HbAt (wr.setCell ⟨hb, 1, none⟩ (.int .i64 (-1))) hb #[.int .i64 (-1), .int .i64 (-1)]) := hHi.set 1 _
      have hWn := Lib.hid (hWr.out.gr gS (by omega))
      have hGn : Gr (fun _ => False) W (wr.setCell ⟨hb, 1, none⟩ (.int .i64 (-1))) := hG.trans' gS (fun k hk e => absurd e (by omega))
      clear hHi hHr hG
      go_wp2_with fail
      exact ⟨⟨.inr (.inr (⟨rfl, hHn.out⟩)), hWn, hGn⟩, by simp [intOf]⟩
    · have hHi : HbAt wr hb #[.int .i64 (-1), .int .i64 (-1)] := hHr
      have hre := Lib.hid (reachA2 wr wb ib hb (wb + 1) nlv hWr.out hHi ⟨World.ownsRow_nil _ _ _ _, by omega⟩ (by omega) (by omega) (by omega))
      clear hHi hHr
      go_wp2_with fail
      refine hre.out.mono ?_
      rintro e w1 ⟨rfl, lv', hW3, hH3, hL3, g3⟩
      have G3 : Gr (fun _ => False) W w1 := hG.trans' g3 (fun k hk e => by rcases e with e | e | e; omega; omega; cases e)
      replace hW3 := Lib.hid hW3
      replace hH3 := Lib.hid hH3
      replace hL3 := Lib.hid hL3
      clear g3 y0 y1 y2 yf
      go_wp2_with fail
      go_ret
      exact ⟨wb, hb, wb + 1, lv', rfl, hW3.out, hH3.out, hL3.out, ⟨by omega, by omega, by omega, by omega, by omega⟩, G3⟩
end Go.Proofs.YtgdadjmeeblfoaaDoor
