/-
  Carried over from another seat of ours (BC).
-/
import Derived.Test.YticgnaikbmnagaaBB
import Derived.Test.YticgnaikbmnagaaBA
set_option linter.unusedVariables false
set_option linter.unusedSimpArgs false
namespace Go.Proofs.Yticgnaikbmnagaa
open Go.RowKit Go.Maps

set_option maxRecDepth 100000 in
set_option maxHeartbeats 400000 in
theorem check_t (A : Nat → Prop) (W : World) (T : Tm) (v : Value) (n : Nat) (hrep : Rep A W T v) (hA : ∀ k, A k → k < W.heap.size) (hh : hgt T < 9223372036854775000)
    (hok : okT Pw stepW T 1 0) (hgo : goT stepW T 1 0 = .ok n) :
    Calls Try.prog 14 #[v] W fun e w' => e = .returned (.int .i64 0) ∧ Gr (fun _ => False) W w' := by
  have hw := fun w2 kb v hK (g : Gr (fun _ => False) W w2) (h : Rep A w2 T v) => weigh_t A w2 kb T v n hK h (fun k hk => by have := hA k hk; have := g.size; omega) hh hok hgo
  clear hok hgo
  replace hw := Lib.hid hw
  have hrepg := fun w2 (g : Gr (fun _ => False) W w2) => hrep.turn (A' := A) (W' := w2) (fun k hk _ => ⟨hk, g.block k (hA k hk) (fun e => e)⟩)
  obtain ⟨tk, tn, tx, ty, ts', ta, tc, td, a1, n1, c1, a2, n2, c2, rfl⟩ := hrep.agg
  replace hrepg := Lib.hid hrepg
  go_enter Try.func14, Try.ntmps14
  go_wp2_with fail
  go_region_with (first
    | (go_at_call 22; refine (makeKinds_c _).mono ?_; rintro e w2 ⟨rfl, hK2, hg2⟩; have hK3 : Kd w2 (W.heap.size + 1) := (by simpa using hK2); clear hK2; have hB2 : Bx w2 W.heap.size tk tn tx ty ts' ta tc td (.slice a1 n1 c1) (.slice a2 n2 c2) := ((Gr.drew _ (fun _ => False)).trans hg2).keep (heap_alloc_new W _) (fun e => e); obtain ⟨c0, c1', c2', c3, c4, c5, c6, c7, c8⟩ := hB2.facts)
    | (go_at_call 21; refine (hw.out w2 (W.heap.size + 1) _ hK3 (((Gr.alloc _ _ _).trans (Gr.drew _ _)).trans hg2) (hrepg.out _ (((Gr.alloc _ _ _).trans (Gr.drew _ _)).trans hg2))).mono ?_; rintro e' w3 ⟨rfl, hg3⟩)
    | fail)
  all_goals
    go_wp2_with fail
    go_ret
    exact ⟨rfl, (((Gr.alloc _ _ _).trans (Gr.drew _ _)).trans hg2).trans hg3⟩

theorem len0 {A : Nat → Prop} {W : World} {t : Lf} {bs : List Int} {l : List Tm} {v : Value} (h : Rep A W (.mk t bs l) v) : ∃ a1 c1 a2 c2, v = ts t.k t.n t.x t.y t.s t.a t.c t.d a1 bs.length c1 a2 l.length c2 := by
  obtain ⟨t', bs', l', a1, c1, a2, c2, e, rfl⟩ := h.ts
  cases e
  exact ⟨a1, c1, a2, c2, rfl⟩
theorem ok_int (n : Int) (hn : inR n = true) : FaultOk (.mk { k := 1, n := n } [] []) := by
  intro A W kb g o v d z hK hrep hns hd hz
  obtain ⟨a1, c1, a2, c2, rfl⟩ := len0 hrep
  exact fault_at1 W kb g o n 0 0 e0 0 0 0 a1 0 c1 a2 0 c2 hK hns _ (fun w => withoutN_g 1 n a1 0 c1 a2 0 c2 w) (fun w => blank_g 1 a1 c1 a2 c2 w) (fun w => by have := right_int_g n a1 c1 a2 c2 w; rwa [hn] at this) (by decide) d z hd hz
end Go.Proofs.Yticgnaikbmnagaa



