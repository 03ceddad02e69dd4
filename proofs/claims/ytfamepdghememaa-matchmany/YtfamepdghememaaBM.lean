/-
  Carried over from another seat of ours (BM).
-/
import Derived.Test.YtfamepdghememaaBL
import Derived.Test.YtfamepdghememaaBD
set_option linter.unusedVariables false
set_option linter.unusedSimpArgs false
namespace Go.Proofs.Ytfamepdghememaa
open Go.RowKit Go.Maps
variable {S S' : Nat → Prop} {W W1 W' : World}

set_option maxRecDepth 20000 in
set_option maxHeartbeats 1000000 in
theorem own_t (A : Nat → Prop) (W : World) (T : Tm) (v : Value) (hrep : Rep A W T v) (hA : ∀ k, A k → k < W.heap.size) (ht : thin T) (hh : hgt T < 9223372036854775000) (hok : okT Pm stepW T 1 0) (n : Nat) (hgo : goT stepW T 1 0 = .ok n) :
    Calls Try.prog 20 #[v] W fun e w' => ∃ v', e = .returned v' ∧ Rep (fun k => W.heap.size ≤ k) w' T v' ∧ Gr (fun _ => False) W w' := by
  have hsm := fun w (g : Gr (fun _ => False) W w) (hN : W.heap.size < w.heap.size) (hc : Ns w W.heap.size 0 v) => small_t (fun k => A k ∨ k = W.heap.size) w T W.heap.size 0
    ⟨.inr rfl, v, hrep.turn (A' := fun k => A k ∨ k = W.heap.size) (W' := w) (fun k hk _ => ⟨.inl hk, g.block k (hA k hk) (fun e => e)⟩), hc⟩ (fun k hk => by rcases hk with hk | rfl; have := hA k hk; omega; exact hN) hh hok n hgo
  have hfr := fun w (g : Gr (fun _ => False) W w) => fresh_t T ht A w v (hrep.turn (A' := A) (W' := w) (fun k hk _ => ⟨hk, g.block k (hA k hk) (fun e => e)⟩)) (fun k hk => by have := hA k hk; have := g.size; omega)
  obtain ⟨tk, tn, tx, ty, tS, ta, tc, td, a1, n1, c1, a2, n2, c2, rfl⟩ := hrep.agg
  clear hok hgo hrep
  replace hsm := Lib.hid hsm
  replace hfr := Lib.hid hfr
  go_enter Try.func20, Try.ntmps20
  go_wp2_with fail
  generalize hW2 : World.alloc (World.alloc W _) _ = W2
  have g2 : Gr (fun _ => False) W W2 := hW2 ▸ ((Gr.alloc _ _ _).trans (Gr.alloc _ _ _))
  have hBx : Bx W2 W.heap.size tk tn tx ty tS ta tc td (.slice a1 n1 c1) (.slice a2 n2 c2) := hW2 ▸ ((Gr.alloc _ _ (fun _ => False)).keep (heap_alloc_new W _) (fun e => e))
  have hRs : Bx W2 (W.heap.size + 1) 0 0 0 0 e0 0 0 0 nl nl := by
    have := heap_alloc_new (W.alloc (.cells #[.int .i64 tk, .int .i64 tn, .complex .f64 tx ty, .string tS, .int .i64 ta, .int .u32 tc, .int .u64 td, .slice a1 n1 c1, .slice a2 n2 c2] 31)) (.cells #[.int .i64 0, .int .i64 0, .complex .f64 0 0, .string e0, .int .i64 0, .int .u32 0, .int .u64 0, nl, nl] 31)
    rw [World.size_alloc] at this
    rw [← hW2]; exact this
  have hs2 : W2.heap.size = W.heap.size + 2 := by rw [← hW2]; simp
  clear hW2
  have hns : Ns W2 W.heap.size 0 (tv tk tn tx ty tS ta tc td (.slice a1 n1 c1) (.slice a2 n2 c2)) := fun j u hu => by
    have h := hBx
    unfold Bx at h
    simp only [World.cell?, h, Nat.zero_add]
    simpa [cellsOf] using hu
  refine (hsm.out W2 g2 (by omega) hns).mono ?_
  rintro e w3 ⟨rfl, g3⟩
  have hb3 := (hBx.gr g3 (fun e => e)).facts
  go_wp2_with fail
  refine (hfr.out w3 (g2.trans g3)).mono ?_
  rintro e w4 ⟨v4, rfl, hr4, g4⟩
  obtain ⟨rk, rn, rx, ry, rS, ra, rc', rd, b3, m3, d3, b4, m4, d4, rfl⟩ := hr4.agg
  have hR4 := hRs.gr (g3.trans g4) (fun e => e)
  obtain ⟨q9, t9⟩ := hR4.set9 rk rn rx ry rS ra rc' rd (.slice b3 m3 d3) (.slice b4 m4 d4)
  have y0 := hR4.froz 0 (by decide)
  have y1 := hR4.froz 1 (by decide)
  have y2 := hR4.froz 2 (by decide)
  have y3 := hR4.froz 3 (by decide)
  have y4 := hR4.froz 4 (by decide)
  have y5 := hR4.froz 5 (by decide)
  have y6 := hR4.froz 6 (by decide)
  have y7 := hR4.froz 7 (by decide)
  have y8 := hR4.froz 8 (by decide)
  have hzf := hR4.facts
  obtain ⟨p0, p1, p2, p3, p4, p5, p6, p7, p8⟩ := q9.facts
  have hs3 : W.heap.size + 2 ≤ w3.heap.size := by have := g3.size; omega
  clear hns hb3
  go_wp2
  refine bodyPost_ret (v := tv rk rn rx ry rS ra rc' rd (.slice b3 m3 d3) (.slice b4 m4 d4)) (by simp [results, Try.results20, go_sem, p0, p1, p2, p3, p4, p5, p6, p7, p8]) rfl ⟨_, rfl, ?_, (((g2.trans g3).trans g4).trans' t9 (fun i hi e => by omega))⟩
  exact hr4.turn (fun k hk hlt => ⟨by omega, t9.block k hlt (by omega)⟩)

end Go.Proofs.Ytfamepdghememaa



