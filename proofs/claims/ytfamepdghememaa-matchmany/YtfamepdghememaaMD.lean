/-
  Carried over from another seat of ours (MD).
-/
import Derived.Test.YtfamepdghememaaBM
set_option linter.unusedVariables false
set_option linter.unusedSimpArgs false
namespace Go.Proofs.Ytfamepdghememaa
open Go.RowKit Go.Maps
variable {S S' Z G : Nat → Prop} {W W1 W' : World}

set_option maxRecDepth 20000 in
set_option maxHeartbeats 1000000 in
theorem list_t (A : Nat → Prop) (W : World) (l : List Tm) (a : Option Addr) (c : Nat) (vs : List Value) (hrow : RowT A W vs l.length (.slice a l.length c)) (hrs : Reps A W l vs) (hA : ∀ k, A k → k < W.heap.size) (ht : thin (.mk { k := 7 } [] l)) (hh : hgt (.mk { k := 7 } [] l) < 9223372036854775000)
    (hok : okT Pm stepW (.mk { k := 7 } [] l) 1 0) (n : Nat) (hgo : goT stepW (.mk { k := 7 } [] l) 1 0 = .ok n) :
    Calls Try.prog 9 #[.slice a l.length c] W fun e w' => ∃ v', e = .returned v' ∧ Rep (fun k => W.heap.size ≤ k) w' (.mk { k := 7 } [] l) v' ∧ Gr (fun _ => False) W w' := by
  have hrep : Rep A W (.mk { k := 7 } [] l) (tv 7 0 0 0 e0 0 0 0 nl (.slice a l.length c)) := ⟨nl, _, vs, rfl, .inl ⟨rfl, none, 0, rfl⟩, hrow, hrs⟩
  have ho := fun w (g : Gr (fun _ => False) W w) => own_t A w (.mk { k := 7 } [] l) _ (hrep.turn (A' := A) (W' := w) (fun k hk _ => ⟨hk, g.block k (hA k hk) (fun e => e)⟩)) (fun k hk => by have := hA k hk; have := g.size; omega) ht hh hok n hgo
  replace ho := Lib.hid (ho _ (Gr.alloc W (.cells #[.int .i64 0, .int .i64 0, .complex .f64 0 0, .string e0, .int .i64 0, .int .u32 0, .int .u64 0, nl, nl] 31) _))
  have hR : Bx (W.alloc (.cells #[.int .i64 0, .int .i64 0, .complex .f64 0 0, .string e0, .int .i64 0, .int .u32 0, .int .u64 0, nl, nl] 31)) W.heap.size 0 0 0 0 e0 0 0 0 nl nl := heap_alloc_new W _
  have g0 : Gr (fun _ => False) W (W.alloc (.cells #[.int .i64 0, .int .i64 0, .complex .f64 0 0, .string e0, .int .i64 0, .int .u32 0, .int .u64 0, nl, nl] 31)) := Gr.alloc _ _ _
  have hs0 : (W.alloc (.cells #[.int .i64 0, .int .i64 0, .complex .f64 0 0, .string e0, .int .i64 0, .int .u32 0, .int .u64 0, nl, nl] 31)).heap.size = W.heap.size + 1 := by simp
  replace hR := Lib.hid hR
  replace hs0 := Lib.hid hs0
  clear hrep hok hgo hrow hrs ht hh
  go_enter Try.func9, Try.ntmps9
  go_wp2_with fail
  refine (Hid.out ho).mono ?_
  rintro e w4 ⟨v4, rfl, hr4, g4⟩
  obtain ⟨rk, rn, rx, ry, rS, ra, rc', rd, b3, m3, d3, b4, m4, d4, rfl⟩ := hr4.agg
  have hR4 := hR.out.gr g4 (fun e => e)
  obtain ⟨q9, t9⟩ := hR4.set9 rk rn rx ry rS ra rc' rd (.slice b3 m3 d3) (.slice b4 m4 d4)
  have y0 := hR4.froz 0 (by decide)
  have y1 := hR4.froz 1 (by decide)
  have y2 := hR4.froz 2 (by decide)
  have y3 := hR4.froz 3 (by decide)
  have y4 := hR4.froz 4 (by decide)
  have y5 := hR4.froz 5 (by decide)
  have y6 := hR4.froz 6 (by decide)
  have y7 := hR4.froz 7 (by decide)
  have y8 := hR4.froz 8 (by decide)
  have hzf := hR4.facts
  obtain ⟨p0, p1, p2, p3, p4, p5, p6, p7, p8⟩ := q9.facts
  replace hr4 := Lib.hid hr4
  go_wp2
  refine bodyPost_ret (v := tv rk rn rx ry rS ra rc' rd (.slice b3 m3 d3) (.slice b4 m4 d4)) (by simp [results, Try.results9, go_sem, p0, p1, p2, p3, p4, p5, p6, p7, p8]) rfl ⟨_, rfl, ?_, (g0.trans g4).trans' t9 (fun i hi e => by omega)⟩
  have hs := hs0.out
  exact hr4.out.turn (fun k hk hlt => ⟨by omega, t9.block k hlt (by omega)⟩)

set_option maxRecDepth 20000 in
set_option maxHeartbeats 800000 in
theorem mkAtom_c (s : ByteArray) (w : World) : Calls Try.prog 7 #[.string s] w fun e w' => e = .returned (lf 3 0 0 0 s 0 0 0) ∧ Gr (fun _ => False) w w' := by
  go_enter Try.func7, Try.ntmps7
  go_wp2
  exact bodyPost_ret (v := lf 3 0 0 0 s 0 0 0) (by simp [results, Try.results7, go_sem]) rfl ⟨rfl, Gr.alloc _ _ _⟩
end Go.Proofs.Ytfamepdghememaa

