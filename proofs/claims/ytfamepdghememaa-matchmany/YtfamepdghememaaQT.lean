/-
  Carried over from another seat of ours (QT).
-/
import Derived.Test.YtfamepdghememaaQS
set_option linter.unusedVariables false
set_option linter.unusedSimpArgs false
namespace Go.Proofs.Ytfamepdghememaa
open Go.RowKit Go.Maps Go.WideMaps
variable {S S' : Nat → Prop} {W W1 W' : World}
set_option maxRecDepth 20000 in
set_option maxHeartbeats 1000000 in
theorem tuple_t (A : Nat → Prop) (W : World) (l : List Tm) (a : Option Addr) (c : Nat) (vs : List Value) (hrow : RowT A W vs l.length (.slice a l.length c)) (hrs : Reps A W l vs) (hA : ∀ k, A k → k < W.heap.size) (ht : thin (.mk { k := 6 } [] l)) (hh : hgt (.mk { k := 6 } [] l) < 9223372036854775000)
    (hok : okT Pm stepW (.mk { k := 6 } [] l) 1 0) (n : Nat) (hgo : goT stepW (.mk { k := 6 } [] l) 1 0 = .ok n) :
    Calls Try.prog 10 #[.slice a l.length c] W fun e w' => ∃ v', e = .returned v' ∧ Rep (fun k => W.heap.size ≤ k) w' (.mk { k := 6 } [] l) v' ∧ Gr (fun _ => False) W w' := by
  have hrep : Rep A W (.mk { k := 6 } [] l) (tv 6 0 0 0 e0 0 0 0 nl (.slice a l.length c)) := ⟨nl, _, vs, rfl, .inl ⟨rfl, none, 0, rfl⟩, hrow, hrs⟩
  have ho := fun w (g : Gr (fun _ => False) W w) => own_t A w (.mk { k := 6 } [] l) _ (hrep.turn (A' := A) (W' := w) (fun k hk _ => ⟨hk, g.block k (hA k hk) (fun e => e)⟩)) (fun k hk => by have := hA k hk; have := g.size; omega) ht hh hok n hgo
  replace ho := Lib.hid (ho _ (Gr.alloc W (.cells #[.int .i64 0, .int .i64 0, .complex .f64 0 0, .string e0, .int .i64 0, .int .u32 0, .int .u64 0, nl, nl] 31) _))
  have hR : Bx (W.alloc (.cells #[.int .i64 0, .int .i64 0, .complex .f64 0 0, .string e0, .int .i64 0, .int .u32 0, .int .u64 0, nl, nl] 31)) W.heap.size 0 0 0 0 e0 0 0 0 nl nl := heap_alloc_new W _
  have g0 : Gr (fun _ => False) W (W.alloc (.cells #[.int .i64 0, .int .i64 0, .complex .f64 0 0, .string e0, .int .i64 0, .int .u32 0, .int .u64 0, nl, nl] 31)) := Gr.alloc _ _ _
  have hs0 : (W.alloc (.cells #[.int .i64 0, .int .i64 0, .complex .f64 0 0, .string e0, .int .i64 0, .int .u32 0, .int .u64 0, nl, nl] 31)).heap.size = W.heap.size + 1 := by simp
  replace hR := Lib.hid hR
  replace hs0 := Lib.hid hs0
  clear hrep hok hgo hrow hrs ht hh
  go_enter Try.func10, Try.ntmps10
  go_wp2_with fail
  refine (Hid.out ho).mono ?_
  rintro e w4 ⟨v4, rfl, hr4, g4⟩
  obtain ⟨rk, rn, rx, ry, rS, ra, rc', rd, b3, m3, d3, b4, m4, d4, rfl⟩ := hr4.agg
  have hR4 := hR.out.gr g4 (fun e => e)
  obtain ⟨q9, t9⟩ := hR4.set9 rk rn rx ry rS ra rc' rd (.slice b3 m3 d3) (.slice b4 m4 d4)
  have y0 := hR4.froz 0 (by decide)
  have y1 := hR4.froz 1 (by decide)
  have y2 := hR4.froz 2 (by decide)
  have y3 := hR4.froz 3 (by decide)
  have y4 := hR4.froz 4 (by decide)
  have y5 := hR4.froz 5 (by decide)
  have y6 := hR4.froz 6 (by decide)
  have y7 := hR4.froz 7 (by decide)
  have y8 := hR4.froz 8 (by decide)
  have hzf := hR4.facts
  obtain ⟨p0, p1, p2, p3, p4, p5, p6, p7, p8⟩ := q9.facts
  replace hr4 := Lib.hid hr4
  go_wp2
  refine bodyPost_ret (v := tv rk rn rx ry rS ra rc' rd (.slice b3 m3 d3) (.slice b4 m4 d4)) (by simp [results, Try.results10, go_sem, p0, p1, p2, p3, p4, p5, p6, p7, p8]) rfl ⟨_, rfl, ?_, (g0.trans g4).trans' t9 (fun i hi e => by omega)⟩
  have hs := hs0.out
  exact hr4.out.turn (fun k hk hlt => ⟨by omega, t9.block k hlt (by omega)⟩)

set_option maxRecDepth 20000 in
set_option maxHeartbeats 800000 in
theorem v_c (s : ByteArray) (w : World) : Calls Try.prog 5 #[.string s] w fun e w' => e = .returned (lf 9 0 0 0 s 0 0 0) ∧ Gr (fun _ => False) w w' := by
  go_enter Try.func5, Try.ntmps5
  go_wp2
  exact bodyPost_ret (v := lf 9 0 0 0 s 0 0 0) (by simp [results, Try.results5, go_sem]) rfl ⟨rfl, Gr.alloc _ _ _⟩
set_option maxRecDepth 20000 in
set_option maxHeartbeats 800000 in
theorem int_c (n : Int) (w : World) : Calls Try.prog 6 #[.int .i64 n] w fun e w' => e = .returned (lf 1 n 0 0 e0 0 0 0) ∧ Gr (fun _ => False) w w' := by
  go_enter Try.func6, Try.ntmps6
  go_wp2
  exact bodyPost_ret (v := lf 1 n 0 0 e0 0 0 0) (by simp [results, Try.results6, go_sem]) rfl ⟨rfl, Gr.alloc _ _ _⟩

theorem okT_leaves (k : Int) (l : List Lf) (hn : l.length ≤ 256) : okT Pm stepW (.mk { k := k } [] (leafs l)) 1 0 := by
  refine ⟨⟨by decide, by simp [lenB]⟩, fun s' hs' => ?_⟩
  have e1 : s' = 1 := by simp [stepW, lenB] at hs'; omega
  subst e1
  exact okL_leaves Pm _ _ _ (fun t ht z' hz' => ⟨by decide, by simp [lenB]; omega⟩)
theorem goT_leaves (k : Int) (l : List Lf) : goT stepW (.mk { k := k } [] (leafs l)) 1 0 = .ok (1 + l.length) := by
  rw [goT]
  show goL stepW (leafs l) (1 + 1) (0 + 1 + 0) = _
  rw [goL_leaves]
theorem hgtT_leaves (k : Int) (l : List Lf) (hn : l.length ≤ 256) : hgt (.mk { k := k } [] (leafs l)) < 9223372036854775000 := by
  have h1 := hgt_leaves l
  have h2 : (leafs l).length = l.length := by simp
  rw [hgt, h2]; show hgtL (l.map fun t => Tm.mk t [] []) + l.length + 1 < _; omega
theorem thinT_leaves (k : Int) (l : List Lf) (hn : l.length ≤ 256) : thin (.mk { k := k } [] (leafs l)) := ⟨by simp, by simp; omega, thin_leaves l⟩
/-- Two parts in a row of their own, made a tuple. -/
theorem pair_t (W : World) (p q : Lf) : Calls Try.prog 10 #[.slice (some ⟨W.heap.size, 0, none⟩) 2 2] (W.alloc (.cells #[.int .i64 p.k, .int .i64 p.n, .complex .f64 p.x p.y, .string p.s, .int .i64 p.a, .int .u32 p.c, .int .u64 p.d, nl, nl, .int .i64 q.k, .int .i64 q.n, .complex .f64 q.x q.y, .string q.s, .int .i64 q.a, .int .u32 q.c, .int .u64 q.d, nl, nl] 31)) fun e w' => ∃ v', e = .returned v' ∧ Rep (fun k => W.heap.size ≤ k) w' (.mk { k := 6 } [] [.mk p [] [], .mk q [] []]) v' ∧ Gr (fun _ => False) W w' := by
  have h := tuple_t (fun k => k = W.heap.size) (W.alloc (.cells #[.int .i64 p.k, .int .i64 p.n, .complex .f64 p.x p.y, .string p.s, .int .i64 p.a, .int .u32 p.c, .int .u64 p.d, nl, nl, .int .i64 q.k, .int .i64 q.n, .complex .f64 q.x q.y, .string q.s, .int .i64 q.a, .int .u32 q.c, .int .u64 q.d, nl, nl] 31)) (leafs [p, q]) (some ⟨W.heap.size, 0, none⟩) 2 [lv p none 0 none 0, lv q none 0 none 0] (.inr ⟨W.heap.size, 2, _, rfl, rfl, heap_alloc_new W _, by simp, rfl⟩) ⟨_, _, rfl, leaf_rep _ _ _ _ _ _ _, _, _, rfl, leaf_rep _ _ _ _ _ _ _, rfl⟩ (fun k hk => by rw [World.size_alloc]; omega) (thinT_leaves 6 [p, q] (by simp)) (hgtT_leaves 6 [p, q] (by simp)) (okT_leaves 6 [p, q] (by simp)) _ (goT_leaves 6 [p, q])
  refine h.mono (fun e w' ⟨v', h1, h2, h3⟩ => ⟨v', h1, h2.turn (fun k hk hlt => ⟨by rw [World.size_alloc] at hk; omega, rfl⟩), (Gr.alloc _ _ _).trans h3⟩)
end Go.Proofs.Ytfamepdghememaa

