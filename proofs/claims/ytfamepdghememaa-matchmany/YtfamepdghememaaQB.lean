/-
  Carried over from another seat of ours (QB).
-/
import Derived.Test.YtfamepdghememaaQA
set_option linter.unusedVariables false
set_option linter.unusedSimpArgs false
namespace Go.Proofs.Ytfamepdghememaa
open Go.RowKit Go.Maps
attribute [local go_sem] Oper.semAt_some
abbrev vr (s : ByteArray) : Tm := .mk { k := 9, s := s } [] []
abbrev it (n : Int) : Tm := .mk { k := 1, n := n } [] []
theorem eqZ (w : World) : (binOp .eql 24 (.complex .f64 0 0) (.complex .f64 0 0)).run Try.prog w = .ok (.bool true) w := by kernel_rfl
theorem eqI (w : World) : (binOp .eql 28 (.agg #[.int .i64 0, .int .u32 0, .int .u64 0]) (.agg #[.int .i64 0, .int .u32 0, .int .u64 0])).run Try.prog w = .ok (.bool true) w := by kernel_rfl
set_option maxRecDepth 20000 in
set_option maxHeartbeats 400000 in
theorem bare_c (W : World) (g o : Nat) (s : ByteArray) (k : Int) (a1 : Option Addr) (c1 : Nat) (a2 : Option Addr) (c2 : Nat) (h : Ns W g o (ts k 0 0 0 s 0 0 0 a1 0 c1 a2 0 c2)) : Calls Try.prog 60 #[ptr g o] W fun e w' => e = .returned (.bool true) ∧ Gr (fun _ => False) W w' := by
  obtain ⟨f0, f1, f2, f3, f4, f5, f6, f7, f8⟩ := h.facts
  have hl := h.lt
  have hZ := eqZ W
  have hI := eqI W
  go_enter Try.func60, Try.ntmps60
  go_wp2
  go_ret
  exact ⟨rfl, Gr.refl _ _⟩
/-- fault finds nothing wrong with the tree's first part. -/
def FaultP (T : Tm) : Prop := ∀ (A : Nat → Prop) (W : World) (g o : Nat) (v : Value), Rep A W T v → (∀ k, A k → k < W.heap.size) → Ns W g o v →
  Calls Try.prog 37 #[ptr g o] W fun e w' => e = .returned (.int .i64 0) ∧ Gr (fun _ => False) W w'
theorem leaf_v {A : Nat → Prop} {W : World} {t : Lf} {v : Value} (h : Rep A W (.mk t [] []) v) : ∃ a1 c1 a2 c2, v = ts t.k t.n t.x t.y t.s t.a t.c t.d a1 0 c1 a2 0 c2 := by
  obtain ⟨t', bs, l, a1, c1, a2, c2, e, rfl⟩ := h.ts
  cases e
  exact ⟨a1, c1, a2, c2, rfl⟩
theorem leaf_rep (A : Nat → Prop) (W : World) (t : Lf) (a1 : Option Addr) (c1 : Nat) (a2 : Option Addr) (c2 : Nat) : Rep A W (.mk t [] []) (ts t.k t.n t.x t.y t.s t.a t.c t.d a1 0 c1 a2 0 c2) := ⟨_, _, [], rfl, .inl ⟨rfl, _, _, rfl⟩, .inl ⟨rfl, _, _, rfl⟩, rfl⟩
set_option maxRecDepth 20000 in
set_option maxHeartbeats 400000 in
theorem fault_var (s : ByteArray) (b : Bool) (hs : isVar s = b) (W : World) (g o : Nat) (a1 : Option Addr) (c1 : Nat) (a2 : Option Addr) (c2 : Nat) (h : Ns W g o (ts 9 0 0 0 s 0 0 0 a1 0 c1 a2 0 c2)) : Calls Try.prog 37 #[ptr g o] W fun e w' => e = .returned (.int .i64 (if b = true then 0 else 50)) ∧ Gr (fun _ => False) W w' := by
  have hb := Lib.hid (bare_c W g o s 9 a1 c1 a2 c2 h)
  have hn := Lib.hid (fun w => name_c s w)
  rw [hs] at hn
  have H := Lib.hid h
  obtain ⟨f0, f1, f2, f3, f4, f5, f6, f7, f8⟩ := h.facts
  have hl := h.lt
  clear h hs
  cases b
  all_goals
    go_enter Try.func37, Try.ntmps37
    go_wp2_with fail
    refine hb.out.mono ?_
    rintro e w1 ⟨rfl, g1⟩
    obtain ⟨f0, f1, f2, f3, f4, f5, f6, f7, f8⟩ := (H.out.gr g1).facts
    have hl := (H.out.gr g1).lt
    go_wp2_with fail
    refine (hn.out _).mono ?_
    rintro e w2 ⟨rfl, rfl⟩
    go_wp2_with fail
    go_ret
    exact ⟨rfl, g1⟩
theorem faultP_var (s : ByteArray) (hs : isVar s = true) : FaultP (vr s) := by
  intro A W g o v hr hA hn
  obtain ⟨a1, c1, a2, c2, rfl⟩ := leaf_v hr
  exact fault_var s true hs W g o a1 c1 a2 c2 hn
set_option maxRecDepth 20000 in
set_option maxHeartbeats 400000 in
theorem fault_leaf (W : World) (g o : Nat) (k n : Int) (x y : Nat) (s : ByteArray) (a c d : Int) (a1 : Option Addr) (c1 : Nat) (a2 : Option Addr) (c2 : Nat) (hk : k = 1 ∨ k = 3) (h : Ns W g o (ts k n x y s a c d a1 0 c1 a2 0 c2))
    (hc : Calls Try.prog 14 #[ts k n x y s a c d a1 0 c1 a2 0 c2] W fun e w' => e = .returned (.int .i64 0) ∧ Gr (fun _ => False) W w') : Calls Try.prog 37 #[ptr g o] W fun e w' => e = .returned (.int .i64 0) ∧ Gr (fun _ => False) W w' := by
  obtain ⟨f0, f1, f2, f3, f4, f5, f6, f7, f8⟩ := h.facts
  have hl := h.lt
  clear h
  rcases hk with rfl | rfl
  all_goals
    go_enter Try.func37, Try.ntmps37
    go_wp2_with fail
    refine hc.mono ?_
    rintro e w1 ⟨rfl, g1⟩
    go_wp2_with fail
    go_ret
    exact ⟨rfl, g1⟩
set_option maxRecDepth 20000 in
set_option maxHeartbeats 800000 in
theorem fault_nest (W : World) (g o : Nat) (k : Int) (a1 : Option Addr) (c1 : Nat) (a2 : Option Addr) (n2 c2 : Nat) (hk : k = 6 ∨ k = 7) (hn : n2 ≤ 256) (h : Ns W g o (ts k 0 0 0 e0 0 0 0 a1 0 c1 a2 n2 c2)) : Calls Try.prog 37 #[ptr g o] W fun e w' => e = .returned (.int .i64 0) ∧ Gr (fun _ => False) W w' := by
  have H := Lib.hid h
  have hc := Lib.hid (fun w => check_t (fun _ => False) w (.mk { k := k } [] []) (ts k 0 0 0 e0 0 0 0 a1 0 c1 none 0 0) 1 (leaf_rep _ _ _ _ _ _ _) (fun _ e => e.elim) (by simp [hgt, hgtL])
    ⟨⟨by rcases hk with rfl | rfl; exact ok_tuple [] (by simp); exact ok_list [] (by simp), by decide, by simp [lenB]⟩, fun _ _ => by simp only [okL]⟩ (by simp [goT, goL, stepW, lenB]))
  obtain ⟨f0, f1, f2, f3, f4, f5, f6, f7, f8⟩ := h.facts
  have hl := h.lt
  have hnI : decide ((256 : Int) < (n2 : Int)) = false := by simp; omega
  have hnN : decide (256 < n2) = false := by simp; omega
  clear h hn
  rcases hk with rfl | rfl
  all_goals
    go_enter Try.func37, Try.ntmps37
    go_wp2_with fail
    refine (hc.out _).mono ?_
    rintro e w1 ⟨rfl, g1⟩
    have G := (Gr.alloc W (.cells #[.int .i64 _, .int .i64 0, .complex .f64 0 0, .string e0, .int .i64 0, .int .u32 0, .int .u64 0, .slice a1 0 c1, .slice none 0 0] 31) (fun _ => False)).trans g1
    obtain ⟨f0, f1, f2, f3, f4, f5, f6, f7, f8⟩ := (H.out.gr G).facts
    have hl := (H.out.gr G).lt
    go_wp2_with fail
    go_ret
    exact ⟨rfl, G⟩
end Go.Proofs.Ytfamepdghememaa

