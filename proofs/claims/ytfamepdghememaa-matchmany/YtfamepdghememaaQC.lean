/-
  Carried over from another seat of ours (QC).
-/
import Derived.Test.YtfamepdghememaaQB
set_option linter.unusedVariables false
set_option linter.unusedSimpArgs false
namespace Go.Proofs.Ytfamepdghememaa
open Go.RowKit Go.Maps
attribute [local go_sem] Oper.semAt_some
theorem At.ns {A : Nat → Prop} {W : World} {T : Tm} {g o : Nat} (h : At A W T g o) : ∃ v, Rep A W T v ∧ Ns W g o v := h.2
theorem At.g0 {A : Nat → Prop} {W W' : World} {T : Tm} {g o : Nat} (h : At A W T g o) (hA : ∀ k, A k → k < W.heap.size) (t : Gr (fun _ => False) W W') : At A W' T g o := h.turn (fun i hi => t.block i (hA i hi) (fun e => e))
set_option maxRecDepth 20000 in
set_option maxHeartbeats 400000 in
theorem weigh_leaf (W : World) (g o : Nat) (d : Int) (z : Nat) (k n : Int) (x y : Nat) (s : ByteArray) (a c q : Int) (a1 : Option Addr) (c1 : Nat) (a2 : Option Addr) (c2 : Nat) (hd : d ≤ 24) (hz : z + 1 ≤ 4096) (h : Ns W g o (ts k n x y s a c q a1 0 c1 a2 0 c2))
    (r : Int) (hf : Calls Try.prog 37 #[ptr g o] W fun e w' => e = .returned (.int .i64 r) ∧ Gr (fun _ => False) W w') : Calls Try.prog 23 #[ptr g o, .int .i64 d, .int .i64 (z : Int)] W fun e w' => e = .returned (.tuple #[.int .i64 (if r = 0 then (z : Int) + 1 else 0), .int .i64 r]) ∧ Gr (fun _ => False) W w' := by
  have H := Lib.hid h
  obtain ⟨f0, f1, f2, f3, f4, f5, f6, f7, f8⟩ := h.facts
  have hl := h.lt
  have hdI : decide ((24 : Int) < d) = false := by simp; omega
  have hzI : (z : Int) + 1 ≤ 4096 := by omega
  have hz0 : (0 : Int) ≤ (z : Int) := by omega
  have hzD : decide ((4096 : Int) < (z : Int) + 1) = false := by simp; omega
  have Hf := Lib.hid hf
  clear h hd hz hf
  by_cases hr : r = 0
  · subst hr
    go_enter Try.func23, Try.ntmps23
    go_wp2_with fail
    refine Hf.out.mono ?_
    rintro e w1 ⟨rfl, g1⟩
    obtain ⟨f0, f1, f2, f3, f4, f5, f6, f7, f8⟩ := (H.out.gr g1).facts
    have hl := (H.out.gr g1).lt
    go_wp2_with fail
    go_loopw [34, 8] (fun v u wr => v = .int .i64 0 ∧ u = .int .i64 ((z : Int) + 1) ∧ wr = w1) (fun _ _ _ => 0)
    case atStart => exact ⟨rfl, rfl, rfl⟩
    case round =>
      obtain ⟨rfl, rfl, rfl⟩ := hrel
      go_wp2_with fail
      exact bodyPost_ret (v := .tuple #[.int .i64 ((z : Int) + 1), .int .i64 0]) (by simp [results, Try.results23, go_sem]) rfl ⟨by simp, g1⟩
  · have hrb : (r != 0) = true := by simpa using hr
    rw [if_neg hr]
    go_enter Try.func23, Try.ntmps23
    go_wp2_with fail
    refine Hf.out.mono ?_
    rintro e w1 ⟨rfl, g1⟩
    go_wp2_with fail
    exact bodyPost_ret (v := .tuple #[.int .i64 0, .int .i64 r]) (by simp [results, Try.results23, go_sem]) rfl ⟨rfl, g1⟩
/-- A part without elements that nothing is wrong with. -/
def LeafP (T : Tm) : Prop := (∃ t, T = .mk t [] []) ∧ FaultP T
set_option maxRecDepth 20000 in
set_option maxHeartbeats 800000 in
theorem weigh_nest (A : Nat → Prop) (W : World) (g o : Nat) (k : Int) (l : List Tm) (hk : k = 6 ∨ k = 7) (hl : l.length ≤ 256) (hA : ∀ i, A i → i < W.heap.size) (h : At A W (.mk { k := k } [] l) g o) (hp : ∀ x ∈ l, LeafP x) :
    Calls Try.prog 23 #[ptr g o, .int .i64 1, .int .i64 0] W fun e w' => e = .returned (.tuple #[.int .i64 ((l.length : Int) + 1), .int .i64 0]) ∧ Gr (fun _ => False) W w' := by
  have HA := Lib.hid h
  have hA' := Lib.hid hA
  obtain ⟨v, hr, hn⟩ := h.ns
  obtain ⟨t, bs, l', a1, c1, a2, c2, e, rfl⟩ := hr.ts
  cases e
  have hrow := h.row
  obtain ⟨a, n, c, hc8, hnl, hel⟩ := hrow
  have H := Lib.hid hn
  obtain ⟨f0, f1, f2, f3, f4, f5, f6, f7, f8⟩ := hn.facts
  have hlt := hn.lt
  have hf := Lib.hid (fault_nest W g o k a1 c1 a2 l.length c2 hk hl hn)
  have hlI : (l.length : Int) ≤ 256 := by omega
  have hl0 : (0 : Int) ≤ (l.length : Int) := by omega
  have e8 : Value.slice a n c = Value.slice a2 l.length c2 := by have := hc8.symm.trans f8; simpa using this
  cases e8
  have Hel := Lib.hid hel
  have Hp := Lib.hid hp
  clear hn hr h hk hl hA hel hp hc8 hnl
  go_enter Try.func23, Try.ntmps23
  go_wp2_with fail
  refine hf.out.mono ?_
  rintro e w1 ⟨rfl, g1⟩
  obtain ⟨f0, f1, f2, f3, f4, f5, f6, f7, f8⟩ := (H.out.gr g1).facts
  have hlt := (H.out.gr g1).lt
  have G1 := Lib.hid g1
  clear hf g1
  go_wp2_with fail
  go_loopw [34, 8] (fun v u wr => ∃ j : Nat, v = .int .i64 (j : Int) ∧ u = .int .i64 ((j : Int) + 1) ∧ Hid (j ≤ l.length) ∧ Hid (Gr (fun _ => False) W wr)) (fun v _ _ => l.length - (intOf v).toNat)
  case atStart => exact ⟨0, rfl, rfl, Lib.hid (Nat.zero_le _), G1⟩
  case round =>
    obtain ⟨j, rfl, rfl, hj, G⟩ := hrel
    clear G1 f0 f1 f2 f3 f4 f5 f6 f7 f8 hlt
    obtain ⟨f0, f1, f2, f3, f4, f5, f6, f7, f8⟩ := (H.out.gr G.out).facts
    have hlt := (H.out.gr G.out).lt
    have hjI : (j : Int) ≤ 256 := by have := hj.out; omega
    have hj0 : (0 : Int) ≤ (j : Int) := by omega
    rcases Nat.lt_or_ge j l.length with hz | hz
    · have hzI : (j : Int) < (l.length : Int) := by omega
      have hzN : decide (j < l.length) = true := by simp; omega
      obtain ⟨x, hx⟩ : ∃ x, l[j]? = some x := ⟨_, List.getElem?_eq_getElem hz⟩
      obtain ⟨b, rfl, hcap, hat⟩ := Hel.out (by intro e; rw [e] at hz; simp at hz)
      have hat1 := (hat j x hx).g0 hA'.out G.out
      obtain ⟨⟨t, rfl⟩, hfp⟩ := Hp.out x (List.mem_of_getElem? hx)
      obtain ⟨v, hr, hn⟩ := hat1.ns
      obtain ⟨b1, d1, b2, d2, rfl⟩ := leaf_v hr
      have hw := Lib.hid (weigh_leaf wr b (j * 9) 2 (j + 1) t.k t.n t.x t.y t.s t.a t.c t.d b1 d1 b2 d2 (by decide) (by have := hj.out; omega) hn 0 (hfp A wr b (j * 9) _ hr (fun i hi => Nat.lt_of_lt_of_le (hA'.out i hi) G.out.size) hn))
      rw [if_pos rfl, show (((j + 1 : Nat) : Int)) = (j : Int) + 1 by simp] at hw
      have Hz := Lib.hid hz
      clear hz hx hat hat1 hfp hr hn Hel
      go_wp2_with fail
      refine hw.out.mono ?_
      rintro e w2 ⟨rfl, g2⟩
      clear hw
      go_wp2_with fail
      refine ⟨⟨j + 1, by simp, by simp, Lib.hid Hz.out, Lib.hid (G.out.trans g2)⟩, ?_⟩
      simp [intOf]; have := Hz.out; omega
    · have hzI : decide ((j : Int) < (l.length : Int)) = false := by simp; omega
      have hzN : decide (j < l.length) = false := by simp; omega
      have e : j = l.length := by have := hj.out; omega
      subst e
      clear hz
      go_wp2_with fail
      exact bodyPost_ret (v := .tuple #[.int .i64 ((l.length : Int) + 1), .int .i64 0]) (by simp [results, Try.results23, go_sem]) rfl ⟨rfl, G.out⟩
/-- A tree's value, laid into a block of its own. -/
theorem Rep.box {A : Nat → Prop} {W : World} {T : Tm} {k n : Int} {x y : Nat} {s : ByteArray} {a c d : Int} {bs l : Value} (h : Rep A W T (tv k n x y s a c d bs l)) :
    At (fun i => A i ∨ i = W.heap.size) (W.alloc (.cells #[.int .i64 k, .int .i64 n, .complex .f64 x y, .string s, .int .i64 a, .int .u32 c, .int .u64 d, bs, l] 31)) T W.heap.size 0 := by
  refine ⟨.inr rfl, _, h.turn (fun i hi hlt => ⟨.inl hi, heap_alloc_old W _ hlt⟩), fun j u hu => ?_⟩
  simp only [World.cell?, heap_alloc_new]
  simpa [cellsOf] using hu
set_option maxRecDepth 20000 in
set_option maxHeartbeats 800000 in
theorem pcheck_nest (A : Nat → Prop) (W : World) (k : Int) (l : List Tm) (v : Value) (hk : k = 6 ∨ k = 7) (hl : l.length ≤ 256) (hA : ∀ i, A i → i < W.heap.size) (h : Rep A W (.mk { k := k } [] l) v) (hp : ∀ x ∈ l, LeafP x) :
    Calls Try.prog 12 #[v] W fun e w' => e = .returned (.int .i64 0) ∧ Gr (fun _ => False) W w' := by
  obtain ⟨tk, tn, tx, ty, ts, ta, tc, td, a1, n1, c1, a2, n2, c2, rfl⟩ := h.agg
  have hw := Lib.hid (weigh_nest _ _ W.heap.size 0 k l hk hl (fun i hi => by rw [World.size_alloc]; rcases hi with hi | hi; have := hA i hi; omega; omega) h.box hp)
  clear h hk hl hp hA
  go_enter Try.func12, Try.ntmps12
  go_wp2_with fail
  refine hw.out.mono ?_
  rintro e w1 ⟨rfl, g1⟩
  go_wp2_with fail
  go_ret
  exact ⟨rfl, (Gr.alloc _ _ _).trans g1⟩
set_option maxRecDepth 20000 in
set_option maxHeartbeats 800000 in
theorem pcheck_var (W : World) (s : ByteArray) (b : Bool) (hs : isVar s = b) : Calls Try.prog 12 #[lf 9 0 0 0 s 0 0 0] W fun e w' => e = .returned (.int .i64 (if b = true then 0 else 50)) ∧ Gr (fun _ => False) W w' := by
  have hb := (leaf_rep (fun _ => False) W { k := 9, s := s } none 0 none 0).box
  obtain ⟨v, hr, hn⟩ := hb.ns
  obtain ⟨a1, c1, a2, c2, rfl⟩ := leaf_v hr
  have hw := Lib.hid (weigh_leaf _ W.heap.size 0 1 0 9 0 0 0 s 0 0 0 a1 c1 a2 c2 (by decide) (by decide) hn _ (fault_var s b hs _ W.heap.size 0 a1 c1 a2 c2 hn))
  generalize (if b = true then (0 : Int) else 50) = r at hw ⊢
  clear hb hr hn hs
  go_enter Try.func12, Try.ntmps12
  go_wp2_with fail
  refine hw.out.mono ?_
  rintro e w1 ⟨rfl, g1⟩
  go_wp2_with fail
  all_goals
    go_ret
    exact ⟨rfl, (Gr.alloc _ _ _).trans g1⟩
end Go.Proofs.Ytfamepdghememaa

