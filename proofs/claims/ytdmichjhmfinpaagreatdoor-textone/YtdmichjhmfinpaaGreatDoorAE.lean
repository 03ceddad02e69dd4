/-
  Parse, for every text.
-/
import Derived.Test.YtdmichjhmfinpaaGreatDoorAD
set_option linter.unusedVariables false
set_option linter.unusedSimpArgs false
namespace Go.Proofs.YtdmichjhmfinpaaGreatDoor
open Go.RowKit Go.Maps

/-- What Parse tells of a text. -/
def parseV (s : ByteArray) : Except (Nat × Int) Tm := if 65536 < s.size then .error (0, 40) else prs s
def EndP (W : World) (e : Ending) (w' : World) : Except (Nat × Int) Tm → Prop
  | .ok T => ∃ v, e = .returned (.tuple #[v, .int .i64 0, .int .i64 0]) ∧ Rep (fun k => W.heap.size ≤ k) w' T v ∧ Gr (fun _ => False) W w'
  | .error (j, c) => e = .returned (.tuple #[lf 0 0 0 0 e0 0 0 0, .int .i64 (j : Int), .int .i64 c]) ∧ Gr (fun _ => False) W w'

set_option maxRecDepth 100000 in
set_option maxHeartbeats 1600000 in
theorem parse_c (s : ByteArray) (W : World) (hE : Er W) : Calls Tryz.prog 6 #[.string s] W fun e w' => EndP W e w' (parseV s) := by
  have hmf : ∀ (fn : Fn) (first cap : Array Value) (w : World), (Instr.makeFunc fn first cap).run Tryz.prog w = .ok (.func fn first cap) w := fun _ _ _ _ => rfl
  by_cases h1 : 65536 < s.size
  · have hI : 65536 < (s.size : Int) := by omega
    rw [show parseV s = .error (0, 40) by rw [parseV, if_pos h1]]
    clear h1
    go_enter_defers Tryz.func6, Tryz.ntmps6
    go_wp2
    exact ⟨.tuple #[lf 0 0 0 0 e0 0 0 0, .int .i64 0, .int .i64 40], by simp [results, Tryz.results6, go_sem], rfl, ((Gr.alloc _ _ _).trans (Gr.alloc _ _ _)).trans (Gr.alloc _ _ _)⟩
  have hs : s.size ≤ 65536 := by omega
  have hI : (s.size : Int) ≤ 65536 := by omega
  rw [show parseV s = prs s by rw [parseV, if_neg h1]]
  clear h1
  have hl4 := hE.lt
  obtain ⟨q, hq⟩ : ∃ q, q = prs s := ⟨_, rfl⟩
  rw [← hq]
  have Hq := Lib.hid hq
  clear hq
  replace hs := Lib.hid hs
  go_enter_defers Tryz.func6, Tryz.ntmps6
  go_wp2_with fail
  generalize hW1 : World.alloc (World.alloc (World.alloc (World.alloc W _) _) _) _ = W1
  have hg1 : Gr (fun _ => False) W W1 := hW1 ▸ (((Gr.alloc _ _ _).trans (Gr.alloc _ _ _)).trans (Gr.alloc _ _ _)).trans (Gr.alloc _ _ _)
  have hT1 : Bx W1 W.heap.size 0 0 0 0 e0 0 0 0 nl nl := by
    subst hW1; simp only [Bx, al, World.size_alloc]; repeat (first | rw [if_pos trivial] | rw [if_pos (by omega)] | rw [if_neg (by omega)])
  have hA1 : W1.heap[W.heap.size + 1]? = some (.cells #[.int .i64 0] 3 (0, 0)) := by
    subst hW1; simp only [al, World.size_alloc]; repeat (first | rw [if_pos trivial] | rw [if_pos (by omega)] | rw [if_neg (by omega)])
  have hF1 : W1.heap[W.heap.size + 1 + 1]? = some (.cells #[.int .i64 0] 32 (0, 0)) := by
    subst hW1; simp only [al, World.size_alloc]; repeat (first | rw [if_pos trivial] | rw [if_pos (by omega)] | rw [if_neg (by omega)])
  have hR1 : Rd W1 (W.heap.size + 1 + 1 + 1) s 0 0 := by
    subst hW1; simp only [Rd, al, World.size_alloc]; repeat (first | rw [if_pos trivial] | rw [if_pos (by omega)] | rw [if_neg (by omega)])
    rfl
  have hE1 := hE.gr hg1 (fun e => e)
  clear hW1
  have hcall := whole_c s hs.out W1 (W.heap.size + 1 + 1 + 1) hR1 hE1 (by omega)
  have hgW := hg1.size
  cases hr : prs s with
  | error e =>
    obtain ⟨j, c⟩ := e
    rw [hr] at hcall
    have e : q = .error (j, c) := by rw [Hq.out, hr]
    subst e
    refine hcall.mono ?_
    rintro e w2 ⟨rfl, hg2⟩
    refine leaves_cons (f := 15) (args := #[pt W.heap.size, pt (W.heap.size + 1), pt (W.heap.size + 1 + 1)]) (by simp) (by simp [go_sem]) ?_
    refine (catch_thrown W.heap.size (W.heap.size + 1) (W.heap.size + 1 + 1) j c w2 (hT1.gr hg2 (by omega)) (hg2.keep hA1 (by omega)) (hg2.keep hF1 (by omega))).mono ?_
    rintro e u' w3 ⟨rfl, rfl, hT3, hA3, hF3, hg3⟩
    obtain ⟨⟨m0, m1, m2, m3, m4, m5, m6, m7, m8⟩, mf⟩ := nine (show w3.heap[W.heap.size]? = _ from hT3)
    obtain ⟨q1, q2⟩ := cell_of hA3
    obtain ⟨r1, r2⟩ := cell_of hF3
    exact ⟨.tuple #[lf 0 0 0 0 e0 0 0 0, .int .i64 (j : Int), .int .i64 c], by simp [results, Tryz.results6, go_sem, m0, m1, m2, m3, m4, m5, m6, m7, m8, q1, r1], rfl, (hg1.trans' hg2 (fun i hi e => by omega)).trans' hg3 (fun i hi e => by omega)⟩
  | ok T =>
    rw [hr] at hcall
    have e : q = .ok T := by rw [Hq.out, hr]
    subst e
    refine hcall.mono ?_
    rintro e w2 ⟨v, rfl, hrep, hg2⟩
    obtain ⟨tk, tn, tx, ty, ts, ta, tc, td, a1, n1, c1, a2, n2, c2, rfl⟩ := hrep.agg
    have hT2 := hT1.gr hg2 (by omega)
    have hA2 := hg2.keep hA1 (by omega)
    have hF2 := hg2.keep hF1 (by omega)
    obtain ⟨⟨m0, m1, m2, m3, m4, m5, m6, m7, m8⟩, mf⟩ := nine (show w2.heap[W.heap.size]? = _ from hT2)
    obtain ⟨q1, q2⟩ := cell_of hA2
    obtain ⟨r1, r2⟩ := cell_of hF2
    clear hcall hr Hq
    go_wp2_with fail
    have t9 := Gr.own9 w2 W.heap.size (.int .i64 tk) (.int .i64 tn) (.complex .f64 tx ty) (.string ts) (.int .i64 ta) (.int .u32 tc) (.int .u64 td) (.slice a1 n1 c1) (.slice a2 n2 c2)
    have e9 := set9_same (v0 := .int .i64 tk) (v1 := .int .i64 tn) (v2 := .complex .f64 tx ty) (v3 := .string ts) (v4 := .int .i64 ta) (v5 := .int .u32 tc) (v6 := .int .u64 td) (v7 := .slice a1 n1 c1) (v8 := .slice a2 n2 c2) hT2
    generalize (((((((((w2.setCell ⟨W.heap.size, 0, none⟩ (.int .i64 tk)).setCell ⟨W.heap.size, 1, none⟩ (.int .i64 tn)).setCell ⟨W.heap.size, 2, none⟩ (.complex .f64 tx ty)).setCell ⟨W.heap.size, 3, none⟩ (.string ts)).setCell ⟨W.heap.size, 4, none⟩ (.int .i64 ta)).setCell ⟨W.heap.size, 5, none⟩ (.int .u32 tc)).setCell ⟨W.heap.size, 6, none⟩ (.int .u64 td)).setCell ⟨W.heap.size, 7, none⟩ (.slice a1 n1 c1)).setCell ⟨W.heap.size, 8, none⟩ (.slice a2 n2 c2)) = wa at t9 e9 ⊢
    have tq := own1 wa (W.heap.size + 1) 0 (.int .i64 0)
    have tr := own1 (wa.setCell ⟨W.heap.size + 1, 0, none⟩ (.int .i64 0)) (W.heap.size + 1 + 1) 0 (.int .i64 0)
    have hAz : (wa.setCell ⟨W.heap.size + 1, 0, none⟩ (.int .i64 0)).heap[W.heap.size + 1]? = some (.cells #[.int .i64 0] 3 (0, 0)) := heap_setCell_same wa _ 0 _ 3 _ (t9.keep hA2 (by omega))
    have hFz : ((wa.setCell ⟨W.heap.size + 1, 0, none⟩ (.int .i64 0)).setCell ⟨W.heap.size + 1 + 1, 0, none⟩ (.int .i64 0)).heap[W.heap.size + 1 + 1]? = some (.cells #[.int .i64 0] 32 (0, 0)) := heap_setCell_same _ _ 0 _ 32 _ (tq.keep (t9.keep hF2 (by omega)) (by omega))
    have hTz := tr.keep (tq.keep e9 (by omega)) (by omega)
    replace hAz := tr.keep hAz (by omega)
    have hgz : Gr (fun k => k = W.heap.size ∨ k = W.heap.size + 1 ∨ k = W.heap.size + 1 + 1) w2 ((wa.setCell ⟨W.heap.size + 1, 0, none⟩ (.int .i64 0)).setCell ⟨W.heap.size + 1 + 1, 0, none⟩ (.int .i64 0)) :=
      ((t9.mono (fun _ _ e => .inl e)).trans (tq.mono (fun _ _ e => .inr (.inl e)))).trans (tr.mono (fun _ _ e => .inr (.inr e)))
    generalize (wa.setCell ⟨W.heap.size + 1, 0, none⟩ (.int .i64 0)).setCell ⟨W.heap.size + 1 + 1, 0, none⟩ (.int .i64 0) = wz at hTz hAz hFz hgz ⊢
    have hW1g : W.heap.size + 1 + 1 < W1.heap.size := (Array.getElem?_eq_some_iff.1 hF1).1
    clear t9 e9 tq tr m0 m1 m2 m3 m4 m5 m6 m7 m8 mf q1 q2 r1 r2
    refine leaves_cons (f := 15) (args := #[pt W.heap.size, pt (W.heap.size + 1), pt (W.heap.size + 1 + 1)]) (by simp) (by simp [go_sem]) ?_
    refine (catch_idle W.heap.size (W.heap.size + 1) (W.heap.size + 1 + 1) wz).mono ?_
    rintro e u' w4 ⟨rfl, rfl, hg4⟩
    obtain ⟨⟨m0, m1, m2, m3, m4, m5, m6, m7, m8⟩, mf⟩ := nine (hg4.keep hTz (fun e => e))
    obtain ⟨q1, q2⟩ := cell_of (hg4.keep hAz (fun e => e))
    obtain ⟨r1, r2⟩ := cell_of (hg4.keep hFz (fun e => e))
    have hrep4 := hrep.turn (W' := w4) (A' := fun k => W.heap.size ≤ k) (fun z hz hlt => ⟨by omega, (hg4.block z (by have := hgz.size; omega) (fun e => e)).trans (hgz.block z hlt (by omega))⟩)
    exact ⟨.tuple #[tv tk tn tx ty ts ta tc td (.slice a1 n1 c1) (.slice a2 n2 c2), .int .i64 0, .int .i64 0], by simp [results, Tryz.results6, go_sem, m0, m1, m2, m3, m4, m5, m6, m7, m8, q1, r1], _, rfl, hrep4, ((hg1.trans' hg2 (fun i hi e => by omega)).trans' hgz (fun i hi e => by omega)).trans hg4⟩
end Go.Proofs.YtdmichjhmfinpaaGreatDoor
/-
  The reference's reader: its small steps.
-/
namespace Go.Proofs.YtdmichjhmfinpaaGreatDoor
open Go.RowKit Go.Maps

/-- The reference's state: the text, the place, the size, what is wrong, and where. -/
abbrev sv (s : ByteArray) (i n : Nat) (c a : Int) : Value := .agg #[.string s, .int .i64 (i : Int), .int .i64 (n : Int), .int .i64 c, .int .i64 a]

set_option maxRecDepth 20000 in
theorem fail_new (s : ByteArray) (i n : Nat) (a p c : Int) (W : World) : Calls Tryz.prog 18 #[sv s i n 0 a, .int .i64 p, .int .i64 c] W fun e w' => e = .returned (sv s i n c p) ∧ Gr (fun _ => False) W w' := by
  go_enter Tryz.func18, Tryz.ntmps18
  go_wp2
  exact bodyPost_ret (v := sv s i n c p) (by simp [results, Tryz.results18, go_sem]) rfl ⟨rfl, (Gr.alloc _ _ _).trans (Gr.alloc _ _ _)⟩
set_option maxRecDepth 20000 in
theorem fail_old (s : ByteArray) (i n : Nat) (k a p c : Int) (hk : (k == 0) = false) (W : World) : Calls Tryz.prog 18 #[sv s i n k a, .int .i64 p, .int .i64 c] W fun e w' => e = .returned (sv s i n k a) ∧ Gr (fun _ => False) W w' := by
  go_enter Tryz.func18, Tryz.ntmps18
  go_wp2
  exact bodyPost_ret (v := sv s i n k a) (by simp [results, Tryz.results18, go_sem]) rfl ⟨rfl, (Gr.alloc _ _ _).trans (Gr.alloc _ _ _)⟩

set_option maxRecDepth 20000 in
set_option maxHeartbeats 800000 in
theorem is_c (s : ByteArray) (i n : Nat) (a : Int) (ch : Int) (hch : ch ≠ 0) (W : World) : Calls Tryz.prog 27 #[sv s i n 0 a, .int .u8 ch] W fun e w' => e = .returned (.bool (pk s i == ch)) ∧ Gr (fun _ => False) W w' := by
  by_cases h : i < s.size
  · have hI : (i : Int) < (s.size : Int) := by omega
    have hx := ix s i h
    rw [show pk s i = bt s i by simp [pk, h]]
    generalize bt s i = x at hx ⊢
    clear h
    go_enter Tryz.func27, Tryz.ntmps27
    go_wp2
    all_goals (go_ret; exact ⟨by simp, Gr.alloc _ _ _⟩)
  · have hI : ¬ (i : Int) < (s.size : Int) := by omega
    rw [show (pk s i == ch) = false by simp [pk, h]; exact fun e => hch e.symm]
    go_enter Tryz.func27, Tryz.ntmps27
    go_wp2
    go_ret
    exact ⟨by simp, Gr.alloc _ _ _⟩
set_option maxRecDepth 20000 in
set_option maxHeartbeats 800000 in
theorem is_old (s : ByteArray) (i n : Nat) (k a : Int) (ch : Int) (hk : (k == 0) = false) (W : World) : Calls Tryz.prog 27 #[sv s i n k a, .int .u8 ch] W fun e w' => e = .returned (.bool false) ∧ Gr (fun _ => False) W w' := by
  go_enter Tryz.func27, Tryz.ntmps27
  go_wp2
  go_ret
  exact ⟨by simp, Gr.alloc _ _ _⟩
def btw (x p q : Int) : Bool := decide (p ≤ x) && decide (x ≤ q)
set_option maxRecDepth 20000 in
set_option maxHeartbeats 800000 in
theorem between_c (s : ByteArray) (i n : Nat) (a p q : Int) (hp : 0 < p) (W : World) : Calls Tryz.prog 28 #[sv s i n 0 a, .int .u8 p, .int .u8 q] W fun e w' => e = .returned (.bool (btw (pk s i) p q)) ∧ Gr (fun _ => False) W w' := by
  by_cases h : i < s.size
  · have hI : (i : Int) < (s.size : Int) := by omega
    have hx := ix s i h
    rw [show pk s i = bt s i by simp [pk, h]]
    generalize bt s i = x at hx ⊢
    clear h
    by_cases h1 : p ≤ x <;> by_cases h2 : x ≤ q <;> simp only [btw, h1, h2, decide_true, decide_false, Bool.and_true, Bool.and_false, Bool.false_and, Bool.true_and]
    all_goals (go_enter Tryz.func28, Tryz.ntmps28; go_wp2; go_ret; exact ⟨by simp, Gr.alloc _ _ _⟩)
  · have hI : ¬ (i : Int) < (s.size : Int) := by omega
    rw [show btw (pk s i) p q = false by simp [btw, pk, h]; omega]
    go_enter Tryz.func28, Tryz.ntmps28
    go_wp2
    go_ret
    exact ⟨by simp, Gr.alloc _ _ _⟩
set_option maxRecDepth 20000 in
set_option maxHeartbeats 800000 in
theorem between_old (s : ByteArray) (i n : Nat) (k a p q : Int) (hk : (k == 0) = false) (W : World) : Calls Tryz.prog 28 #[sv s i n k a, .int .u8 p, .int .u8 q] W fun e w' => e = .returned (.bool false) ∧ Gr (fun _ => False) W w' := by
  go_enter Tryz.func28, Tryz.ntmps28
  go_wp2
  go_ret
  exact ⟨by simp, Gr.alloc _ _ _⟩

theorem five {W : World} {g : Nat} {x0 x1 x2 x3 x4 : Value} (h : W.heap[g]? = some (.cells #[x0, x1, x2, x3, x4] 53 (0, 0))) :
    (W.cell? ⟨g, 0, none⟩ = some x0 ∧ W.cell? ⟨g, 1, none⟩ = some x1 ∧ W.cell? ⟨g, 2, none⟩ = some x2 ∧ W.cell? ⟨g, 3, none⟩ = some x3 ∧ W.cell? ⟨g, 4, none⟩ = some x4) ∧ (∀ o, W.frozen? ⟨g, o, none⟩ = false) := by
  simp [World.cell?, World.frozen?, h]
theorem Gr.set5 {S : Nat → Prop} {W W' : World} {g : Nat} (h : Gr S W W') (hg : W.heap.size ≤ g) (v0 v1 v2 v3 v4 : Value) :
    Gr S W (((((W'.setCell ⟨g, 0, none⟩ v0).setCell ⟨g, 1, none⟩ v1).setCell ⟨g, 2, none⟩ v2).setCell ⟨g, 3, none⟩ v3).setCell ⟨g, 4, none⟩ v4) :=
  ((((h.setNew hg).setNew hg).setNew hg).setNew hg).setNew hg

set_option maxRecDepth 20000 in
set_option maxHeartbeats 800000 in
theorem want_yes (s : ByteArray) (i n : Nat) (a ch : Int) (hch : ch ≠ 0) (hs : s.size ≤ 65536) (h : pk s i = ch) (W : World) : Calls Tryz.prog 32 #[sv s i n 0 a, .int .u8 ch] W fun e w' => e = .returned (sv s (i + 1) n 0 a) ∧ Gr (fun _ => False) W w' := by
  have hlt : i < s.size := lt_of_pk (by rw [h]; exact hch)
  have hI : (i : Int) < 65536 := by omega
  have hi := fun W => is_c s i n a ch hch W
  rw [show (pk s i == ch) = true by simp [h]] at hi
  clear h hlt
  go_enter Tryz.func32, Tryz.ntmps32
  go_wp2_with fail
  generalize hW1 : World.alloc (World.alloc W _) _ = W1
  have hg1 : Gr (fun _ => False) W W1 := hW1 ▸ (Gr.alloc _ _ _).trans (Gr.alloc _ _ _)
  have hx1 : W1.heap[W.heap.size]? = some (.cells #[.string s, .int .i64 (i : Int), .int .i64 (n : Int), .int .i64 0, .int .i64 a] 53 (0, 0)) := by
    subst hW1; simp only [al, World.size_alloc]; repeat (first | rw [if_pos trivial] | rw [if_pos (by omega)] | rw [if_neg (by omega)])
  have hy1 : W1.heap[W.heap.size + 1]? = some (.cells #[.string e0, .int .i64 0, .int .i64 0, .int .i64 0, .int .i64 0] 53 (0, 0)) := by
    subst hW1; simp only [al, World.size_alloc]; repeat (first | rw [if_pos trivial] | rw [if_pos (by omega)] | rw [if_neg (by omega)])
  clear hW1
  refine (hi _).mono ?_
  rintro e w2 ⟨rfl, hg2⟩
  obtain ⟨⟨x0, x1, x2, x3, x4⟩, xf⟩ := five (hg2.keep hx1 (fun e => e))
  obtain ⟨⟨y0, y1, y2, y3, y4⟩, yf⟩ := five (hg2.keep hy1 (fun e => e))
  go_wp2_with fail
  exact bodyPost_ret (v := sv s (i + 1) n 0 a) (by simp [results, Tryz.results32, go_sem, y0, y1, y2, y3, y4]) rfl ⟨rfl, ((hg1.trans hg2).setNew (p := ⟨W.heap.size, 1, none⟩) (Nat.le_refl _)).set5 (Nat.le_succ _) _ _ _ _ _⟩
set_option maxRecDepth 20000 in
set_option maxHeartbeats 800000 in
theorem want_no (s : ByteArray) (i n : Nat) (a ch : Int) (hch : ch ≠ 0) (h : pk s i ≠ ch) (W : World) : Calls Tryz.prog 32 #[sv s i n 0 a, .int .u8 ch] W fun e w' => e = .returned (sv s i n 41 (i : Int)) ∧ Gr (fun _ => False) W w' := by
  have hi := fun W => is_c s i n a ch hch W
  rw [show (pk s i == ch) = false by simpa using h] at hi
  clear h
  go_enter Tryz.func32, Tryz.ntmps32
  go_wp2_with fail
  generalize hW1 : World.alloc (World.alloc W _) _ = W1
  have hg1 : Gr (fun _ => False) W W1 := hW1 ▸ (Gr.alloc _ _ _).trans (Gr.alloc _ _ _)
  have hx1 : W1.heap[W.heap.size]? = some (.cells #[.string s, .int .i64 (i : Int), .int .i64 (n : Int), .int .i64 0, .int .i64 a] 53 (0, 0)) := by
    subst hW1; simp only [al, World.size_alloc]; repeat (first | rw [if_pos trivial] | rw [if_pos (by omega)] | rw [if_neg (by omega)])
  have hy1 : W1.heap[W.heap.size + 1]? = some (.cells #[.string e0, .int .i64 0, .int .i64 0, .int .i64 0, .int .i64 0] 53 (0, 0)) := by
    subst hW1; simp only [al, World.size_alloc]; repeat (first | rw [if_pos trivial] | rw [if_pos (by omega)] | rw [if_neg (by omega)])
  clear hW1
  refine (hi _).mono ?_
  rintro e w2 ⟨rfl, hg2⟩
  obtain ⟨⟨x0, x1, x2, x3, x4⟩, xf⟩ := five (hg2.keep hx1 (fun e => e))
  go_wp2_with fail
  refine (fail_new s i n a (i : Int) 41 _).mono ?_
  rintro e w3 ⟨rfl, hg3⟩
  obtain ⟨⟨y0, y1, y2, y3, y4⟩, yf⟩ := five (hg3.keep (hg2.keep hy1 (fun e => e)) (fun e => e))
  go_wp2_with fail
  exact bodyPost_ret (v := sv s i n 41 (i : Int)) (by simp [results, Tryz.results32, go_sem, y0, y1, y2, y3, y4]) rfl ⟨rfl, ((hg1.trans hg2).trans hg3).set5 (Nat.le_succ _) _ _ _ _ _⟩
set_option maxRecDepth 20000 in
set_option maxHeartbeats 800000 in
theorem want_old (s : ByteArray) (i n : Nat) (k a ch : Int) (hk : (k == 0) = false) (W : World) : Calls Tryz.prog 32 #[sv s i n k a, .int .u8 ch] W fun e w' => e = .returned (sv s i n k a) ∧ Gr (fun _ => False) W w' := by
  go_enter Tryz.func32, Tryz.ntmps32
  go_wp2_with fail
  generalize hW1 : World.alloc (World.alloc W _) _ = W1
  have hg1 : Gr (fun _ => False) W W1 := hW1 ▸ (Gr.alloc _ _ _).trans (Gr.alloc _ _ _)
  have hx1 : W1.heap[W.heap.size]? = some (.cells #[.string s, .int .i64 (i : Int), .int .i64 (n : Int), .int .i64 k, .int .i64 a] 53 (0, 0)) := by
    subst hW1; simp only [al, World.size_alloc]; repeat (first | rw [if_pos trivial] | rw [if_pos (by omega)] | rw [if_neg (by omega)])
  have hy1 : W1.heap[W.heap.size + 1]? = some (.cells #[.string e0, .int .i64 0, .int .i64 0, .int .i64 0, .int .i64 0] 53 (0, 0)) := by
    subst hW1; simp only [al, World.size_alloc]; repeat (first | rw [if_pos trivial] | rw [if_pos (by omega)] | rw [if_neg (by omega)])
  clear hW1
  refine (is_old s i n k a ch hk _).mono ?_
  rintro e w2 ⟨rfl, hg2⟩
  obtain ⟨⟨x0, x1, x2, x3, x4⟩, xf⟩ := five (hg2.keep hx1 (fun e => e))
  go_wp2_with fail
  refine (fail_old s i n k a (i : Int) 41 hk _).mono ?_
  rintro e w3 ⟨rfl, hg3⟩
  obtain ⟨⟨y0, y1, y2, y3, y4⟩, yf⟩ := five (hg3.keep (hg2.keep hy1 (fun e => e)) (fun e => e))
  go_wp2_with fail
  exact bodyPost_ret (v := sv s i n k a) (by simp [results, Tryz.results32, go_sem, y0, y1, y2, y3, y4]) rfl ⟨rfl, ((hg1.trans hg2).trans hg3).set5 (Nat.le_succ _) _ _ _ _ _⟩
end Go.Proofs.YtdmichjhmfinpaaGreatDoor
