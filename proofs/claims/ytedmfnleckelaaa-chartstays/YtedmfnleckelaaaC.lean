/-
  A chart in memory: its block, its map; New, Hear, Own, Of.
-/
import Derived.Test.YtedmfnleckelaaaB
import Derived.Maps.Range
import Derived.Maps.Views
set_option linter.unusedVariables false
set_option linter.unusedSimpArgs false
namespace Go.Proofs.Ytedmfnleckelaaa
open Go.RowKit Go.Maps Go.WideMaps
variable {S S' : Nat → Prop} {W W1 W' : World}
theorem lt_of_blk {k : Nat} {o : Obj} (h : W.heap[k]? = some o) : k < W.heap.size := (Array.getElem?_eq_some_iff.1 h).1
def RR (v : Value) : Option (DataW Value × List MemPlace) := some (.held v, [])
theorem law3 : Keyed Try.prog 3 := int_keyed Try.underlying3
abbrev cz : Value := .complex .f64 0 0
theorem zero23 (w : World) : (zeroValue 23).run Try.prog w = .ok cz w := by kernel_rfl
/-- A map from numbers: what it holds. -/
def Mo (W : World) (mb n : Nat) (R : Int → Option Value) : Prop :=
  ∃ D, W.ownsMap Try.prog 3 RR mb n D ∧ ∀ k : Int, (Lit.int .i64 k).wf = true → Maps.has D (.int .i64 k) = (R k).isSome ∧ D.atKey (.int .i64 k) (.held cz) = .held ((R k).getD cz)
theorem Mo.lt {mb n : Nat} {R : Int → Option Value} (h : Mo W mb n R) : mb < W.heap.size := by
  obtain ⟨D, h1, _⟩ := h; exact h1.lt
theorem Mo.blk {mb n : Nat} {R : Int → Option Value} (h : Mo W mb n R) : ∃ es c, W.heap[mb]? = some (.map es c) := by
  obtain ⟨D, ⟨es, c, h1, _⟩, _⟩ := h; exact ⟨es, c, h1⟩
theorem Mo.of_block {mb n : Nat} {R : Int → Option Value} (h : Mo W mb n R) (hb : W'.heap[mb]? = W.heap[mb]?) : Mo W' mb n R := by
  obtain ⟨D, ⟨es, c, h1, h2⟩, h3⟩ := h; exact ⟨D, ⟨es, c, hb.trans h1, h2⟩, h3⟩
theorem Mo.gr {mb n : Nat} {R : Int → Option Value} (h : Mo W mb n R) (g : Gr S W W') (hs : ¬ S mb) : Mo W' mb n R := h.of_block (g.block mb h.lt hs)
theorem Mo.new (W : World) : Mo (W.alloc (.map #[] 0)) W.heap.size 0 (fun _ => none) :=
  ⟨.map [], World.ownsMap_made W Try.prog 3 RR, fun s _ => ⟨rfl, rfl⟩⟩
theorem Mo.look {mb n : Nat} {R : Int → Option Value} (h : Mo W mb n R) (k : Int) (hk : (Lit.int .i64 k).wf = true) :
    (Instr.lookup 37 (.map (some mb)) (.int .i64 k) true).run Try.prog W = .ok (.tuple #[(R k).getD cz, .bool (R k).isSome]) W := by
  obtain ⟨D, h1, h3⟩ := h
  obtain ⟨v, ps, hr, hv⟩ := h1.look_ok law3 Try.underlying37 (zero23 W) (zd := .held cz) (zp := []) rfl (keyOf_int_mk Try.underlying3 hk)
  obtain ⟨h4, h5⟩ := h3 k hk
  rw [h5] at hv
  simp only [RR, Option.some.injEq, Prod.mk.injEq, DataW.held.injEq] at hv
  rw [hr, hv.1, h4]
/-- One entry more, or another. -/
def ins (R : Int → Option Value) (s : Int) (v : Value) : Int → Option Value := fun x => if x = s then some v else R x
theorem ins_same (R : Int → Option Value) (s : Int) (v : Value) : ins R s v s = some v := if_pos rfl
theorem ins_other (R : Int → Option Value) {s x : Int} (v : Value) (h : x ≠ s) : ins R s v x = R x := if_neg h
theorem Mo.put {mb n : Nat} {R : Int → Option Value} (h : Mo W mb n R) (k : Int) (hk : (Lit.int .i64 k).wf = true) (hn : n ≤ 1000000) (v : Value) :
    ∃ w', (Instr.mapUpdate 37 (.map (some mb)) (.int .i64 k) v).run Try.prog W = .ok () w' ∧ Mo w' mb (n + 1) (ins R k v) ∧ Gr (fun i => i = mb) W w' := by
  obtain ⟨D, h1, h3⟩ := h
  obtain ⟨w', hr, h4, h5⟩ := h1.store law3 Try.underlying37 (by unfold maxLen; omega) (keyOf_int_mk Try.underlying3 hk) (val := v) (d := .held v) (ps := []) rfl
  refine ⟨w', hr, ⟨_, h4, fun x hx => ?_⟩, Gr.of_grown h5.grown (fun i e => by cases e; rfl)⟩
  by_cases e : x = k
  · subst e
    rw [has_put_same h1.isMap (show WideAt.IsKeyLit (.int .i64 x) from trivial), atKey_put_same h1.isMap (show WideAt.IsKeyLit (.int .i64 x) from trivial), ins_same]
    exact ⟨rfl, rfl⟩
  · have hne : (Lit.int .i64 x) ≠ .int .i64 k := fun e' => e (by injection e')
    rw [has_put_other hne, atKey_put_other hne, ins_other _ _ e]
    exact h3 x hx
theorem wf64 {k : Int} (h1 : -9223372036854775808 ≤ k) (h2 : k ≤ 9223372036854775807) : (Lit.int .i64 k).wf = true := WalkArith.wf_i64 (by omega)

abbrev pt (b : Nat) : Value := .pointer (some ⟨b, 0, none⟩)
/-- A chart in memory. -/
structure Ch (W : World) (p mb x y n : Nat) (R : Int → Option Value) : Prop where
  blk : W.heap[p]? = some (.cells #[.complex .f64 x y, .map (some mb)] 39 (0, 0))
  map : Mo W mb n R
theorem Ch.facts {p mb x y n : Nat} {R : Int → Option Value} (h : Ch W p mb x y n R) :
    W.cell? ⟨p, 0, none⟩ = some (.complex .f64 x y) ∧ W.cell? ⟨p, 1, none⟩ = some (.map (some mb)) ∧ W.frozen? ⟨p, 0, none⟩ = false ∧ W.frozen? ⟨p, 1, none⟩ = false := by
  simp [World.cell?, World.frozen?, h.blk]
theorem Ch.lt {p mb x y n : Nat} {R : Int → Option Value} (h : Ch W p mb x y n R) : p < W.heap.size := lt_of_blk h.blk
theorem Ch.ne {p mb x y n : Nat} {R : Int → Option Value} (h : Ch W p mb x y n R) : p ≠ mb := by
  rintro rfl
  obtain ⟨es, c, e⟩ := h.map.blk
  rw [h.blk] at e; cases e
theorem Ch.gr {p mb x y n : Nat} {R : Int → Option Value} (h : Ch W p mb x y n R) (g : Gr S W W') (h1 : ¬ S p) (h2 : ¬ S mb) : Ch W' p mb x y n R := ⟨(g.block p h.lt h1).trans h.blk, h.map.gr g h2⟩
theorem Ch.g0 {p mb x y n : Nat} {R : Int → Option Value} (h : Ch W p mb x y n R) (g : G0 W W') : Ch W' p mb x y n R := h.gr g id id
theorem Ch.move {p mb x y n : Nat} {R : Int → Option Value} (h : Ch W p mb x y n R) (x' y' : Nat) : Ch (W.setCell ⟨p, 0, none⟩ (.complex .f64 x' y')) p mb x' y' n R :=
  ⟨heap_setCell_same W p 0 _ 39 _ h.blk, h.map.of_block (heap_setCell_other _ _ _ _ h.ne.symm)⟩

set_option maxRecDepth 20000 in
theorem new_c (x y : Nat) (hx : Pl x) (hy : Pl y) (W : World) : Calls Try.prog 5 #[.complex .f64 x y] W fun e w' => ∃ p mb, e = .returned (.tuple #[pt p, .int .i64 0]) ∧ Ch w' p mb x y 0 (fun _ => none) ∧ G0 W w' ∧ W.heap.size ≤ p ∧ W.heap.size ≤ mb := by
  have h1 := place_c x y hx hy
  have hmm := @run_makeMap Try.prog
  clear hx hy
  go_enter Try.func5, Try.ntmps5
  go_wp2_with fail
  refine (h1 _).mono ?_
  rintro e w1 ⟨rfl, g1⟩
  go_wp2
  go_ret2
  refine ⟨w1.heap.size + 1, w1.heap.size, ?_, ⟨?_, ?_⟩, ?_, ?_, g1.size⟩
  · simp
  · have := heap_alloc_new (w1.alloc (.map #[] 0)) (.cells #[.complex .f64 x y, .map (some w1.heap.size)] 39 (0, 0)); simpa using this
  · exact (Mo.new w1).gr (Gr.alloc _ _ (fun _ => False)) id
  · exact g1.trans ((Gr.alloc _ _ _).trans (Gr.alloc _ _ _))
  · have := g1.size; omega

set_option maxRecDepth 20000 in
set_option maxHeartbeats 1000000 in
theorem hear_c (W : World) (p mb px py n : Nat) (R : Int → Option Value) (h : Ch W p mb px py n R) (hn : n ≤ 1000) (node trip : Int) (zx zy x y : Nat) (h1 : 1 ≤ node) (h2 : node ≤ 64) (hx : Pl zx) (hy : Pl zy) (h3 : 0 ≤ trip) (h4 : trip ≤ 1048576)
    (hm : ∀ w, Calls Try.prog 11 #[.complex .f64 px py, .complex .f64 zx zy, .int .i64 trip] w fun e w' => e = .returned (.complex .f64 x y) ∧ G0 w w') :
    Calls Try.prog 6 #[pt p, .int .i64 node, .complex .f64 zx zy, .int .i64 trip] W fun e w' => e = .returned (.int .i64 0) ∧ Ch w' p mb x y (n + 1) (ins R node (.complex .f64 zx zy)) ∧ Gr (fun k => k = p ∨ k = mb) W w' := by
  have k1 := place_c zx zy hx hy
  have hwf := wf64 (k := node) (by omega) (by omega)
  clear hx hy
  go_enter Try.func6, Try.ntmps6
  go_wp2_with fail
  refine (k1 _).mono ?_
  rintro e w1 ⟨rfl, g1⟩
  have c1 := h.g0 g1
  obtain ⟨w2, hr, m2, g2⟩ := c1.map.put node hwf (by omega) (.complex .f64 zx zy)
  have c2 : Ch w2 p mb px py (n + 1) (ins R node (.complex .f64 zx zy)) := ⟨(g2.block p c1.lt c1.ne).trans c1.blk, m2⟩
  obtain ⟨a0, a1, a2, a3⟩ := c1.facts
  obtain ⟨b0, b1, b2, b3⟩ := c2.facts
  go_wp2_with fail
  refine (hm _).mono ?_
  rintro e w3 ⟨rfl, g3⟩
  have c3 := c2.g0 g3
  obtain ⟨d0, d1, d2, d3⟩ := c3.facts
  go_wp2_with fail
  go_ret
  refine ⟨rfl, c3.move x y, ?_⟩
  exact (g1.of0 (S := fun k => k = p ∨ k = mb)).trans ((g2.mono (fun _ _ e => .inr e)).trans ((g3.of0).trans (Gr.set _ _ _ (.inl rfl))))
theorem own_c (W : World) (p mb x y n : Nat) (R : Int → Option Value) (h : Ch W p mb x y n R) : Calls Try.prog 7 #[pt p] W fun e w' => e = .returned (.complex .f64 x y) ∧ W = w' := by
  obtain ⟨a0, a1, a2, a3⟩ := h.facts
  go_enter Try.func7, Try.ntmps7
  go_wp2
  go_ret
  exact ⟨rfl, rfl⟩
theorem of_c (W : World) (p mb x y n : Nat) (R : Int → Option Value) (h : Ch W p mb x y n R) (node : Int) (zx zy : Nat) (hk : (Lit.int .i64 node).wf = true) (hR : R node = some (.complex .f64 zx zy)) :
    Calls Try.prog 8 #[pt p, .int .i64 node] W fun e w' => e = .returned (.tuple #[.complex .f64 zx zy, .bool true]) ∧ W = w' := by
  obtain ⟨a0, a1, a2, a3⟩ := h.facts
  have hl := h.map.look node hk
  rw [hR] at hl
  simp only [Option.getD_some, Option.isSome_some] at hl
  clear hk
  go_enter Try.func8, Try.ntmps8
  go_wp2
  go_ret2
  exact ⟨rfl, rfl⟩
theorem far_some (W : World) (p mb x y n : Nat) (R : Int → Option Value) (h : Ch W p mb x y n R) (node : Int) (zx zy dx dy a b s : Nat) (hk : (Lit.int .i64 node).wf = true) (hR : R node = some (.complex .f64 zx zy))
    (h1 : sb x zx dx) (h2 : sb y zy dy) (h3 : ml dx dx a) (h4 : ml dy dy b) (h5 : ad a b s) :
    Calls Try.prog 14 #[pt p, .int .i64 node] W fun e w' => e = .returned (.tuple #[.int .i64 0, .float .f64 s]) ∧ W = w' := by
  obtain ⟨a0, a1, a2, a3⟩ := h.facts
  have hl := h.map.look node hk
  rw [hR] at hl
  simp only [Option.getD_some, Option.isSome_some] at hl
  have r1 := run_csb h1 h2
  have r2 := square_c dx dy a b s h3 h4 h5
  clear hk h1 h2 h3 h4 h5
  go_enter Try.func14, Try.ntmps14
  go_wp2_with fail
  refine (r2 _).mono ?_
  rintro e w' ⟨rfl, rfl⟩
  go_wp2_with fail
  go_ret2
  exact ⟨rfl, rfl⟩
theorem far_none (W : World) (p mb x y n : Nat) (R : Int → Option Value) (h : Ch W p mb x y n R) (node : Int) (hk : (Lit.int .i64 node).wf = true) (hR : R node = none) :
    Calls Try.prog 14 #[pt p, .int .i64 node] W fun e w' => e = .returned (.tuple #[.int .i64 1, .float .f64 0]) ∧ W = w' := by
  obtain ⟨a0, a1, a2, a3⟩ := h.facts
  have hl := h.map.look node hk
  rw [hR] at hl
  simp only [Option.getD_none, Option.isSome_none] at hl
  clear hk
  go_enter Try.func14, Try.ntmps14
  go_wp2
  go_ret2
  exact ⟨rfl, rfl⟩
end Go.Proofs.Ytedmfnleckelaaa
