/-
  The reference's reader: Decode.
  The walk of EtfDecodes.
-/
import Derived.Test.YtmohehfkbhllpaaGreatVM
import Derived.Test.YtmohehfkbhllpaaGreatVS
import Derived.Test.YtmohehfkbhllpaaGreatXA
import Derived.Test.YtmohehfkbhllpaaGreatMD
set_option linter.unusedVariables false
set_option linter.unusedSimpArgs false
namespace Go.Proofs.YtmohehfkbhllpaaGreat
open Go.RowKit Go.Maps
variable {S S' Z : Nat → Prop} {W W1 W' : World}
theorem Sd.turn {sb tb : Nat} {bv nv : Value} {i n : Nat} {c : Int} {T : Array Value} {X X' : World} (h : Sd W sb tb bv nv i n c T X) (g : Gr (fun _ => False) X X') : Sd W sb tb bv nv i n c T X' :=
  ⟨g.keep h.res (fun e => e), g.keep h.st (fun e => e), g.keep h.tm (fun e => e), h.gr.trans g, h.l1, h.l2⟩
theorem Sd.set {sb tb : Nat} {bv nv : Value} {i n : Nat} {c : Int} {T : Array Value} {X : World} (h : Sd W sb tb bv nv i n c T X) (bv' nv' : Value) (i' n' : Nat) (c' : Int) :
    Sd W sb tb bv' nv' i' n' c' T (((((X.setCell ⟨sb, 0, none⟩ bv').setCell ⟨sb, 1, none⟩ (.int .i64 (i' : Int))).setCell ⟨sb, 2, none⟩ (.int .i64 (n' : Int))).setCell ⟨sb, 3, none⟩ nv').setCell ⟨sb, 4, none⟩ (.int .i64 c')) := by
  have h1 := h.l1
  have h2 := h.l2
  have g := Gr.own5 X sb bv' (.int .i64 (i' : Int)) (.int .i64 (n' : Int)) nv' (.int .i64 c')
  exact ⟨g.keep h.res (by omega), set5_same h.st, g.keep h.tm (by omega), h.gr.set5 (by omega) _ _ _ _ _, h1, h2⟩
theorem set9_same {X : World} {g : Nat} {x0 x1 x2 x3 x4 x5 x6 x7 x8 v0 v1 v2 v3 v4 v5 v6 v7 v8 : Value} (h : X.heap[g]? = some (.cells #[x0, x1, x2, x3, x4, x5, x6, x7, x8] 31 (0, 0))) :
    (((((((((X.setCell ⟨g, 0, none⟩ v0).setCell ⟨g, 1, none⟩ v1).setCell ⟨g, 2, none⟩ v2).setCell ⟨g, 3, none⟩ v3).setCell ⟨g, 4, none⟩ v4).setCell ⟨g, 5, none⟩ v5).setCell ⟨g, 6, none⟩ v6).setCell ⟨g, 7, none⟩ v7).setCell ⟨g, 8, none⟩ v8).heap[g]? = some (.cells #[v0, v1, v2, v3, v4, v5, v6, v7, v8] 31 (0, 0)) := by
  obtain ⟨W0, hW0⟩ : ∃ W0, X.setCell ⟨g, 0, none⟩ v0 = W0 := ⟨_, rfl⟩
  have h0 : W0.heap[g]? = some (.cells #[v0, x1, x2, x3, x4, x5, x6, x7, x8] 31 (0, 0)) := hW0 ▸ heap_setCell_same X g 0 _ 31 _ h
  obtain ⟨W1, hW1⟩ : ∃ W1, W0.setCell ⟨g, 1, none⟩ v1 = W1 := ⟨_, rfl⟩
  have h1 : W1.heap[g]? = some (.cells #[v0, v1, x2, x3, x4, x5, x6, x7, x8] 31 (0, 0)) := hW1 ▸ heap_setCell_same W0 g 1 _ 31 _ h0
  obtain ⟨W2, hW2⟩ : ∃ W2, W1.setCell ⟨g, 2, none⟩ v2 = W2 := ⟨_, rfl⟩
  have h2 : W2.heap[g]? = some (.cells #[v0, v1, v2, x3, x4, x5, x6, x7, x8] 31 (0, 0)) := hW2 ▸ heap_setCell_same W1 g 2 _ 31 _ h1
  obtain ⟨W3, hW3⟩ : ∃ W3, W2.setCell ⟨g, 3, none⟩ v3 = W3 := ⟨_, rfl⟩
  have h3 : W3.heap[g]? = some (.cells #[v0, v1, v2, v3, x4, x5, x6, x7, x8] 31 (0, 0)) := hW3 ▸ heap_setCell_same W2 g 3 _ 31 _ h2
  obtain ⟨W4, hW4⟩ : ∃ W4, W3.setCell ⟨g, 4, none⟩ v4 = W4 := ⟨_, rfl⟩
  have h4 : W4.heap[g]? = some (.cells #[v0, v1, v2, v3, v4, x5, x6, x7, x8] 31 (0, 0)) := hW4 ▸ heap_setCell_same W3 g 4 _ 31 _ h3
  obtain ⟨W5, hW5⟩ : ∃ W5, W4.setCell ⟨g, 5, none⟩ v5 = W5 := ⟨_, rfl⟩
  have h5 : W5.heap[g]? = some (.cells #[v0, v1, v2, v3, v4, v5, x6, x7, x8] 31 (0, 0)) := hW5 ▸ heap_setCell_same W4 g 5 _ 31 _ h4
  obtain ⟨W6, hW6⟩ : ∃ W6, W5.setCell ⟨g, 6, none⟩ v6 = W6 := ⟨_, rfl⟩
  have h6 : W6.heap[g]? = some (.cells #[v0, v1, v2, v3, v4, v5, v6, x7, x8] 31 (0, 0)) := hW6 ▸ heap_setCell_same W5 g 6 _ 31 _ h5
  obtain ⟨W7, hW7⟩ : ∃ W7, W6.setCell ⟨g, 7, none⟩ v7 = W7 := ⟨_, rfl⟩
  have h7 : W7.heap[g]? = some (.cells #[v0, v1, v2, v3, v4, v5, v6, v7, x8] 31 (0, 0)) := hW7 ▸ heap_setCell_same W6 g 7 _ 31 _ h6
  rw [hW0, hW1, hW2, hW3, hW4, hW5, hW6, hW7]
  exact heap_setCell_same W7 g 8 _ 31 _ h7
theorem Sd.put {sb tb : Nat} {bv nv : Value} {i n : Nat} {c : Int} {x0 x1 x2 x3 x4 x5 x6 x7 x8 : Value} {X : World} (h : Sd W sb tb bv nv i n c #[x0, x1, x2, x3, x4, x5, x6, x7, x8] X) (v0 v1 v2 v3 v4 v5 v6 v7 v8 : Value) :
    Sd W sb tb bv nv i n c #[v0, v1, v2, v3, v4, v5, v6, v7, v8] (((((((((X.setCell ⟨tb, 0, none⟩ v0).setCell ⟨tb, 1, none⟩ v1).setCell ⟨tb, 2, none⟩ v2).setCell ⟨tb, 3, none⟩ v3).setCell ⟨tb, 4, none⟩ v4).setCell ⟨tb, 5, none⟩ v5).setCell ⟨tb, 6, none⟩ v6).setCell ⟨tb, 7, none⟩ v7).setCell ⟨tb, 8, none⟩ v8) := by
  have h1 := h.l1
  have h2 := h.l2
  have g := Gr.own9 X tb v0 v1 v2 v3 v4 v5 v6 v7 v8
  exact ⟨g.keep h.res (by omega), g.keep h.st (by omega), set9_same h.tm, h.gr.set9 (by omega) _ _ _ _ _ _ _ _ _, h1, h2⟩
theorem Sd.new (W w1 : World) (g1 : Gr (fun _ => False) (W.alloc oz9) w1) (bv nv : Value) (i n : Nat) (c : Int) : Sd W w1.heap.size (w1.heap.size + 1) bv nv i n c #[.int .i64 0, .int .i64 0, .complex .f64 0 0, .string e0, .int .i64 0, .int .u32 0, .int .u64 0, nl, nl] ((w1.alloc (.cells #[bv, .int .i64 (i : Int), .int .i64 (n : Int), nv, .int .i64 c] 51)).alloc oz9) := by
  have hR := g1.keep (heap_alloc_new W oz9) (fun e => e)
  have l0 := (Array.getElem?_eq_some_iff.1 hR).1
  have ga := Gr.alloc w1 (.cells #[bv, .int .i64 (i : Int), .int .i64 (n : Int), nv, .int .i64 c] 51) (fun _ => False)
  have gb := Gr.alloc (w1.alloc (.cells #[bv, .int .i64 (i : Int), .int .i64 (n : Int), nv, .int .i64 c] 51)) oz9 (fun _ => False)
  have hb := heap_alloc_new (w1.alloc (.cells #[bv, .int .i64 (i : Int), .int .i64 (n : Int), nv, .int .i64 c] 51)) oz9
  rw [World.size_alloc] at hb
  exact ⟨gb.keep (ga.keep hR (fun e => e)) (fun e => e), gb.keep (heap_alloc_new w1 _) (fun e => e), hb, (((Gr.alloc W oz9 _).trans g1).trans ga).trans gb, l0, Nat.lt_succ_self _⟩
set_option maxRecDepth 20000 in
set_option maxHeartbeats 1600000 in
theorem refdec_er (ba : Option Addr) (bc : Nat) (m : List Int) (hx : m[0]? = some 69) (hml : (m.length : Int) ≤ 131072) (W : World) (hq : Sq Z W (.slice ba m.length bc) m) (c : Int) (hr : ptq 24 (m.drop 1) 0 [] = .error c) : Calls Tryz.prog 6 #[(.slice ba m.length bc)] W fun e w' => EndV W e w' (.error c) := by
  have h1 := Lib.hid (fun W (hq : Sq Z W (.slice ba m.length bc) m) => (show Calls Tryz.prog 14 #[.agg #[(.slice ba m.length bc), .int .i64 0, .int .i64 0, .slice none 0 0, .int .i64 0]] W fun e w' => e = .returned (.tuple #[.agg #[(.slice ba m.length bc), .int .i64 1, .int .i64 0, .slice none 0 0, .int .i64 0], .int .u8 69]) ∧ Gr (fun _ => False) W w' from rone_ok ba bc none 0 0 0 0 m 69 hx W hq))
  have hi : 1 ≤ m.length := (List.getElem?_eq_some_iff.1 hx).1
  have h2 := Lib.hid (fun W (hq : Sq Z W (.slice ba m.length bc) m) => (show Calls Tryz.prog 16 #[.agg #[(.slice ba m.length bc), .int .i64 1, .int .i64 0, .slice none 0 0, .int .i64 0], .int .i64 1] W fun e w' => EndP ba bc m W e w' (ptq 24 (m.drop 1) 0 []) ∧ Gr (fun _ => False) W w' from partR Z ba bc m 24 W none 0 [] 1 0 1 (by decide) (by decide) hi (by decide) hq ⟨by simp, .inl ⟨rfl, none, 0, rfl⟩⟩ (Nat.le_refl _)))
  rw [hr] at h2
  have hnI : decide ((131072 : Int) < (m.length : Int)) = false := by simp; omega
  have hnN : decide (131072 < m.length) = false := by simp; omega
  have Hq := Lib.hid hq
  have hc : (c == 0) = false := by have := ptq_er _ _ _ _ _ hr; simp; omega
  have hcn : (c != 0) = true := by rw [bne, hc]; rfl
  clear hx hq hi hr
  go_enter Tryz.func6, Tryz.ntmps6
  go_wp2_with fail
  refine (h1.out _ (Hq.out.gr (Gr.alloc W oz9 (fun _ => False)) (fun _ _ e => e))).mono ?_
  rintro e w1 ⟨rfl, g1⟩
  have D0 := Lib.hid (Sd.new W w1 g1 (.slice ba m.length bc) (.slice none 0 0) 1 0 0)
  clear g1 h1
  go_wp2_with fail
  generalize World.alloc (World.alloc w1 _) _ = X1 at D0 ⊢
  generalize w1.heap.size + 1 = tb at D0 ⊢
  generalize w1.heap.size = sb at D0 ⊢
  refine (h2.out _ (Hq.out.gr D0.out.gr (fun _ _ e => e))).mono ?_
  rintro e w2 ⟨⟨j, n, na, nn, nc, tk, tn, tx, ty, ts, ta, tc, td, a1, a2, q1, c1, q2, c2, rfl⟩, g2⟩
  have D1 := Lib.hid (D0.out.turn g2)
  obtain ⟨⟨x0, x1, x2, x3, x4⟩, xf0, xf1, xf2, xf3, xf4⟩ := five D1.out.st
  obtain ⟨⟨t0, t1, t2, t3, t4, t5, t6, t7, t8⟩, tf⟩ := nine D1.out.tm
  obtain ⟨⟨z0, z1, z2, z3, z4, z5, z6, z7, z8⟩, zf⟩ := nine D1.out.res
  have l0 := (Array.getElem?_eq_some_iff.1 D1.out.res).1
  have l1 := (Array.getElem?_eq_some_iff.1 D1.out.st).1
  have l2 := (Array.getElem?_eq_some_iff.1 D1.out.tm).1
  have ne1 : ¬ sb = W.heap.size := by have := D1.out.l1; omega
  have ne2 : ¬ W.heap.size = sb := by have := D1.out.l1; omega
  have ne3 : ¬ tb = W.heap.size := by have := D1.out.l1; have := D1.out.l2; omega
  have ne4 : ¬ W.heap.size = tb := by have := D1.out.l1; have := D1.out.l2; omega
  have ne5 : ¬ tb = sb := by have := D1.out.l2; omega
  have ne6 : ¬ sb = tb := by have := D1.out.l2; omega
  have D2 := Lib.hid ((D1.out.set (.slice ba m.length bc) (.slice na nn nc) j n c).put (.int .i64 tk) (.int .i64 tn) (.complex .f64 tx ty) (.string ts) (.int .i64 ta) (.int .u32 tc) (.int .u64 td) (.slice a1 q1 c1) (.slice a2 q2 c2))
  clear g2 D0 h2 D1
  go_wp2_with fail
  generalize World.setCell _ ⟨tb, 8, none⟩ _ = X2 at D2 ⊢
  clear x0 x1 x2 x3 x4 xf0 xf1 xf2 xf3 xf4 t0 t1 t2 t3 t4 t5 t6 t7 t8 tf z0 z1 z2 z3 z4 z5 z6 z7 z8 zf l0 l1 l2
  obtain ⟨⟨x0, x1, x2, x3, x4⟩, xf0, xf1, xf2, xf3, xf4⟩ := five D2.out.st
  obtain ⟨⟨t0, t1, t2, t3, t4, t5, t6, t7, t8⟩, tf⟩ := nine D2.out.tm
  obtain ⟨⟨z0, z1, z2, z3, z4, z5, z6, z7, z8⟩, zf⟩ := nine D2.out.res
  have l0 := (Array.getElem?_eq_some_iff.1 D2.out.res).1
  have l1 := (Array.getElem?_eq_some_iff.1 D2.out.st).1
  have l2 := (Array.getElem?_eq_some_iff.1 D2.out.tm).1
  have HG := Lib.hid D2.out.gr
  go_region
  all_goals
    go_wp2
    refine bodyPost_ret (v := .tuple #[lf 0 0 0 0 e0 0 0 0, .int .i64 c]) (by simp [results, Tryz.results6, go_sem, z0, z1, z2, z3, z4, z5, z6, z7, z8, l0, l1]) rfl ?_
    exact ⟨rfl, (HG.out.set9 (Nat.le_refl _) _ _ _ _ _ _ _ _ _).trans (Gr.drew _ _)⟩
set_option maxRecDepth 20000 in
set_option maxHeartbeats 1600000 in
theorem refdec_more (ba : Option Addr) (bc : Nat) (m : List Int) (hx : m[0]? = some 69) (hml : (m.length : Int) ≤ 131072) (W : World) (hq : Sq Z W (.slice ba m.length bc) m) (T : Tm) (r : List Int) (n' : Nat) (l' : List ByteArray) (hr : ptq 24 (m.drop 1) 0 [] = .ok (T, r, n', l')) (hne : r ≠ []) : Calls Tryz.prog 6 #[(.slice ba m.length bc)] W fun e w' => EndV W e w' (.error 74) := by
  have h1 := Lib.hid (fun W (hq : Sq Z W (.slice ba m.length bc) m) => (show Calls Tryz.prog 14 #[.agg #[(.slice ba m.length bc), .int .i64 0, .int .i64 0, .slice none 0 0, .int .i64 0]] W fun e w' => e = .returned (.tuple #[.agg #[(.slice ba m.length bc), .int .i64 1, .int .i64 0, .slice none 0 0, .int .i64 0], .int .u8 69]) ∧ Gr (fun _ => False) W w' from rone_ok ba bc none 0 0 0 0 m 69 hx W hq))
  have hi : 1 ≤ m.length := (List.getElem?_eq_some_iff.1 hx).1
  have h2 := Lib.hid (fun W (hq : Sq Z W (.slice ba m.length bc) m) => (show Calls Tryz.prog 16 #[.agg #[(.slice ba m.length bc), .int .i64 1, .int .i64 0, .slice none 0 0, .int .i64 0], .int .i64 1] W fun e w' => EndP ba bc m W e w' (ptq 24 (m.drop 1) 0 []) ∧ Gr (fun _ => False) W w' from partR Z ba bc m 24 W none 0 [] 1 0 1 (by decide) (by decide) hi (by decide) hq ⟨by simp, .inl ⟨rfl, none, 0, rfl⟩⟩ (Nat.le_refl _)))
  rw [hr] at h2
  have hnI : decide ((131072 : Int) < (m.length : Int)) = false := by simp; omega
  have hnN : decide (131072 < m.length) = false := by simp; omega
  have Hq := Lib.hid hq
  clear hx hq hi hr
  go_enter Tryz.func6, Tryz.ntmps6
  go_wp2_with fail
  refine (h1.out _ (Hq.out.gr (Gr.alloc W oz9 (fun _ => False)) (fun _ _ e => e))).mono ?_
  rintro e w1 ⟨rfl, g1⟩
  have D0 := Lib.hid (Sd.new W w1 g1 (.slice ba m.length bc) (.slice none 0 0) 1 0 0)
  clear g1 h1
  go_wp2_with fail
  generalize World.alloc (World.alloc w1 _) _ = X1 at D0 ⊢
  generalize w1.heap.size + 1 = tb at D0 ⊢
  generalize w1.heap.size = sb at D0 ⊢
  refine (h2.out _ (Hq.out.gr D0.out.gr (fun _ _ e => e))).mono ?_
  rintro e w2 ⟨⟨j, na, nc, v, hj, hjr, rfl, hrep, hsn, hn, hl⟩, g2⟩
  obtain ⟨tk, tn, tx, ty, ts, ta, tc, td, a1, q1, c1, a2, q2, c2, rfl⟩ := hrep.agg
  have hjl : j < m.length := by
    rcases Nat.lt_or_ge j m.length with h | h
    · exact h
    · exact absurd (by rw [← hjr]; exact List.drop_eq_nil_of_le h) hne
  have hjI : (j : Int) < (m.length : Int) := by omega
  have hjN : decide (j < m.length) = true := by simp; omega
  have D1 := Lib.hid (D0.out.turn g2)
  obtain ⟨⟨x0, x1, x2, x3, x4⟩, xf0, xf1, xf2, xf3, xf4⟩ := five D1.out.st
  obtain ⟨⟨t0, t1, t2, t3, t4, t5, t6, t7, t8⟩, tf⟩ := nine D1.out.tm
  obtain ⟨⟨z0, z1, z2, z3, z4, z5, z6, z7, z8⟩, zf⟩ := nine D1.out.res
  have l0 := (Array.getElem?_eq_some_iff.1 D1.out.res).1
  have l1 := (Array.getElem?_eq_some_iff.1 D1.out.st).1
  have l2 := (Array.getElem?_eq_some_iff.1 D1.out.tm).1
  have ne1 : ¬ sb = W.heap.size := by have := D1.out.l1; omega
  have ne2 : ¬ W.heap.size = sb := by have := D1.out.l1; omega
  have ne3 : ¬ tb = W.heap.size := by have := D1.out.l1; have := D1.out.l2; omega
  have ne4 : ¬ W.heap.size = tb := by have := D1.out.l1; have := D1.out.l2; omega
  have ne5 : ¬ tb = sb := by have := D1.out.l2; omega
  have ne6 : ¬ sb = tb := by have := D1.out.l2; omega
  have D2 := Lib.hid ((D1.out.set (.slice ba m.length bc) (.slice na l'.length nc) j n' 0).put (.int .i64 tk) (.int .i64 tn) (.complex .f64 tx ty) (.string ts) (.int .i64 ta) (.int .u32 tc) (.int .u64 td) (.slice a1 q1 c1) (.slice a2 q2 c2))
  clear g2 D0 h2 D1 hrep hsn hn hl hj hjr hne hjl
  have h3 := Lib.hid (fail_new ba m.length bc na l'.length nc j n' 74)
  go_wp2_with fail
  generalize World.setCell _ ⟨tb, 8, none⟩ _ = X2 at D2 ⊢
  clear x0 x1 x2 x3 x4 xf0 xf1 xf2 xf3 xf4 t0 t1 t2 t3 t4 t5 t6 t7 t8 tf z0 z1 z2 z3 z4 z5 z6 z7 z8 zf l0 l1 l2
  refine (h3.out _).mono ?_
  rintro e w3 ⟨rfl, g3⟩
  have D3 := Lib.hid (D2.out.turn g3)
  obtain ⟨⟨x0, x1, x2, x3, x4⟩, xf0, xf1, xf2, xf3, xf4⟩ := five D3.out.st
  obtain ⟨⟨t0, t1, t2, t3, t4, t5, t6, t7, t8⟩, tf⟩ := nine D3.out.tm
  obtain ⟨⟨z0, z1, z2, z3, z4, z5, z6, z7, z8⟩, zf⟩ := nine D3.out.res
  have l0 := (Array.getElem?_eq_some_iff.1 D3.out.res).1
  have l1 := (Array.getElem?_eq_some_iff.1 D3.out.st).1
  have l2 := (Array.getElem?_eq_some_iff.1 D3.out.tm).1
  have D4 := Lib.hid (D3.out.set (.slice ba m.length bc) (.slice na l'.length nc) j n' 74)
  clear D2 g3 h3 D3
  go_wp2_with fail
  generalize World.setCell (World.setCell (World.setCell (World.setCell (World.setCell w3 _ _) _ _) _ _) _ _) _ _ = X4 at D4 ⊢
  clear x0 x1 x2 x3 x4 xf0 xf1 xf2 xf3 xf4 t0 t1 t2 t3 t4 t5 t6 t7 t8 tf z0 z1 z2 z3 z4 z5 z6 z7 z8 zf l0 l1 l2
  obtain ⟨⟨x0, x1, x2, x3, x4⟩, xf0, xf1, xf2, xf3, xf4⟩ := five D4.out.st
  obtain ⟨⟨t0, t1, t2, t3, t4, t5, t6, t7, t8⟩, tf⟩ := nine D4.out.tm
  obtain ⟨⟨z0, z1, z2, z3, z4, z5, z6, z7, z8⟩, zf⟩ := nine D4.out.res
  have l0 := (Array.getElem?_eq_some_iff.1 D4.out.res).1
  have l1 := (Array.getElem?_eq_some_iff.1 D4.out.st).1
  have l2 := (Array.getElem?_eq_some_iff.1 D4.out.tm).1
  have HG := Lib.hid D4.out.gr
  go_region
  all_goals
    go_wp2
    refine bodyPost_ret (v := .tuple #[lf 0 0 0 0 e0 0 0 0, .int .i64 74]) (by simp [results, Tryz.results6, go_sem, z0, z1, z2, z3, z4, z5, z6, z7, z8, l0, l1]) rfl ?_
    exact ⟨rfl, (HG.out.set9 (Nat.le_refl _) _ _ _ _ _ _ _ _ _).trans (Gr.drew _ _)⟩
set_option maxRecDepth 20000 in
set_option maxHeartbeats 1600000 in
theorem refdec_ok (ba : Option Addr) (bc : Nat) (m : List Int) (hx : m[0]? = some 69) (hml : (m.length : Int) ≤ 131072) (W : World) (hq : Sq Z W (.slice ba m.length bc) m) (T : Tm) (n' : Nat) (l' : List ByteArray) (hr : ptq 24 (m.drop 1) 0 [] = .ok (T, [], n', l')) : Calls Tryz.prog 6 #[(.slice ba m.length bc)] W fun e w' => EndV W e w' (.ok T) := by
  have h1 := Lib.hid (fun W (hq : Sq Z W (.slice ba m.length bc) m) => (show Calls Tryz.prog 14 #[.agg #[(.slice ba m.length bc), .int .i64 0, .int .i64 0, .slice none 0 0, .int .i64 0]] W fun e w' => e = .returned (.tuple #[.agg #[(.slice ba m.length bc), .int .i64 1, .int .i64 0, .slice none 0 0, .int .i64 0], .int .u8 69]) ∧ Gr (fun _ => False) W w' from rone_ok ba bc none 0 0 0 0 m 69 hx W hq))
  have hi : 1 ≤ m.length := (List.getElem?_eq_some_iff.1 hx).1
  have h2 := Lib.hid (fun W (hq : Sq Z W (.slice ba m.length bc) m) => (show Calls Tryz.prog 16 #[.agg #[(.slice ba m.length bc), .int .i64 1, .int .i64 0, .slice none 0 0, .int .i64 0], .int .i64 1] W fun e w' => EndP ba bc m W e w' (ptq 24 (m.drop 1) 0 []) ∧ Gr (fun _ => False) W w' from partR Z ba bc m 24 W none 0 [] 1 0 1 (by decide) (by decide) hi (by decide) hq ⟨by simp, .inl ⟨rfl, none, 0, rfl⟩⟩ (Nat.le_refl _)))
  rw [hr] at h2
  have hnI : decide ((131072 : Int) < (m.length : Int)) = false := by simp; omega
  have hnN : decide (131072 < m.length) = false := by simp; omega
  have Hq := Lib.hid hq
  clear hx hq hi hr
  go_enter Tryz.func6, Tryz.ntmps6
  go_wp2_with fail
  refine (h1.out _ (Hq.out.gr (Gr.alloc W oz9 (fun _ => False)) (fun _ _ e => e))).mono ?_
  rintro e w1 ⟨rfl, g1⟩
  have D0 := Lib.hid (Sd.new W w1 g1 (.slice ba m.length bc) (.slice none 0 0) 1 0 0)
  clear g1 h1
  go_wp2_with fail
  generalize World.alloc (World.alloc w1 _) _ = X1 at D0 ⊢
  generalize w1.heap.size + 1 = tb at D0 ⊢
  generalize w1.heap.size = sb at D0 ⊢
  refine (h2.out _ (Hq.out.gr D0.out.gr (fun _ _ e => e))).mono ?_
  rintro e w2 ⟨⟨j, na, nc, v, hj, hjr, rfl, hrep, hsn, hn, hl⟩, g2⟩
  obtain ⟨tk, tn, tx, ty, ts, ta, tc, td, a1, q1, c1, a2, q2, c2, rfl⟩ := hrep.agg
  have hjl : m.length ≤ j := List.drop_eq_nil_iff.1 hjr
  have hjI : decide ((j : Int) < (m.length : Int)) = false := by simp; omega
  have hjN : decide (j < m.length) = false := by simp; omega
  have D1 := Lib.hid (D0.out.turn g2)
  obtain ⟨⟨x0, x1, x2, x3, x4⟩, xf0, xf1, xf2, xf3, xf4⟩ := five D1.out.st
  obtain ⟨⟨t0, t1, t2, t3, t4, t5, t6, t7, t8⟩, tf⟩ := nine D1.out.tm
  obtain ⟨⟨z0, z1, z2, z3, z4, z5, z6, z7, z8⟩, zf⟩ := nine D1.out.res
  have l0 := (Array.getElem?_eq_some_iff.1 D1.out.res).1
  have l1 := (Array.getElem?_eq_some_iff.1 D1.out.st).1
  have l2 := (Array.getElem?_eq_some_iff.1 D1.out.tm).1
  have ne1 : ¬ sb = W.heap.size := by have := D1.out.l1; omega
  have ne2 : ¬ W.heap.size = sb := by have := D1.out.l1; omega
  have ne3 : ¬ tb = W.heap.size := by have := D1.out.l1; have := D1.out.l2; omega
  have ne4 : ¬ W.heap.size = tb := by have := D1.out.l1; have := D1.out.l2; omega
  have ne5 : ¬ tb = sb := by have := D1.out.l2; omega
  have ne6 : ¬ sb = tb := by have := D1.out.l2; omega
  have D2 := Lib.hid ((D1.out.set (.slice ba m.length bc) (.slice na l'.length nc) j n' 0).put (.int .i64 tk) (.int .i64 tn) (.complex .f64 tx ty) (.string ts) (.int .i64 ta) (.int .u32 tc) (.int .u64 td) (.slice a1 q1 c1) (.slice a2 q2 c2))
  have R2 := Lib.hid (hrep.turn (A' := fun k => tb < k) (W' := w2) (fun z hz hlt => ⟨by have := (Array.getElem?_eq_some_iff.1 D0.out.tm).1; omega, rfl⟩))
  have R3 := Lib.hid (R2.out.turn (A' := fun k => tb < k) (fun z hz hlt => ⟨hz, (((Gr.own5 w2 sb (.slice ba m.length bc) (.int .i64 (j : Int)) (.int .i64 (n' : Int)) (.slice na l'.length nc) (.int .i64 0)).mono (S' := fun k => k ≤ tb) (fun k _ e => by have := D1.out.l2; omega)).trans ((Gr.own9 _ tb (.int .i64 tk) (.int .i64 tn) (.complex .f64 tx ty) (.string ts) (.int .i64 ta) (.int .u32 tc) (.int .u64 td) (.slice a1 q1 c1) (.slice a2 q2 c2)).mono (fun k _ e => by omega))).block z hlt (by omega)⟩))
  clear g2 D0 h2 D1 hrep hsn hn hl hj hjr hjl R2
  go_wp2_with fail
  generalize World.setCell _ ⟨tb, 8, none⟩ _ = X2 at D2 R3 ⊢
  clear x0 x1 x2 x3 x4 xf0 xf1 xf2 xf3 xf4 t0 t1 t2 t3 t4 t5 t6 t7 t8 tf z0 z1 z2 z3 z4 z5 z6 z7 z8 zf l0 l1 l2
  obtain ⟨⟨x0, x1, x2, x3, x4⟩, xf0, xf1, xf2, xf3, xf4⟩ := five D2.out.st
  obtain ⟨⟨t0, t1, t2, t3, t4, t5, t6, t7, t8⟩, tf⟩ := nine D2.out.tm
  obtain ⟨⟨z0, z1, z2, z3, z4, z5, z6, z7, z8⟩, zf⟩ := nine D2.out.res
  have l0 := (Array.getElem?_eq_some_iff.1 D2.out.res).1
  have l1 := (Array.getElem?_eq_some_iff.1 D2.out.st).1
  have l2 := (Array.getElem?_eq_some_iff.1 D2.out.tm).1
  have hl1 := D2.out.l1
  have hl2 := D2.out.l2
  exact bodyPost_ret (v := .tuple #[tv tk tn tx ty ts ta tc td (.slice a1 q1 c1) (.slice a2 q2 c2), .int .i64 0]) (by simp [results, Tryz.results6, go_sem, z0, z1, z2, z3, z4, z5, z6, z7, z8, l0]) rfl ⟨_, rfl, R3.out.turn (fun z hz hlt => ⟨by omega, (Gr.own9 X2 W.heap.size (.int .i64 tk) (.int .i64 tn) (.complex .f64 tx ty) (.string ts) (.int .i64 ta) (.int .u32 tc) (.int .u64 td) (.slice a1 q1 c1) (.slice a2 q2 c2)).block z hlt (by omega)⟩), D2.out.gr.set9 (Nat.le_refl _) _ _ _ _ _ _ _ _ _⟩
theorem refdec_c (W : World) (v : Value) (m : List Int) (hq : Sq Z W v m) : Calls Tryz.prog 6 #[v] W fun e w' => EndV W e w' (decV m) := by
  obtain ⟨ba, bc, rfl, h1, h2, h3, h4⟩ := id hq
  unfold decV
  by_cases hl : 131072 < m.length
  · rw [if_pos hl]; exact refdec_long ba bc m hl W (by omega)
  · rw [if_neg hl]
    cases m with
    | nil => exact refdec_none ba bc W
    | cons x r =>
      show Calls Tryz.prog 6 _ W fun e w' => EndV W e w' (if x = 69 then (match ptq 24 r 0 [] with
        | .error e => .error e
        | .ok (T, m', n', l') => fin7 [] T m' n' l') else .error 71)
      have hml : ((x :: r).length : Int) ≤ 131072 := by omega
      by_cases hx : x = 69
      · rw [if_pos hx]
        subst hx
        rcases hr : ptq 24 r 0 [] with c | ⟨T, r', n', l'⟩
        · exact refdec_er ba bc (69 :: r) rfl hml W hq c hr
        · show Calls Tryz.prog 6 _ W fun e w' => EndV W e w' (if r' = [] then .ok T else .error 74)
          by_cases he : r' = []
          · rw [if_pos he]; subst he
            exact refdec_ok ba bc (69 :: r) rfl hml W hq T n' l' hr
          · rw [if_neg he]
            exact refdec_more ba bc (69 :: r) rfl hml W hq T r' n' l' hr he
      · rw [if_neg hx]; exact refdec_mark ba bc (x :: r) x rfl hx hml W hq
end Go.Proofs.YtmohehfkbhllpaaGreat

namespace Go.Proofs.YtmohehfkbhllpaaGreat
open Go.RowKit Go.Maps
variable {S S' Z : Nat → Prop} {W W1 W' : World}
theorem rep_zero7 (A : Nat → Prop) (W : World) : Rep A W (.mk { k := 0 } [] []) (lf 0 0 0 0 e0 0 0 0) := ⟨_, _, [], rfl, .inl ⟨rfl, _, _, rfl⟩, .inl ⟨rfl, _, _, rfl⟩, rfl⟩
/-- The term and the number that Decode answers. -/
def outT : Except Int Tm → Tm × Int
  | .ok T => (T, 0)
  | .error c => (.mk { k := 0 } [] [], c)
theorem EndV.uni {e : Ending} {r : Except Int Tm} (h : EndV W e W' r) : ∃ v, e = .returned (.tuple #[v, .int .i64 (outT r).2]) ∧ Rep (fun k => W.heap.size ≤ k) W' (outT r).1 v ∧ Gr (fun _ => False) W W' := by
  cases r with
  | ok T => exact h
  | error c => exact ⟨_, h.1, rep_zero7 _ _, h.2⟩
theorem Ob.sq {base : Nat} {v : Value} {l : List Int} (h : Ob base W v l) (hb : ∀ x ∈ l, 0 ≤ x ∧ x < 256) : Sq (fun k => v.ownBlock = some k) W v l := by
  rcases h.row.2 with ⟨rfl, h2⟩ | ⟨g, cap, cur, e, hbb, hg, hc, hm, h5, h6⟩
  · have := List.eq_nil_of_length_eq_zero h2
    subst this
    exact ⟨none, 0, rfl, Nat.le_refl _, by omega, hb, fun e => absurd rfl e⟩
  · refine ⟨_, _, e, hc, by unfold maxLen at hm; omega, hb, fun _ => ⟨g, 0, rfl, by rw [e]; rfl, fun j u hu => ?_⟩⟩
    have hj := (List.getElem?_eq_some_iff.1 hu).1
    have e1 : (cur.toList.take (l.length * 1))[j]? = some (.int .u8 u) := by rw [h6]; simp [u8s, hu]
    rw [List.getElem?_take_of_lt (by omega)] at e1
    simp only [World.cell?, hg, Nat.zero_add]
    simpa using e1
theorem Ob.form {base : Nat} {a : Option Addr} {n cap : Nat} {l : List Int} (h : Ob base W (.slice a n cap) l) (hl : 0 < l.length) : ∃ g, a = some ⟨g, 0, none⟩ ∧ base ≤ g := by
  rcases h.row.2 with ⟨_, h2⟩ | ⟨g, cap, cur, e, hb, _⟩
  · omega
  · cases e; exact ⟨g, rfl, hb⟩
theorem Ob.cell {base g cap : Nat} {l : List Int} {n : Nat} (h : Ob base W (.slice (some ⟨g, 0, none⟩) n cap) l) (hn : n = l.length) {j : Nat} (hj : j < l.length) : W.cell? ⟨g, j, none⟩ = some (.int .u8 (l.getD j 0)) ∧ W.frozen? ⟨g, j, none⟩ = false ∧ g < W.heap.size ∧ n ≤ cap := by
  subst hn
  refine ⟨?_, h.row.frozenAt j, (ownsRow_lt h.row g rfl).2, ?_⟩
  · rw [h.row.cellAt j (by omega)]
    simp [u8s, hj]
  · rcases h.row.2 with ⟨e, _⟩ | ⟨g, cap, cur, e, hb, hg, hc, _⟩
    · cases e
    · cases e; exact hc
theorem Ob.stored {base g cap : Nat} {l : List Int} {n : Nat} (h : Ob base W (.slice (some ⟨g, 0, none⟩) n cap) l) (hn : n = l.length) (j : Nat) (x : Int) : Ob base (W.setCell ⟨g, j, none⟩ (.int .u8 x)) (.slice (some ⟨g, 0, none⟩) n cap) (l.set j x) := by
  subst hn
  refine ⟨by simpa using h.len, ?_⟩
  have := (h.row.stored j (.int .u8 x)).1
  rw [List.length_set, show u8s (l.set j x) = (u8s l).set j (.int .u8 x) by simp [u8s, List.map_set]]
  exact this
set_option maxRecDepth 20000 in
set_option maxHeartbeats 800000 in
theorem decodes_big (hal : AliveOk) (W : World) (ba : Option Addr) (bc : Nat) (m : List Int) (h : 262144 < m.length) (hm : (m.length : Int) ≤ 9223372036854775807) : Calls Tryz.prog 3 #[.slice ba m.length bc] W fun e w' => e = .returned (.bool true) ∧ Gr (fun _ => False) W w' := by
  have ha := hal W
  have hI : (262144 : Int) < (m.length : Int) := by omega
  have hN : decide (262144 < m.length) = true := by simp; omega
  clear h
  go_enter Tryz.func3, Tryz.ntmps3
  go_wp2_with fail
  refine ha.mono ?_
  rintro e w1 ⟨rfl, hg1⟩
  go_wp2_with fail
  go_ret
  exact ⟨by simp, hg1⟩
set_option maxRecDepth 20000 in
set_option maxHeartbeats 1600000 in
theorem decodes_walk (hal : AliveOk) (hdec : DecOk) (W : World) (ba : Option Addr) (bc : Nat) (m : List Int) (hs : m.length ≤ 262144) (hq : Sq Z W (.slice ba m.length bc) m) (hZ : ∀ k, Z k → k < W.heap.size) : Calls Tryz.prog 3 #[.slice ba m.length bc] W fun e w' => e = .returned (.bool true) ∧ Gr (fun _ => False) W w' := by
  have ha := hal W
  have hI : decide ((262144 : Int) < (m.length : Int)) = false := by simp; omega
  have hN : decide (262144 < m.length) = false := by simp; omega
  have hml : (m.length : Int) ≤ 262144 := by omega
  have hby := Lib.hid hq.byte
  have Hq := Lib.hid hq
  have HZ := Lib.hid hZ
  have Hs := Lib.hid hs
  have hd := Lib.hid hdec
  clear hq hZ hs hdec hal
  go_enter Tryz.func3, Tryz.ntmps3
  go_wp2_with fail
  refine ha.mono ?_
  rintro e w1 ⟨rfl, hg1⟩
  clear ha
  have G1 := Lib.hid hg1
  clear hg1
  go_wp2_with (first
    | (at_builtin; with_reducible refine wpList_ap rfl (.tmp 14) (.tmp 15) rfl w1.heap.size (.slice (some ⟨w1.heap.size, 0, none⟩) 0 0) (.slice ba m.length bc) [] m rfl rfl (Ob.lit _ w1 [] (by decide) (Nat.le_refl _) #[] rfl 0 rfl) ((Hq.out.gr (G1.out.trans (Gr.alloc w1 (.cells #[] 5) _)) (fun _ _ e => e)).sbS) (by have := Hs.out; simp; omega) (by simp) ?_; intro v' w2 ho2 hl2; rw [List.nil_append] at ho2; obtain ⟨ca, cc, rfl⟩ := ho2.sv))
  have G2 : Hid (Gr (fun _ => False) W w2) := Lib.hid ((G1.out.trans (Gr.alloc w1 (.cells #[] 5) _)).trans' hl2.gr (fun i hi e => by
    have e1 : w1.heap.size = i := by simpa [Value.ownBlock] using e
    have := G1.out.size
    omega))
  have HO2 := Lib.hid ho2
  have hcall := Lib.hid (hd.out _ w2 _ m (ho2.sq hby.out) (fun k hk => (ownsRow_lt ho2.row k hk).2))
  have HB := Lib.hid (fun k hk => ownsRow_lt ho2.row k hk)
  have hw1 := Lib.hid G1.out.size
  clear ho2 hl2 G1 hd
  refine hcall.out.mono ?_
  rintro e w3 he
  obtain ⟨v3, rfl, hrep3, g3⟩ := he.uni
  obtain ⟨tk, tn, tx, ty, ts, ta, tc, td, a1, n1, c1, a2, n2, c2, rfl⟩ := hrep3.agg
  have hT := Lib.hid (heap_alloc_new w3 (.cells #[.int .i64 tk, .int .i64 tn, .complex .f64 tx ty, .string ts, .int .i64 ta, .int .u32 tc, .int .u64 td, .slice a1 n1 c1, .slice a2 n2 c2] 31))
  have ga := Gr.alloc w3 (.cells #[.int .i64 tk, .int .i64 tn, .complex .f64 tx ty, .string ts, .int .i64 ta, .int .u32 tc, .int .u64 td, .slice a1 n1 c1, .slice a2 n2 c2] 31) (fun _ => False)
  have G3 := Lib.hid ((G2.out.trans g3).trans ga)
  have HO3 := Lib.hid (HO2.out.g0 (g3.trans ga))
  have R3 := Lib.hid (hrep3.turn (A' := fun k => w2.heap.size ≤ k) (fun z hz hlt => ⟨hz, ga.block z hlt (fun e => e)⟩))
  have hw3 := Lib.hid g3.size
  clear he hcall hrep3 g3 ga HO2 G2
  go_wp2_with fail
  generalize w3.alloc _ = X3 at hT G3 HO3 R3 ⊢
  generalize w3.heap.size = tb at hT hw3 ⊢
  go_loopw [6] (fun v wr => ∃ (k : Nat) (lz : List Int), v = .int .i64 (k : Int) ∧ Hid (k ≤ m.length) ∧ Hid (lz.length = m.length) ∧ Hid (Ob w1.heap.size wr (.slice ca m.length cc) lz) ∧ Hid (Gr (fun q => (Value.slice ca m.length cc).ownBlock = some q) X3 wr)) (fun v _ => m.length - (intOf v).toNat)
  case atStart => exact ⟨0, m, rfl, Lib.hid (Nat.zero_le _), Lib.hid rfl, HO3, Lib.hid (Gr.refl _ _)⟩
  case round =>
    obtain ⟨k, lz, rfl, hk, hz, HO, GR⟩ := hrel
    clear HO3
    have hk0 : (0 : Int) ≤ (k : Int) := by omega
    have hkI : (k : Int) ≤ 262144 := by have := hk.out; omega
    rcases Nat.lt_or_ge k m.length with hl | hl
    · have hlI : (k : Int) < (m.length : Int) := by omega
      have hlN : decide (k < m.length) = true := by simp; omega
      obtain ⟨g, rfl, hgb⟩ := HO.out.form (by have := hz.out; omega)
      obtain ⟨q0, q1, q2, q3⟩ := HO.out.cell (by rw [hz.out]) (j := k) (by have := hz.out; omega)
      have Hl := Lib.hid hl
      generalize lz.getD k 0 = x at q0
      have HS := Lib.hid (fun y => HO.out.stored (by rw [hz.out]) k y)
      have GS := Lib.hid (fun y => GR.out.trans ((Gr.set wr ⟨g, k, none⟩ (.int .u8 y) rfl).mono (fun i _ e => by subst e; rfl)))
      clear hl hgb HO GR
      go_wp2_with fail
      refine ⟨⟨k + 1, lz.set k _, by simp, Lib.hid Hl.out, Lib.hid (by rw [List.length_set]; exact hz.out), Lib.hid (HS.out _), Lib.hid (GS.out _)⟩, ?_⟩
      simp [intOf]; have := Hl.out; omega
    · have hlI : decide ((k : Int) < (m.length : Int)) = false := by simp; omega
      have hlN : decide (k < m.length) = false := by simp; omega
      have hcall := Lib.hid (refdec_c wr _ m ((Hq.out.gr G3.out (fun _ _ e => e)).gr GR.out (fun k hk e => by have := HZ.out k hk; have := (HB.out k e).1; have := hw1.out; omega)))
      have hT4 := GR.out.keep hT.out (fun e => by have := (HB.out _ e).2; have := hw3.out; omega)
      have R4 := R3.out.turn (A' := fun k => w2.heap.size ≤ k) (fun z hz hlt => ⟨hz, GR.out.block z hlt (fun e => by have := (HB.out _ e).2; omega)⟩)
      have G4 := Lib.hid (G3.out.trans' GR.out (fun i hi e => by have := (HB.out _ e).1; have := hw1.out; omega))
      clear hl GR HO hT R3 G3
      go_wp2_with fail
      refine hcall.out.mono ?_
      rintro e w5 he
      obtain ⟨v5, rfl, hrep5, g5⟩ := he.uni
      have hT5 := g5.keep hT4 (fun e => e)
      have R5 := R4.turn (A' := fun k => w2.heap.size ≤ k) (fun z hz hlt => ⟨hz, g5.block z hlt (fun e => e)⟩)
      obtain ⟨⟨m0, m1, m2, m3, m4, m5, m6, m7, m8⟩, mf⟩ := nine hT5
      have l5 : tb < w5.heap.size := (Array.getElem?_eq_some_iff.1 hT5).1
      have hsm := Lib.hid (fun o => same_c (w5.alloc o) _ _ _ (R5.turn (A' := fun k => w2.heap.size ≤ k) (fun z hz hlt => ⟨hz, (Gr.alloc w5 o (fun _ => False)).block z hlt (fun e => e)⟩)) (hrep5.turn (A' := fun k => w2.heap.size ≤ k ∨ True) (fun z hz hlt => ⟨.inr trivial, (Gr.alloc w5 o (fun _ => False)).block z hlt (fun e => e)⟩)))
      obtain ⟨sk, sn, sx, sy, ss, sa, sc, sd, b1, p1, d1, b2, p2, d2, rfl⟩ := hrep5.agg
      have G5 := Lib.hid (G4.out.trans g5)
      generalize (outT (decV m)).2 = cd at hsm ⊢
      clear he hcall hrep5 g5 R4 R5 hT4 G4
      go_wp2_with fail
      refine (hsm.out _).mono ?_
      rintro e w6 ⟨rfl, g6⟩
      go_wp2_with fail
      go_ret
      exact ⟨by simp, (G5.out.trans (Gr.alloc _ _ _)).trans g6⟩
theorem decodes_all (W : World) (v : Value) (m : List Int) (hq : Sq Z W v m) (hZ : ∀ k, Z k → k < W.heap.size) : Calls Tryz.prog 3 #[v] W fun e w' => e = .returned (.bool true) ∧ Gr (fun _ => False) W w' := by
  obtain ⟨ba, bc, rfl, h1, h2, h3, h4⟩ := id hq
  by_cases hl : 262144 < m.length
  · exact decodes_big (alive_k dec_ok) W ba bc m hl (by omega)
  · exact decodes_walk (alive_k dec_ok) dec_ok W ba bc m (by omega) hq hZ
end Go.Proofs.YtmohehfkbhllpaaGreat
