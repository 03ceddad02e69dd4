/-
  Binds: a copy of a term without elements; bind.
-/
import Derived.Test.YtnelgmkohiemnaaQJ
set_option linter.unusedVariables false
set_option linter.unusedSimpArgs false
namespace Go.Proofs.Ytnelgmkohiemnaa
open Go.RowKit Go.Maps Go.WideMaps
attribute [local go_sem] Oper.semAt_some
variable {S S' : Nat → Prop} {W W1 W' : World}
abbrev lv (t : Lf) (a1 : Option Addr) (c1 : Nat) (a2 : Option Addr) (c2 : Nat) : Value := ts t.k t.n t.x t.y t.s t.a t.c t.d a1 0 c1 a2 0 c2
theorem checkL (t : Lf) (ht : FaultOk (.mk t [] [])) (W : World) (a1 : Option Addr) (c1 : Nat) (a2 : Option Addr) (c2 : Nat) : Calls Try.prog 14 #[lv t a1 c1 a2 c2] W fun e w' => e = .returned (.int .i64 0) ∧ Gr (fun _ => False) W w' :=
  check_t (fun _ => False) W (.mk t [] []) _ 1 (leaf_rep _ _ _ _ _ _ _) (fun _ e => e.elim) (by simp [hgt, hgtL]) ⟨⟨ht, by decide, by simp [lenB]⟩, fun _ _ => by simp only [okL]⟩ (by simp [goT, goL, stepW, lenB])
set_option maxRecDepth 20000 in
set_option maxHeartbeats 800000 in
theorem copyL (t : Lf) (ht : FaultOk (.mk t [] [])) (W : World) (a1 : Option Addr) (c1 : Nat) (a2 : Option Addr) (c2 : Nat) : Calls Try.prog 22 #[lv t a1 c1 a2 c2] W fun e w' => (∃ b1 d1 b2 d2, e = .returned (lv t b1 d1 b2 d2)) ∧ Gr (fun _ => False) W w' := by
  have hc := Lib.hid (fun w => checkL t ht w a1 c1 a2 c2)
  have hf := Lib.hid (fun w => fresh_t (.mk t [] []) (by simp [thin, thinL]) (fun _ => False) w (lv t a1 c1 a2 c2) (leaf_rep _ _ _ _ _ _ _) (fun _ e => e.elim))
  clear ht
  obtain ⟨tk, tn, tx, ty, tS, ta, tc, td⟩ := t
  have h0 := heap_alloc_new W (.cells #[.int .i64 tk, .int .i64 tn, .complex .f64 tx ty, .string tS, .int .i64 ta, .int .u32 tc, .int .u64 td, .slice a1 0 c1, .slice a2 0 c2] 31)
  have ga := Gr.alloc (W.alloc (.cells #[.int .i64 tk, .int .i64 tn, .complex .f64 tx ty, .string tS, .int .i64 ta, .int .u32 tc, .int .u64 td, .slice a1 0 c1, .slice a2 0 c2] 31)) oz9 (fun _ => False)
  have h1 := heap_alloc_new (W.alloc (.cells #[.int .i64 tk, .int .i64 tn, .complex .f64 tx ty, .string tS, .int .i64 ta, .int .u32 tc, .int .u64 td, .slice a1 0 c1, .slice a2 0 c2] 31)) oz9
  rw [World.size_alloc] at h1
  have H0 := Lib.hid (ga.keep h0 (fun e => e))
  have H1 := Lib.hid h1
  have G0 := Lib.hid ((Gr.alloc W (.cells #[.int .i64 tk, .int .i64 tn, .complex .f64 tx ty, .string tS, .int .i64 ta, .int .u32 tc, .int .u64 td, .slice a1 0 c1, .slice a2 0 c2] 31) (fun _ => False)).trans ga)
  clear h0 h1 ga
  go_enter Try.func22, Try.ntmps22
  go_wp2_with fail
  generalize World.alloc (World.alloc W _) _ = X0 at H0 H1 G0 ⊢
  refine (hc.out _).mono ?_
  rintro e w1 ⟨rfl, g1⟩
  obtain ⟨⟨t0, t1, t2, t3, t4, t5, t6, t7, t8⟩, tf⟩ := nine (g1.keep H0.out (fun e => e))
  have l0 := (Array.getElem?_eq_some_iff.1 (g1.keep H0.out (fun e => e))).1
  have H2 := Lib.hid (g1.keep H1.out (fun e => e))
  have G1 := Lib.hid (G0.out.trans g1)
  clear g1 H0 H1 G0 hc
  go_wp2_with fail
  refine (hf.out _).mono ?_
  rintro e w2 ⟨v', rfl, hrep, g2⟩
  obtain ⟨b1, d1, b2, d2, rfl⟩ := leaf_v hrep
  have H3 := g2.keep H2.out (fun e => e)
  obtain ⟨⟨z0, z1, z2, z3, z4, z5, z6, z7, z8⟩, zf⟩ := nine H3
  have l1 := (Array.getElem?_eq_some_iff.1 H3).1
  have G2 := Lib.hid (G1.out.trans g2)
  clear t0 t1 t2 t3 t4 t5 t6 t7 t8 tf l0 hrep g2 H2 G1 hf H3
  go_wp2_with fail
  refine bodyPost_ret (v := ts tk tn tx ty tS ta tc td b1 0 d1 b2 0 d2) (by simp [results, Try.results22, go_sem, z0, z1, z2, z3, z4, z5, z6, z7, z8, l1]) rfl ⟨⟨b1, d1, b2, d2, rfl⟩, ?_⟩
  exact G2.out.set9 (g := W.heap.size + 1) (Nat.le_succ _) _ _ _ _ _ _ _ _ _
abbrev S9 (N : Nat) (v0 v1 v2 v3 v4 v5 v6 v7 v8 : Value) (w : World) : Prop := w.cell? ⟨N, 0, none⟩ = some v0 ∧ w.cell? ⟨N, 1, none⟩ = some v1 ∧ w.cell? ⟨N, 2, none⟩ = some v2 ∧ w.cell? ⟨N, 3, none⟩ = some v3 ∧ w.cell? ⟨N, 4, none⟩ = some v4 ∧ w.cell? ⟨N, 5, none⟩ = some v5 ∧ w.cell? ⟨N, 6, none⟩ = some v6 ∧ w.cell? ⟨N, 7, none⟩ = some v7 ∧ w.cell? ⟨N, 8, none⟩ = some v8
theorem ten {g : Nat} {t : TypeId} {x0 x1 x2 x3 x4 x5 x6 x7 x8 x9 : Value} (h : W.heap[g]? = some (.cells #[x0, x1, x2, x3, x4, x5, x6, x7, x8, x9] t (0, 0))) :
    (W.cell? ⟨g, 0, none⟩ = some x0 ∧ W.cell? ⟨g, 1, none⟩ = some x1 ∧ W.cell? ⟨g, 2, none⟩ = some x2 ∧ W.cell? ⟨g, 3, none⟩ = some x3 ∧ W.cell? ⟨g, 4, none⟩ = some x4 ∧ W.cell? ⟨g, 5, none⟩ = some x5 ∧ W.cell? ⟨g, 6, none⟩ = some x6 ∧ W.cell? ⟨g, 7, none⟩ = some x7 ∧ W.cell? ⟨g, 8, none⟩ = some x8 ∧ W.cell? ⟨g, 9, none⟩ = some x9) ∧ ∀ o, W.frozen? ⟨g, o, none⟩ = false := by
  simp [World.cell?, World.frozen?, h]
theorem Gr.set10 {S : Nat → Prop} {W W' : World} {g : Nat} (h : Gr S W W') (hg : W.heap.size ≤ g) (v0 v1 v2 v3 v4 v5 v6 v7 v8 v9 : Value) : Gr S W ((((((((((W'.setCell ⟨g, 0, none⟩ v0).setCell ⟨g, 1, none⟩ v1).setCell ⟨g, 2, none⟩ v2).setCell ⟨g, 3, none⟩ v3).setCell ⟨g, 4, none⟩ v4).setCell ⟨g, 5, none⟩ v5).setCell ⟨g, 6, none⟩ v6).setCell ⟨g, 7, none⟩ v7).setCell ⟨g, 8, none⟩ v8).setCell ⟨g, 9, none⟩ v9) := (((((((((h.setNew hg).setNew hg).setNew hg).setNew hg).setNew hg).setNew hg).setNew hg).setNew hg).setNew hg).setNew hg
/-- A bind's value. -/
abbrev bd (s : ByteArray) (t : Lf) (a1 : Option Addr) (c1 : Nat) (a2 : Option Addr) (c2 : Nat) : Value := .agg #[.string s, .int .i64 t.k, .int .i64 t.n, .complex .f64 t.x t.y, .string t.s, .int .i64 t.a, .int .u32 t.c, .int .u64 t.d, .slice a1 0 c1, .slice a2 0 c2]
set_option maxRecDepth 20000 in
set_option maxHeartbeats 1600000 in
theorem bind_c (s : ByteArray) (hs1 : 1 ≤ s.size) (hs2 : s.size ≤ 32) (t : Lf) (ht : FaultOk (.mk t [] [])) (W : World) (a1 : Option Addr) (c1 : Nat) (a2 : Option Addr) (c2 : Nat) : Calls Try.prog 18 #[.string s, lv t a1 c1 a2 c2] W fun e w' => (∃ b1 d1 b2 d2, e = .returned (bd s t b1 d1 b2 d2)) ∧ Gr (fun _ => False) W w' := by
  have hc := Lib.hid (fun w => clone_c s w hs1 hs2)
  have hf := Lib.hid (fun w => copyL t ht w a1 c1 a2 c2)
  clear ht
  obtain ⟨tk, tn, tx, ty, tS, ta, tc, td⟩ := t
  have h0 := heap_alloc_new W (.cells #[.int .i64 tk, .int .i64 tn, .complex .f64 tx ty, .string tS, .int .i64 ta, .int .u32 tc, .int .u64 td, .slice a1 0 c1, .slice a2 0 c2] 31)
  have ga := Gr.alloc (W.alloc (.cells #[.int .i64 tk, .int .i64 tn, .complex .f64 tx ty, .string tS, .int .i64 ta, .int .u32 tc, .int .u64 td, .slice a1 0 c1, .slice a2 0 c2] 31)) (.cells #[.string e0, .int .i64 0, .int .i64 0, .complex .f64 0 0, .string e0, .int .i64 0, .int .u32 0, .int .u64 0, nl, nl] 36) (fun _ => False)
  have h1 := heap_alloc_new (W.alloc (.cells #[.int .i64 tk, .int .i64 tn, .complex .f64 tx ty, .string tS, .int .i64 ta, .int .u32 tc, .int .u64 td, .slice a1 0 c1, .slice a2 0 c2] 31)) (.cells #[.string e0, .int .i64 0, .int .i64 0, .complex .f64 0 0, .string e0, .int .i64 0, .int .u32 0, .int .u64 0, nl, nl] 36)
  rw [World.size_alloc] at h1
  have H0 := Lib.hid (ga.keep h0 (fun e => e))
  have H1 := Lib.hid h1
  have G0 := Lib.hid ((Gr.alloc W (.cells #[.int .i64 tk, .int .i64 tn, .complex .f64 tx ty, .string tS, .int .i64 ta, .int .u32 tc, .int .u64 td, .slice a1 0 c1, .slice a2 0 c2] 31) (fun _ => False)).trans ga)
  clear h0 h1 ga
  go_enter Try.func18, Try.ntmps18
  go_wp2_with fail
  generalize World.alloc (World.alloc W _) _ = X0 at H0 H1 G0 ⊢
  have s9 : ∀ w, Gr (fun _ => False) X0 w → S9 W.heap.size (.int .i64 tk) (.int .i64 tn) (.complex .f64 tx ty) (.string tS) (.int .i64 ta) (.int .u32 tc) (.int .u64 td) (.slice a1 0 c1) (.slice a2 0 c2) w := fun w g => by
    obtain ⟨⟨t0, t1, t2, t3, t4, t5, t6, t7, t8⟩, -⟩ := nine (g.keep H0.out (fun e => e))
    exact ⟨t0, t1, t2, t3, t4, t5, t6, t7, t8⟩
  have S9H := Lib.hid s9
  have sd := s9 X0.drew (Gr.drew X0 _)
  clear s9
  refine wp_region_L (L := 5) (T := S9 W.heap.size (.int .i64 tk) (.int .i64 tn) (.complex .f64 tx ty) (.string tS) (.int .i64 ta) (.int .u32 tc) (.int .u64 td) (.slice a1 0 c1) (.slice a2 0 c2)) (by kernel_rfl) ?_
  refine wpAnyL_at (i := 0) (v := (.string s)) (some 5) rfl rfl (by kernel_rfl) (by kernel_rfl) (by kernel_rfl) (by kernel_rfl) (by decide) (fun _ _ _ h => h) (Or.inl ⟨by rfl, ?_⟩) sd ?_
  · intro w hSw
    obtain ⟨q0, q1, q2, q3, q4, q5, q6, q7, q8⟩ := hSw
    go_simp
  try simp only [Act.put, List.setIfInBounds_toArray, List.set_cons_zero, List.set_cons_succ]
  refine wpAnyL_at (i := 2) (v := (ts tk tn tx ty tS ta tc td a1 0 c1 a2 0 c2)) (some 7) rfl rfl (by kernel_rfl) (by kernel_rfl) (by kernel_rfl) (by kernel_rfl) (by decide) (fun _ _ _ h => h) (Or.inl ⟨by rfl, ?_⟩) sd ?_
  · intro w hSw
    obtain ⟨q0, q1, q2, q3, q4, q5, q6, q7, q8⟩ := hSw
    go_simp
  try simp only [Act.put, List.setIfInBounds_toArray, List.set_cons_zero, List.set_cons_succ]
  refine wpAnyL_one (i := 1) (by kernel_rfl) rfl (fun K hK => ?_)
  go_simp
  refine (hc.out _).mono ?_
  rintro e w1 ⟨rfl, hbel⟩
  have g1 := (Gr.drew X0 (fun _ => False)).trans (Gr.of_below hbel (fun _ => False))
  refine hK.out _ _ (fun _ => S9H.out w1 g1) ?_
  clear hK K hbel sd
  try simp only [Act.put, List.setIfInBounds_toArray, List.set_cons_zero, List.set_cons_succ]
  refine wpAnyL_one (i := 3) (by kernel_rfl) rfl (fun K hK => ?_)
  go_simp
  refine (hf.out _).mono ?_
  rintro e w2 ⟨⟨b1, d1, b2, d2, rfl⟩, g2⟩
  have g3 := g1.trans g2
  have G3 := Lib.hid (G0.out.trans g3)
  have H3 := g3.keep H1.out (fun e => e)
  obtain ⟨⟨z0, z1, z2, z3, z4, z5, z6, z7, z8, z9⟩, zf⟩ := ten H3
  have l1 := (Array.getElem?_eq_some_iff.1 H3).1
  refine hK.out _ _ (fun _ => S9H.out w2 g3) ?_
  clear hK K g1 g2 hc hf H3
  try simp only [Act.put, List.setIfInBounds_toArray, List.set_cons_zero, List.set_cons_succ]
  refine wpAnyL_one (i := 4) (by kernel_rfl) rfl (fun K hK => ?_)
  go_simp
  refine hK.out _ _ (fun _ => S9H.out w2 g3) ?_
  clear hK K
  try simp only [Act.put, List.setIfInBounds_toArray, List.set_cons_zero, List.set_cons_succ]
  refine wpAnyL_one (i := 5) (by kernel_rfl) rfl (fun K hK => ?_)
  go_simp
  refine hK.out _ _ (fun h => absurd rfl h) ?_
  clear hK K g3 S9H H0 H1 G0
  try simp only [Act.put, List.setIfInBounds_toArray, List.set_cons_zero, List.set_cons_succ]
  refine wpAnyL_done (by kernel_rfl) ?_ _
  refine NoPanic.normal ?_
  go_wp2_with fail
  refine bodyPost_ret (v := bd s { k := tk, n := tn, x := tx, y := ty, s := tS, a := ta, c := tc, d := td } b1 d1 b2 d2) (by simp [results, Try.results18, go_sem, z0, z1, z2, z3, z4, z5, z6, z7, z8, z9, l1]) rfl ⟨⟨b1, d1, b2, d2, rfl⟩, ?_⟩
  exact G3.out.set10 (g := W.heap.size + 1) (Nat.le_succ _) _ _ _ _ _ _ _ _ _ _
end Go.Proofs.Ytnelgmkohiemnaa
