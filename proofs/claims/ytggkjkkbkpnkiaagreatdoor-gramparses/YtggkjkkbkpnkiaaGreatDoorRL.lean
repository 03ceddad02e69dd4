/-
  The reference's inner: brackets, tuples, lists.
-/
import Derived.Test.YtggkjkkbkpnkiaaGreatDoorRK
import Derived.Test.YtggkjkkbkpnkiaaGreatDoorRH
set_option linter.unusedVariables false
set_option linter.unusedSimpArgs false
namespace Go.Proofs.YtggkjkkbkpnkiaaGreatDoor
open Go.RowKit Go.Maps
variable {x : Kx} {W W' : World} {p p' : Ps}
/-- A state and a tree in new blocks. -/
theorem two_new {w2 X : World} {q : Ps} {tk tn : Int} {tt : ByteArray} {u1 u2 : Value} (hX : (w2.alloc (stb x q)).alloc (.cells #[.int .i64 tk, .string tt, .int .i64 tn, u1, u2] 30) = X) :
    Gr (fun _ => False) w2 X ∧ X.heap[w2.heap.size]? = some (stb x q) ∧ X.heap[w2.heap.size + 1]? = some (.cells #[.int .i64 tk, .string tt, .int .i64 tn, u1, u2] 30 (0, 0)) ∧ X.heap.size = w2.heap.size + 2 := by
  subst hX
  refine ⟨G2 w2 _ _, (Gr.alloc _ _ (fun _ => False)).keep (heap_alloc_new w2 _) (fun e => e), ?_, by simp⟩
  have := heap_alloc_new (w2.alloc (stb x q)) (.cells #[.int .i64 tk, .string tt, .int .i64 tn, u1, u2] 30)
  simpa using this
set_option maxRecDepth 100000 in
set_option maxHeartbeats 1200000 in
theorem rinner0 (d : Nat) (ex : Rule) (hex : ROk x 39 d ex) (h : Rz x W p) (hd : p.d = d) : Calls Tryz.prog 92 #[stv x p, .int .i64 0] W fun e w' => EndX x W p e w' (bracketV x.ts ex p) := by
  obtain ⟨g0, b0, b1, b2, hz0⟩ := open3 (x := x) W p
  obtain ⟨b, hb⟩ : ∃ b, W.heap.size = b := ⟨_, rfl⟩
  have Hd := Lib.hid hd
  have hbW := Lib.hid hb
  have hNb : Hid (x.N ≤ b) := by have := h.hN; show _ ≤ _; omega
  have R0 := Lib.hid (h.g0 g0)
  have hcall := Lib.hid (hex _ p (h.g0 g0) hd)
  obtain ⟨r, hr⟩ : ∃ r, r = bracketV x.ts ex p := ⟨_, rfl⟩
  rw [← hr]
  have Hr : Hid (r = ((ex p).1, wantV x.ts shutR (ex p).2)) := hr
  clear hd h hr
  go_enter Tryz.func92, Tryz.ntmps92
  go_wp2_with fail
  generalize ((W.alloc _).alloc _).alloc _ = W1 at g0 b0 b1 b2 hz0 hcall R0 ⊢
  rw [hb] at b0 b1 b2 hz0
  refine hcall.out.mono ?_
  rintro e w2 ⟨tk, tt, tn, a1, n1, c1, a2, n2, c2, rfl, rep2, hi2, g2⟩
  generalize (ex p).2 = q at Hr rep2 hi2 ⊢
  generalize (ex p).1 = T at Hr rep2 ⊢
  have C1 := Lib.hid (g2.keep b1 (fun e => e))
  have C2 := Lib.hid (g2.keep b2 (fun e => e))
  have R2 := Lib.hid (R0.out.g0 g2)
  have G2' := Lib.hid (g0.trans g2)
  have Hrep2 := Lib.hid rep2
  have Hi2 := Lib.hid hi2
  have hs2 : Hid (b + 3 ≤ w2.heap.size) := by have := g2.size; show _ ≤ _; omega
  clear b0 b1 b2 R0 g0 rep2 hi2 hcall g2
  go_wp2_with fail
  generalize hX : (w2.alloc (stb x q)).alloc _ = X
  obtain ⟨gX, XY, XT, hsX⟩ := two_new (x := x) hX
  obtain ⟨yb, hyb⟩ : ∃ yb, w2.heap.size = yb := ⟨_, rfl⟩
  have hyb3 : b + 3 ≤ yb := by have := hs2.out; omega
  rw [hyb] at XY XT ⊢
  have D1 : X.drew.heap[b + 1]? = some zs := gX.keep C1.out (fun e => e)
  have D2 : X.drew.heap[b + 2]? = some zt := gX.keep C2.out (fun e => e)
  have DY : X.drew.heap[yb]? = some (stb x q) := XY
  have DT : X.drew.heap[yb + 1]? = some (.cells #[.int .i64 tk, .string tt, .int .i64 tn, .slice a1 n1 c1, .slice a2 n2 c2] 30 (0, 0)) := XT
  have Gd : Hid (Gr (fun _ => False) W X.drew) := (G2'.out.trans gX).trans (Gr.drew X _)
  have Rd : Rz x X.drew q := ((R2.out.g0 gX).g0 (Gr.drew X _)).to Hi2.out.2.2 (by have := Hi2.out.1; have := R2.out.hd; omega)
  have BT : Hid (q.e = 0 → Rep (fun z => b + 3 ≤ z) X.drew T (trv tk tt tn (.slice a1 n1 c1) (.slice a2 n2 c2))) := fun he => ((Hrep2.out he).turn (fun z hz hl => ⟨by have h9 : W1.heap.size ≤ z := hz; show b + 3 ≤ z; omega, gX.block z hl (fun e => e)⟩) : Rep (fun z => b + 3 ≤ z) X T _).turn (fun z hz hl => ⟨hz, rfl⟩)
  have hw := rwant_c Rd shutR
  have hwi := Lib.hid (wantV_i x.ts shutR q Hi2.out.2.2)
  generalize wantV x.ts shutR q = q2 at Hr hw hwi ⊢
  have TS : Gr (fun k => k = b + 1 ∨ k = b + 2) X.drew X.drew := Gr.refl _ _
  refine wp_region_L (L := 100) (T := fun w => Gr (fun k => k = b + 1 ∨ k = b + 2) X.drew w) (by kernel_rfl) ?_
  generalize X.drew = wd at TS D1 D2 DY DT Gd Rd BT hw ⊢
  obtain ⟨⟨d0, d1, d2, d3⟩, _⟩ := four_cells DY
  obtain ⟨⟨k0, k1, k2, k3, k4⟩, _⟩ := five_cells DT
  refine wpAnyN_at (i := 0) (v := (.agg #[.slice x.a x.ts.length x.c, .int .i64 (q.i : Int), .int .i64 (q.d : Int), .int .i64 q.e])) (some 27) rfl rfl (by kernel_rfl) (by kernel_rfl) (by kernel_rfl) (by kernel_rfl) (fun _ _ _ h => h) (Or.inl ⟨by rfl, ?_⟩) TS ?_
  · intro w hSw
    have qq0 := cell_gr d0 hSw (by show ¬ (_ ∨ _); omega)
    have qq1 := cell_gr d1 hSw (by show ¬ (_ ∨ _); omega)
    have qq2 := cell_gr d2 hSw (by show ¬ (_ ∨ _); omega)
    have qq3 := cell_gr d3 hSw (by show ¬ (_ ∨ _); omega)
    have qz := World.block_lt_of_cell? _ _ qq0
    go_simp
    try (intro h; exfalso; omega)
  try simp only [Act.put, List.setIfInBounds_toArray, List.set_cons_zero, List.set_cons_succ]
  refine wpAnyN_at (i := 2) (v := (.agg #[.int .i64 tk, .string tt, .int .i64 tn, .slice a1 n1 c1, .slice a2 n2 c2])) (some 29) rfl rfl (by kernel_rfl) (by kernel_rfl) (by kernel_rfl) (by kernel_rfl) (fun _ _ _ h => h) (Or.inl ⟨by rfl, ?_⟩) TS ?_
  · intro w hSw
    have qq0 := cell_gr k0 hSw (by show ¬ (_ ∨ _); omega)
    have qq1 := cell_gr k1 hSw (by show ¬ (_ ∨ _); omega)
    have qq2 := cell_gr k2 hSw (by show ¬ (_ ∨ _); omega)
    have qq3 := cell_gr k3 hSw (by show ¬ (_ ∨ _); omega)
    have qq4 := cell_gr k4 hSw (by show ¬ (_ ∨ _); omega)
    have qz := World.block_lt_of_cell? _ _ qq0
    go_simp
    try (intro h; exfalso; omega)
  try simp only [Act.put, List.setIfInBounds_toArray, List.set_cons_zero, List.set_cons_succ]
  refine wpAnyL_one (i := 1) (by kernel_rfl) rfl (fun K hK => ?_)
  go_simp
  refine (hw).mono ?_
  rintro e w5 ⟨rfl, g5⟩
  refine hK.out _ _ (fun _ => g5.any _) ?_
  clear hK K
  try simp only [Act.put, List.setIfInBounds_toArray, List.set_cons_zero, List.set_cons_succ]
  have F1 := g5.keep D1 (fun e => e)
  have F2 := g5.keep D2 (fun e => e)
  obtain ⟨E1, E2, E3, E4⟩ := end3 (x := x) (q := q2) (T := T) (k := tk) (s := tt) (n := tn) (bv := .slice a1 n1 c1) (lv := .slice a2 n2 c2) (Gd.out.trans g5) hbW.out F1 F2 (fun he => (BT.out (hwi.out.2.2.2 he)).turn (fun z hz hl => ⟨hz, g5.block z hl (fun e => e)⟩))
  obtain ⟨wF, hwF⟩ : ∃ wF, set5 (set4 w5 (b + 1) (.slice x.a x.ts.length x.c) (.int .i64 (q2.i : Int)) (.int .i64 (q2.d : Int)) (.int .i64 q2.e)) (b + 2) (.int .i64 tk) (.string tt) (.int .i64 tn) (.slice a1 n1 c1) (.slice a2 n2 c2) = wF := ⟨_, rfl⟩
  rw [hwF] at E1 E2 E3 E4
  replace E1 := Lib.hid E1
  replace E2 := Lib.hid E2
  replace E3 := Lib.hid E3
  replace E4 := Lib.hid E4
  replace hwF := Lib.hid hwF
  obtain ⟨⟨y0, y1, y2, y3⟩, v0, v1, v2, v3⟩ := four_cells F1
  obtain ⟨⟨m0, m1, m2, m3, m4⟩, o0, o1, o2, o3, o4⟩ := five_cells F2
  have hlz : b + 2 < w5.heap.size := (Array.getElem?_eq_some_iff.1 F2).1
  have hlz' : b + 1 < w5.heap.size := by omega
  have TA : Gr (fun k => k = b + 1 ∨ k = b + 2) wd (set4 w5 (b + 1) (.slice x.a x.ts.length x.c) (.int .i64 (q2.i : Int)) (.int .i64 (q2.d : Int)) (.int .i64 q2.e)) := (g5.any _).trans' (set4_gr w5 (b + 1) _ _ _ _) (fun _ _ e => .inl e)
  have TB : Gr (fun k => k = b + 1 ∨ k = b + 2) wd (set5 (set4 w5 (b + 1) (.slice x.a x.ts.length x.c) (.int .i64 (q2.i : Int)) (.int .i64 (q2.d : Int)) (.int .i64 q2.e)) (b + 2) (.int .i64 tk) (.string tt) (.int .i64 tn) (.slice a1 n1 c1) (.slice a2 n2 c2)) := TA.trans' (set5_gr _ (b + 2) _ _ _ _ _) (fun _ _ e => .inr e)
  refine wpAnyL_one (i := 3) (by kernel_rfl) rfl (fun K hK => ?_)
  go_simp
  refine hK.out _ _ (fun _ => TA) ?_
  clear hK K
  try simp only [Act.put, List.setIfInBounds_toArray, List.set_cons_zero, List.set_cons_succ]
  refine wpAnyL_one (i := 4) (by kernel_rfl) rfl (fun K hK => ?_)
  go_simp
  refine hK.out _ _ (fun _ => TB) ?_
  clear hK K
  try simp only [Act.put, List.setIfInBounds_toArray, List.set_cons_zero, List.set_cons_succ]
  refine wpAnyL_done (by kernel_rfl) ?_ _
  refine NoPanic.normal ?_
  clear TS TA TB
  go_wp2_with fail
  rw [Hr.out]
  rw [show ((((((((w5.setCell ⟨b + 1, 0, none⟩ (.slice x.a x.ts.length x.c)).setCell ⟨b + 1, 1, none⟩ (.int .i64 (q2.i : Int))).setCell ⟨b + 1, 2, none⟩ (.int .i64 (q2.d : Int))).setCell ⟨b + 1, 3, none⟩ (.int .i64 q2.e)).setCell ⟨b + 1 + 1, 0, none⟩ (.int .i64 tk)).setCell ⟨b + 1 + 1, 1, none⟩ (.string tt)).setCell ⟨b + 1 + 1, 2, none⟩ (.int .i64 tn)).setCell ⟨b + 1 + 1, 3, none⟩ (.slice a1 n1 c1)).setCell ⟨b + 1 + 1, 4, none⟩ (.slice a2 n2 c2) = wF from hwF.out]
  clear y0 y1 y2 y3 v0 v1 v2 v3 m0 m1 m2 m3 m4 o0 o1 o2 o3 o4
  have E1' := E1.out
  have E2' : wF.heap[b + 1 + 1]? = some (.cells #[.int .i64 tk, .string tt, .int .i64 tn, .slice a1 n1 c1, .slice a2 n2 c2] 30 (0, 0)) := E2.out
  obtain ⟨⟨t0, t1, t2, t3⟩, _⟩ := four_cells E1'
  obtain ⟨⟨s0, s1, s2, s3, s4⟩, _⟩ := five_cells E2'
  refine bodyPost_ret (v := .tuple #[stv x q2, trv (tk) (tt) (tn) (.slice a1 n1 c1) (.slice a2 n2 c2)]) (by simp [results, Tryz.results92, go_sem, t0, t1, t2, t3, s0, s1, s2, s3, s4]) rfl ⟨tk, tt, tn, a1, n1, c1, a2, n2, c2, rfl, E3.out, ⟨by have := hwi.out; have := Hi2.out; show q2.d = p.d; omega, by have := hwi.out; have := Hi2.out; show p.i ≤ q2.i; omega, hwi.out.2.2.1⟩, E4.out⟩
set_option maxRecDepth 100000 in
set_option maxHeartbeats 1200000 in
theorem rinner1 (d : Nat) (ex : Rule) (hex : ROk x 39 d ex) (h : Rz x W p) (hd : p.d = d) : Calls Tryz.prog 92 #[stv x p, .int .i64 1] W fun e w' => EndX x W p e w' (tupleV x.ts ex p) := by
  obtain ⟨g0, b0, b1, b2, hz0⟩ := open3 (x := x) W p
  obtain ⟨b, hb⟩ : ∃ b, W.heap.size = b := ⟨_, rfl⟩
  have Hd := Lib.hid hd
  have hbW := Lib.hid hb
  have hNb : Hid (x.N ≤ b) := by have := h.hN; show _ ≤ _; omega
  have R0 := Lib.hid (h.g0 g0)
  have hcall := Lib.hid (rlist_c d ex hex shut5 (h.g0 g0) hd)
  obtain ⟨r, hr⟩ : ∃ r, r = tupleV x.ts ex p := ⟨_, rfl⟩
  rw [← hr]
  have Hr : Hid (r = (.mk 5 e0 0 [] (uptoV x.ts shut5 ex p).1, (uptoV x.ts shut5 ex p).2)) := hr
  clear hd h hr
  go_enter Tryz.func92, Tryz.ntmps92
  go_wp2_with fail
  generalize ((W.alloc _).alloc _).alloc _ = W1 at g0 b0 b1 b2 hz0 hcall R0 ⊢
  rw [hb] at b0 b1 b2 hz0
  refine hcall.out.mono ?_
  rintro e w2 ⟨v, rfl, L2, hi2, g2⟩
  generalize (uptoV x.ts shut5 ex p).2 = q at Hr L2 hi2 ⊢
  generalize (uptoV x.ts shut5 ex p).1 = l at Hr L2 ⊢
  obtain ⟨a2, n2, c2, rfl⟩ := L2.sv
  have C1 := g2.keep b1 (by omega)
  have C2 := g2.keep b2 (by omega)
  have G2' : Gr (fun _ => False) W w2 := g0.trans' g2 (fun k hk e => by have := hbW.out; omega)
  have hi2' := Lib.hid hi2
  have hRn : q.e = 0 → Rep (fun z => b + 3 ≤ z) (w2.alloc (stb x q)) (.mk 5 e0 0 [] l) (trv 5 e0 0 nl (.slice a2 n2 c2)) := fun he => by
    rw [hz0] at L2
    exact ((L2.tree he 5 e0)).turn (fun z hz hl => ⟨hz, heap_alloc_old w2 _ hl⟩)
  obtain ⟨wF, hwF⟩ : ∃ wF, (set5 (set4 w2 (b + 1) (.slice x.a x.ts.length x.c) (.int .i64 (q.i : Int)) (.int .i64 (q.d : Int)) (.int .i64 q.e)) (b + 2) (.int .i64 5) (.string e0) (.int .i64 0) (nl) (.slice a2 n2 c2)).alloc (stb x q) = wF := ⟨_, rfl⟩
  obtain ⟨E1, E2, E3, E4⟩ := end3n (x := x) (q := q) (T := (.mk 5 e0 0 [] l)) (G2') hbW.out C1 C2 (hRn) hwF
  replace E1 := Lib.hid E1
  replace E2 := Lib.hid E2
  replace E3 := Lib.hid E3
  replace E4 := Lib.hid E4
  replace hwF := Lib.hid hwF
  obtain ⟨⟨y0, y1, y2, y3⟩, v0, v1, v2, v3⟩ := four_cells C1
  obtain ⟨⟨m0, m1, m2, m3, m4⟩, o0, o1, o2, o3, o4⟩ := five_cells C2
  have hlz : b + 2 < w2.heap.size := (Array.getElem?_eq_some_iff.1 C2).1
  have hlz' : b + 1 < w2.heap.size := by omega
  clear b0 b1 b2 R0 g0 hi2 hcall g2 C1 C2 L2 G2' hRn
  go_wp2_with fail
  rw [Hr.out]
  rw [show (((((((((w2.setCell ⟨b + 1, 0, none⟩ (.slice x.a x.ts.length x.c)).setCell ⟨b + 1, 1, none⟩ (.int .i64 (q.i : Int))).setCell ⟨b + 1, 2, none⟩ (.int .i64 (q.d : Int))).setCell ⟨b + 1, 3, none⟩ (.int .i64 q.e)).setCell ⟨b + 1 + 1, 0, none⟩ (.int .i64 5)).setCell ⟨b + 1 + 1, 1, none⟩ (.string e0)).setCell ⟨b + 1 + 1, 2, none⟩ (.int .i64 0)).setCell ⟨b + 1 + 1, 3, none⟩ (nl)).setCell ⟨b + 1 + 1, 4, none⟩ (.slice a2 n2 c2)).alloc (stb x q) = wF from hwF.out]
  clear y0 y1 y2 y3 v0 v1 v2 v3 m0 m1 m2 m3 m4 o0 o1 o2 o3 o4
  have E1' := E1.out
  have E2' : wF.heap[b + 1 + 1]? = some (.cells #[.int .i64 5, .string e0, .int .i64 0, nl, .slice a2 n2 c2] 30 (0, 0)) := E2.out
  obtain ⟨⟨t0, t1, t2, t3⟩, _⟩ := four_cells E1'
  obtain ⟨⟨s0, s1, s2, s3, s4⟩, _⟩ := five_cells E2'
  refine bodyPost_ret (v := .tuple #[stv x q, trv (5) (e0) (0) (nl) (.slice a2 n2 c2)]) (by simp [results, Tryz.results92, go_sem, t0, t1, t2, t3, s0, s1, s2, s3, s4]) rfl ⟨5, e0, 0, none, 0, 0, a2, n2, c2, rfl, E3.out, hi2'.out, E4.out⟩
set_option maxRecDepth 100000 in
set_option maxHeartbeats 1200000 in
theorem rinner2 (d : Nat) (ex : Rule) (hex : ROk x 39 d ex) (h : Rz x W p) (hd : p.d = d) : Calls Tryz.prog 92 #[stv x p, .int .i64 2] W fun e w' => EndX x W p e w' (listV x.ts ex p) := by
  obtain ⟨g0, b0, b1, b2, hz0⟩ := open3 (x := x) W p
  obtain ⟨b, hb⟩ : ∃ b, W.heap.size = b := ⟨_, rfl⟩
  have Hd := Lib.hid hd
  have hbW := Lib.hid hb
  have hNb : Hid (x.N ≤ b) := by have := h.hN; show _ ≤ _; omega
  have R0 := Lib.hid (h.g0 g0)
  have hcall := Lib.hid (rlist_c d ex hex shut6 (h.g0 g0) hd)
  obtain ⟨r, hr⟩ : ∃ r, r = listV x.ts ex p := ⟨_, rfl⟩
  rw [← hr]
  have Hr : Hid (r = (.mk 6 e0 0 [] (uptoV x.ts shut6 ex p).1, (uptoV x.ts shut6 ex p).2)) := hr
  clear hd h hr
  go_enter Tryz.func92, Tryz.ntmps92
  go_wp2_with fail
  generalize ((W.alloc _).alloc _).alloc _ = W1 at g0 b0 b1 b2 hz0 hcall R0 ⊢
  rw [hb] at b0 b1 b2 hz0
  refine hcall.out.mono ?_
  rintro e w2 ⟨v, rfl, L2, hi2, g2⟩
  generalize (uptoV x.ts shut6 ex p).2 = q at Hr L2 hi2 ⊢
  generalize (uptoV x.ts shut6 ex p).1 = l at Hr L2 ⊢
  obtain ⟨a2, n2, c2, rfl⟩ := L2.sv
  have C1 := g2.keep b1 (by omega)
  have C2 := g2.keep b2 (by omega)
  have G2' : Gr (fun _ => False) W w2 := g0.trans' g2 (fun k hk e => by have := hbW.out; omega)
  have hi2' := Lib.hid hi2
  have hRn : q.e = 0 → Rep (fun z => b + 3 ≤ z) (w2.alloc (stb x q)) (.mk 6 e0 0 [] l) (trv 6 e0 0 nl (.slice a2 n2 c2)) := fun he => by
    rw [hz0] at L2
    exact ((L2.tree he 6 e0)).turn (fun z hz hl => ⟨hz, heap_alloc_old w2 _ hl⟩)
  obtain ⟨wF, hwF⟩ : ∃ wF, (set5 (set4 w2 (b + 1) (.slice x.a x.ts.length x.c) (.int .i64 (q.i : Int)) (.int .i64 (q.d : Int)) (.int .i64 q.e)) (b + 2) (.int .i64 6) (.string e0) (.int .i64 0) (nl) (.slice a2 n2 c2)).alloc (stb x q) = wF := ⟨_, rfl⟩
  obtain ⟨E1, E2, E3, E4⟩ := end3n (x := x) (q := q) (T := (.mk 6 e0 0 [] l)) (G2') hbW.out C1 C2 (hRn) hwF
  replace E1 := Lib.hid E1
  replace E2 := Lib.hid E2
  replace E3 := Lib.hid E3
  replace E4 := Lib.hid E4
  replace hwF := Lib.hid hwF
  obtain ⟨⟨y0, y1, y2, y3⟩, v0, v1, v2, v3⟩ := four_cells C1
  obtain ⟨⟨m0, m1, m2, m3, m4⟩, o0, o1, o2, o3, o4⟩ := five_cells C2
  have hlz : b + 2 < w2.heap.size := (Array.getElem?_eq_some_iff.1 C2).1
  have hlz' : b + 1 < w2.heap.size := by omega
  clear b0 b1 b2 R0 g0 hi2 hcall g2 C1 C2 L2 G2' hRn
  go_wp2_with fail
  rw [Hr.out]
  rw [show (((((((((w2.setCell ⟨b + 1, 0, none⟩ (.slice x.a x.ts.length x.c)).setCell ⟨b + 1, 1, none⟩ (.int .i64 (q.i : Int))).setCell ⟨b + 1, 2, none⟩ (.int .i64 (q.d : Int))).setCell ⟨b + 1, 3, none⟩ (.int .i64 q.e)).setCell ⟨b + 1 + 1, 0, none⟩ (.int .i64 6)).setCell ⟨b + 1 + 1, 1, none⟩ (.string e0)).setCell ⟨b + 1 + 1, 2, none⟩ (.int .i64 0)).setCell ⟨b + 1 + 1, 3, none⟩ (nl)).setCell ⟨b + 1 + 1, 4, none⟩ (.slice a2 n2 c2)).alloc (stb x q) = wF from hwF.out]
  clear y0 y1 y2 y3 v0 v1 v2 v3 m0 m1 m2 m3 m4 o0 o1 o2 o3 o4
  have E1' := E1.out
  have E2' : wF.heap[b + 1 + 1]? = some (.cells #[.int .i64 6, .string e0, .int .i64 0, nl, .slice a2 n2 c2] 30 (0, 0)) := E2.out
  obtain ⟨⟨t0, t1, t2, t3⟩, _⟩ := four_cells E1'
  obtain ⟨⟨s0, s1, s2, s3, s4⟩, _⟩ := five_cells E2'
  refine bodyPost_ret (v := .tuple #[stv x q, trv (6) (e0) (0) (nl) (.slice a2 n2 c2)]) (by simp [results, Tryz.results92, go_sem, t0, t1, t2, t3, s0, s1, s2, s3, s4]) rfl ⟨6, e0, 0, none, 0, 0, a2, n2, c2, rfl, E3.out, hi2'.out, E4.out⟩
end Go.Proofs.YtggkjkkbkpnkiaaGreatDoor
