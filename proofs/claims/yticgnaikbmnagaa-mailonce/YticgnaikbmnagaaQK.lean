/-
  Carried over from another seat of ours (QK).
-/
import Derived.Test.YticgnaikbmnagaaQI
set_option linter.unusedVariables false
set_option linter.unusedSimpArgs false
namespace Go.Proofs.Yticgnaikbmnagaa
open Go.RowKit Go.Maps Go.WideMaps
attribute [local go_sem] Oper.semAt_some
variable {S S' : Nat → Prop} {W W1 W' : World}
abbrev lv (t : Lf) (a1 : Option Addr) (c1 : Nat) (a2 : Option Addr) (c2 : Nat) : Value := ts t.k t.n t.x t.y t.s t.a t.c t.d a1 0 c1 a2 0 c2
theorem checkL (t : Lf) (ht : FaultOk (.mk t [] [])) (W : World) (a1 : Option Addr) (c1 : Nat) (a2 : Option Addr) (c2 : Nat) : Calls Try.prog 14 #[lv t a1 c1 a2 c2] W fun e w' => e = .returned (.int .i64 0) ∧ Gr (fun _ => False) W w' :=
  check_t (fun _ => False) W (.mk t [] []) _ 1 (leaf_rep _ _ _ _ _ _ _) (fun _ e => e.elim) (by simp [hgt, hgtL]) ⟨⟨ht, by decide, by simp [lenB]⟩, fun _ _ => by simp only [okL]⟩ (by simp [goT, goL, stepW, lenB])
theorem clone_e (w : World) : Calls Try.prog 25 #[.string e0] w fun e w' => e = .returned (.string e0) ∧ Gr (fun _ => False) w w' := by
  go_enter Try.func25, Try.ntmps25
  go_wp2_with (first | (go_at_call 47; go_in))
  go_ret
  exact ⟨rfl, Gr.refl _ _⟩
theorem clone_g (s : ByteArray) (w : World) (h2 : s.size ≤ 32) : Calls Try.prog 25 #[.string s] w fun e w' => e = .returned (.string s) ∧ Gr (fun _ => False) w w' := by
  by_cases h : 1 ≤ s.size
  · refine (clone_c s w h h2).mono ?_
    rintro e w' ⟨h1, hb⟩
    exact ⟨h1, Gr.of_below hb _⟩
  · have : s = e0 := by
      apply ByteArray.ext
      apply Array.eq_empty_of_size_eq_zero
      show s.size = 0
      omega
    subst this
    exact clone_e w
/-- A copy's blocks, in the loop over its parts. -/
structure Cp (W : World) (N M : Nat) (t : Lf) (bs l : Value) (X : World) : Prop where
  tm : Bx X N t.k t.n t.x t.y t.s t.a t.c t.d bs l
  rs : Bx X (N + 1) 0 0 0 0 e0 0 0 0 nl nl
  at_ : X.heap[M]? = some (.cells #[ptr N 0] 60 (0, 0))
  deep : X.heap[M + 1]? = some (.cells #[.int .i64 1] 3 (0, 0))
  gr : Gr (fun _ => False) W X
theorem Cp.turn {W X X' : World} {N M : Nat} {t : Lf} {bs l : Value} (h : Cp W N M t bs l X) (g : Gr S X X') (hS : ∀ i, S i → N + 1 < i ∧ M + 1 < i) (hN : W.heap.size ≤ N) : Cp W N M t bs l X' :=
  ⟨g.keep h.tm (fun e => by have := hS _ e; omega), g.keep h.rs (fun e => by have := hS _ e; omega), g.keep h.at_ (fun e => by have := hS _ e; omega), g.keep h.deep (fun e => by have := hS _ e; omega), h.gr.trans' g (fun i hi e => by have := hS _ e; omega)⟩
theorem Cp.same {W X : World} {N M : Nat} {t : Lf} {bs l : Value} (h : Cp W N M t bs l X) (hN : W.heap.size ≤ N) (hM : N + 1 < M) : Cp W N M t bs l (X.setCell ⟨N, 3, none⟩ (.string t.s)) ∧ Gr (fun i => i = N) X (X.setCell ⟨N, 3, none⟩ (.string t.s)) := by
  have g : Gr (fun i => i = N) X (X.setCell ⟨N, 3, none⟩ (.string t.s)) := Gr.set _ _ _ rfl
  exact ⟨⟨heap_setCell_same X N 3 _ 35 _ h.tm, g.keep h.rs (by omega), g.keep h.at_ (by omega), g.keep h.deep (by omega), h.gr.trans' g (fun i hi e => by omega)⟩, g⟩
theorem Bx.at0 {A : Nat → Prop} {W : World} {N o : Nat} {T : Tm} {k n : Int} {x y : Nat} {s : ByteArray} {a c d : Int} {bs l : Value} (h : Bx W N k n x y s a c d bs l) (hat : At A W T N o) : o = 0 := by
  obtain ⟨v, hr, hNs⟩ := hat.ns
  obtain ⟨t, bs', l', a1, c1, a2, c2, rfl, rfl⟩ := hr.ts
  have f8 := hNs.facts.2.2.2.2.2.2.2.2
  unfold Bx at h
  simp only [World.cell?, h] at f8
  rcases Nat.eq_zero_or_pos o with e | e
  · exact e
  · exfalso
    have : o + 8 = (o - 1) + 9 := by omega
    rw [this] at f8
    simp at f8
set_option maxRecDepth 100000 in
set_option maxHeartbeats 1600000 in
theorem copyL (t : Lf) (ht : FaultOk (.mk t [] [])) (hz : t.s.size ≤ 32) (W : World) (a1 : Option Addr) (c1 : Nat) (a2 : Option Addr) (c2 : Nat) : Calls Try.prog 16 #[lv t a1 c1 a2 c2] W fun e w' => (∃ b1 d1 b2 d2, e = .returned (lv t b1 d1 b2 d2)) ∧ Gr (fun _ => False) W w' := by
  have hc := Lib.hid (fun w => checkL t ht w a1 c1 a2 c2)
  have hf := Lib.hid (fun w => fresh_t (.mk t [] []) (by simp [thin, thinL]) (fun _ => False) w (lv t a1 c1 a2 c2) (leaf_rep _ _ _ _ _ _ _) (fun _ e => e.elim))
  have hcl := Lib.hid (fun w => clone_g t.s w hz)
  clear ht hz
  obtain ⟨tk, tn, tx, ty, tS, ta, tc, td⟩ := t
  have h0 := heap_alloc_new W (.cells #[.int .i64 tk, .int .i64 tn, .complex .f64 tx ty, .string tS, .int .i64 ta, .int .u32 tc, .int .u64 td, .slice a1 0 c1, .slice a2 0 c2] 35)
  have ga := Gr.alloc (W.alloc (.cells #[.int .i64 tk, .int .i64 tn, .complex .f64 tx ty, .string tS, .int .i64 ta, .int .u32 tc, .int .u64 td, .slice a1 0 c1, .slice a2 0 c2] 35)) oz9 (fun _ => False)
  have h1 := heap_alloc_new (W.alloc (.cells #[.int .i64 tk, .int .i64 tn, .complex .f64 tx ty, .string tS, .int .i64 ta, .int .u32 tc, .int .u64 td, .slice a1 0 c1, .slice a2 0 c2] 35)) oz9
  rw [World.size_alloc] at h1
  have H0 := Lib.hid (ga.keep h0 (fun e => e))
  have H1 := Lib.hid h1
  have G0 := Lib.hid ((Gr.alloc W (.cells #[.int .i64 tk, .int .i64 tn, .complex .f64 tx ty, .string tS, .int .i64 ta, .int .u32 tc, .int .u64 td, .slice a1 0 c1, .slice a2 0 c2] 35) (fun _ => False)).trans ga)
  clear h0 h1 ga
  refine (callsIn_wide (n := 3)).1 ?_
  refine callsIn_of_wp_marks Try.func16 rfl trivial ?_ rfl
  simp only [Try.ntmps16, List.size_toArray, List.length_cons, List.length_nil, Nat.reduceAdd, Nat.reduceSub, Array.replicate_succ, Array.replicate_zero, List.push_toArray, List.append_toArray, List.nil_append, List.cons_append]
  gi_wp2_with fail
  generalize World.alloc (World.alloc W _) _ = X0 at H0 H1 G0 ⊢
  refine ⟨trivial, ?_⟩
  gi_at_call 14
  refine (callsIn_wide.2 (hc.out _)).mono ?_
  rintro e w1 ⟨rfl, g1⟩
  obtain ⟨⟨t0, t1, t2, t3, t4, t5, t6, t7, t8⟩, tf⟩ := nine (g1.keep H0.out (fun e => e))
  have l0 := (Array.getElem?_eq_some_iff.1 (g1.keep H0.out (fun e => e))).1
  have H2 := Lib.hid (g1.keep H1.out (fun e => e))
  have H2' := Lib.hid (g1.keep H0.out (fun e => e))
  have G1 := Lib.hid (G0.out.trans g1)
  clear g1 H0 H1 G0 hc
  gi_wp2_with fail
  refine ⟨trivial, ?_⟩
  gi_at_call 23
  refine (callsIn_wide.2 (hf.out _)).mono ?_
  rintro e w2 ⟨v', rfl, hrep, g2⟩
  obtain ⟨b1, d1, b2, d2, rfl⟩ := leaf_v hrep
  have H3 := Lib.hid (g2.keep H2.out (fun e => e))
  have H3' := Lib.hid (g2.keep H2'.out (fun e => e))
  clear t0 t1 t2 t3 t4 t5 t6 t7 t8 tf l0
  obtain ⟨⟨t0, t1, t2, t3, t4, t5, t6, t7, t8⟩, zf⟩ := nine H3'.out
  have l1 := (Array.getElem?_eq_some_iff.1 H3'.out).1
  have G2 := Lib.hid (G1.out.trans g2)
  clear hrep g2 H2 G1 hf H2'
  gi_wp2_with fail
  obtain ⟨X1, X2⟩ := Bx.set9 (show Bx w2 W.heap.size tk tn tx ty tS ta tc td (.slice a1 0 c1) (.slice a2 0 c2) from H3'.out) tk tn tx ty tS ta tc td (.slice b1 0 d1) (.slice b2 0 d2)
  generalize World.setCell (World.setCell (World.setCell (World.setCell (World.setCell (World.setCell (World.setCell (World.setCell (World.setCell w2 _ _) _ _) _ _) _ _) _ _) _ _) _ _) _ _) _ _ = w3 at X1 X2 ⊢
  have H4 : w3.heap[W.heap.size + 1]? = some (.cells #[.int .i64 0, .int .i64 0, .complex .f64 0 0, .string e0, .int .i64 0, .int .u32 0, .int .u64 0, nl, nl] 35 (0, 0)) := X2.keep H3.out (by omega)
  have G3 : Gr (fun _ => False) W w3 := G2.out.trans' X2 (fun i hi e => by omega)
  have z3 : W.heap.size + 1 < w3.heap.size := (Array.getElem?_eq_some_iff.1 H4).1
  clear t0 t1 t2 t3 t4 t5 t6 t7 t8 zf l1 H3 H3' G2 X2
  refine ⟨trivial, ?_⟩
  gi_at_call 24
  refine (callsIn_wide.2 (parts_c _ _ _)).mono ?_
  rintro e w4 ⟨rfl, rfl⟩
  have gX : Gr (fun _ => False) w3 ((w3.alloc (.cells #[pt W.heap.size] 60)).alloc (.cells #[.int .i64 1] 3)) := (Gr.alloc _ _ _).trans (Gr.alloc _ _ _)
  have hC : Cp W W.heap.size w3.heap.size { k := tk, n := tn, x := tx, y := ty, s := tS, a := ta, c := tc, d := td } (.slice b1 0 d1) (.slice b2 0 d2) ((w3.alloc (.cells #[pt W.heap.size] 60)).alloc (.cells #[.int .i64 1] 3)) := by
    refine ⟨gX.keep X1 (fun e => e), gX.keep H4 (fun e => e), ?_, ?_, G3.trans gX⟩
    · exact (heap_alloc_old (w3.alloc _) _ (by simp)).trans (heap_alloc_new w3 _)
    · have := heap_alloc_new (w3.alloc (.cells #[pt W.heap.size] 60)) (.cells #[.int .i64 1] 3); rw [World.size_alloc] at this; exact this
  have sX : ((w3.alloc (.cells #[pt W.heap.size] 60)).alloc (.cells #[.int .i64 1] 3)).heap.size = w3.heap.size + 2 := by simp
  obtain ⟨M, hM⟩ : ∃ M, w3.heap.size = M := ⟨_, rfl⟩
  rw [hM] at hC sX z3 ⊢
  clear X1 H4 G3 gX
  gi_wp2_with fail
  generalize (w3.alloc (.cells #[pt W.heap.size] 60)).alloc (.cells #[.int .i64 1] 3) = X at hC sX ⊢
  clear hM
  have hat0 : At (fun k => k = W.heap.size) X (.mk { k := tk, n := tn, x := tx, y := ty, s := tS, a := ta, c := tc, d := td } [] []) W.heap.size 0 :=
    ⟨rfl, _, leaf_rep _ _ _ b1 d1 b2 d2, fun j u hu => by
      have := hC.tm
      unfold Bx at this
      simp only [World.cell?, this, Nat.zero_add]
      simpa [cellsOf] using hu⟩
  refine rangeParts (parts_all _) (bd := M + 1) (bt := M) (g := W.heap.size) (o := 0) (d := 1) (fun _ _ (_ : Unit) => True) (fun _ _ _ => (.ok () : Except Empty Unit)) (fun k => k = W.heap.size) rfl rfl (by omega) (by simp [hgt, hgtL]) hat0
    (fun k hk => by omega) (fun _ X => Cp W W.heap.size M { k := tk, n := tn, x := tx, y := ty, s := tS, a := ta, c := tc, d := td } (.slice b1 0 d1) (.slice b2 0 d2) X) (fun _ _ => False) ?hI ?hIx ?hIA ?hbox () (by simp only [okT, okL]; exact ⟨trivial, fun _ _ => trivial⟩) hC ?a1 ?assign ?body ?done ?stop
  case hI =>
    rintro z X X' h t
    exact h.turn t (fun i e => by omega) (Nat.le_refl _)
  case hIx => exact fun x X X' h _ => h.elim
  case hIA =>
    rintro z X' h k rfl
    exact h.tm.trans hC.tm.symm
  case hbox =>
    rintro z X h
    exact ⟨(cell_of h.deep).1, (cell_of h.at_).1⟩
  case assign =>
    intro d g o l X K hK
    gi_wp2
    exact hK
  case body =>
    rintro z d T' g o X' - hat h hlt
    obtain rfl : g = W.heap.size := hat.1
    obtain rfl : o = 0 := Bx.at0 h.tm (hat.turn (fun k hk => by subst hk; exact h.tm.trans hC.tm.symm))
    obtain ⟨⟨t0, t1, t2, t3, t4, t5, t6, t7, t8⟩, tf⟩ := nine h.tm
    have l0 := (Array.getElem?_eq_some_iff.1 h.tm).1
    have Hh := Lib.hid h
    clear h hat hat0
    gi_wp2_with fail
    refine ⟨trivial, ?_⟩
    gi_at_call 25
    refine (CallsIn.inRound _ (callsIn_wide.2 (hcl.out _))).mono ?_
    rintro e w5 ⟨rfl, g5⟩
    have h5 := Hh.out.turn g5 (fun i e => e.elim) (Nat.le_refl _)
    obtain ⟨h6, g6⟩ := h5.same (Nat.le_refl _) z3
    have K6 : Hid (Kx X.heap.size X' (w5.setCell ⟨W.heap.size, 3, none⟩ (.string tS))) := Lib.hid (Kx.of_gr ((g5.mono (fun _ _ e => e.elim)).trans g6) (fun k _ e => by omega))
    have H6 := Lib.hid h6
    clear t0 t1 t2 t3 t4 t5 t6 t7 t8 tf l0 h6 g6 g5
    obtain ⟨⟨t0, t1, t2, t3, t4, t5, t6, t7, t8⟩, tf⟩ := nine h5.tm
    have l0 := (Array.getElem?_eq_some_iff.1 h5.tm).1
    clear h5
    gi_wp2_with fail
    exact ⟨K6.out, _, rfl, H6.out⟩
  case done =>
    rintro z X' hz h hD hsz
    rw [sX] at hD ⊢
    obtain ⟨Y1, Y2⟩ := Bx.set9 h.rs tk tn tx ty tS ta tc td (.slice b1 0 d1) (.slice b2 0 d2)
    have HY1 := Lib.hid Y1
    have HY2 := Lib.hid Y2
    have HG := Lib.hid h.gr
    obtain ⟨⟨t0, t1, t2, t3, t4, t5, t6, t7, t8⟩, tf⟩ := nine h.tm
    obtain ⟨⟨r0, r1, r2, r3, r4, r5, r6, r7, r8⟩, rf⟩ := nine h.rs
    have l0 := (Array.getElem?_eq_some_iff.1 h.tm).1
    have l1 := (Array.getElem?_eq_some_iff.1 h.rs).1
    have HD := Lib.hid hD
    clear Y1 Y2 h hD hC hat0
    gi_wp2_with fail
    obtain ⟨W6, hW6⟩ : ∃ W6, W6 = World.setCell (World.setCell (World.setCell (World.setCell (World.setCell (World.setCell (World.setCell (World.setCell (World.setCell X' ⟨W.heap.size + 1, 0, none⟩ (.int .i64 tk)) ⟨W.heap.size + 1, 1, none⟩ (.int .i64 tn)) ⟨W.heap.size + 1, 2, none⟩ (.complex .f64 tx ty)) ⟨W.heap.size + 1, 3, none⟩ (.string tS)) ⟨W.heap.size + 1, 4, none⟩ (.int .i64 ta)) ⟨W.heap.size + 1, 5, none⟩ (.int .u32 tc)) ⟨W.heap.size + 1, 6, none⟩ (.int .u64 td)) ⟨W.heap.size + 1, 7, none⟩ (.slice b1 0 d1)) ⟨W.heap.size + 1, 8, none⟩ (.slice b2 0 d2) := ⟨_, rfl⟩
    rw [← hW6] at HY1 HY2 ⊢
    have e3 := HY2.out.keep HD.out (by omega)
    have e4 := HG.out.trans' HY2.out (fun i hi e => by omega)
    have t5 : Gr (fun i => i = M + 2) W6 (W6.putObj (M + 2) (.deferred none)) := Gr.of_grown (grownBy_putObj' _ _ _) (fun k e => by cases e; rfl)
    have HY3 : Bx (W6.putObj (M + 2) (.deferred none)) (W.heap.size + 1) tk tn tx ty tS ta tc td (.slice b1 0 d1) (.slice b2 0 d2) := t5.keep HY1.out (by omega)
    have hs : W.heap.size + 1 < M := z3
    have e5 : Gr (fun _ => False) W (W6.putObj (M + 2) (.deferred none)) := e4.trans' t5 (fun i hi e => by omega)
    obtain ⟨⟨y0, y1, y2, y3, y4, y5, y6, y7, y8⟩, yf⟩ := nine HY3
    have l2 := (Array.getElem?_eq_some_iff.1 HY3).1
    refine ⟨by simp, .inl ⟨_, _, rfl, run_takeDeferred e3, ?_⟩⟩
    exact ⟨lv { k := tk, n := tn, x := tx, y := ty, s := tS, a := ta, c := tc, d := td } b1 d1 b2 d2, by simp [results, Try.results16, go_sem, y0, y1, y2, y3, y4, y5, y6, y7, y8, l2], ⟨b1, d1, b2, d2, rfl⟩, e5⟩
  case stop =>
    exact fun x _ _ h => h.elim
end Go.Proofs.Yticgnaikbmnagaa

