/-
  Carried over from another seat of ours (QS).
-/
import Derived.Test.YtfamepdghememaaQR
set_option linter.unusedVariables false
set_option linter.unusedSimpArgs false
namespace Go.Proofs.Ytfamepdghememaa
open Go.RowKit Go.Maps Go.WideMaps
attribute [local go_sem] Oper.semAt_some
variable {S S' : Nat → Prop} {W W1 W' : World}
abbrev leafs (l : List Lf) : List Tm := l.map fun t => Tm.mk t [] []
theorem check_lfs (A : Nat → Prop) (W : World) (k : Int) (hk : k = 6 ∨ k = 7) (l : List Lf) (v : Value) (h : Rep A W (.mk { k := k } [] (leafs l)) v) (hA : ∀ i, A i → i < W.heap.size) (hn : l.length ≤ 256) (hi : ∀ t ∈ l, FaultOk (.mk t [] [])) :
    Calls Try.prog 14 #[v] W fun e w' => e = .returned (.int .i64 0) ∧ Gr (fun _ => False) W w' := by
  refine check_t A W _ v (1 + l.length) h hA ?_ ⟨⟨?_, by decide, by simp [lenB]⟩, fun s' hs' => ?_⟩ ?_
  · have h1 := hgt_leaves l
    have h2 : (leafs l).length = l.length := by simp
    rw [hgt, h2]; show hgtL (l.map fun t => Tm.mk t [] []) + l.length + 1 < _; omega
  · rcases hk with rfl | rfl
    · exact ok_tuple _ (by simpa using hn)
    · exact ok_list _ (by simpa using hn)
  · have e1 : s' = 1 := by simp [stepW, lenB] at hs'; omega
    subst e1
    refine okL_leaves Pw _ _ _ (fun t ht z' hz' => ?_)
    exact ⟨hi t ht, by decide, by simp [lenB]; omega⟩
  · rw [goT]
    show goL stepW (leafs l) (1 + 1) (0 + 1 + 0) = _
    rw [goL_leaves]
theorem set_same {cs : Array Value} {j : Nat} {v : Value} (h : cs[j]? = some v) : cs.setIfInBounds j v = cs := by
  obtain ⟨h1, h2⟩ := Array.getElem?_eq_some_iff.1 h
  apply Array.ext_getElem?
  intro i
  rw [Array.getElem?_setIfInBounds]
  split
  · next e => subst e; first | exact h.symm | (rw [if_pos h1]; exact h.symm)
  · rfl
theorem Gr.same {X X' : World} {g j : Nat} {cs : Array Value} {ty : TypeId} {v : Value} (h : Gr (fun _ => False) X X') (hg : X.heap[g]? = some (.cells cs ty (0, 0))) (hc : cs[j]? = some v) : Gr (fun _ => False) X (X'.setCell ⟨g, j, none⟩ v) := by
  have t : Gr (fun i => i = g) X' (X'.setCell ⟨g, j, none⟩ v) := Gr.set _ _ _ rfl
  refine ⟨t.os.trans h.os, t.tape.trans h.tape, t.output.trans h.output, Nat.le_trans h.size t.size, fun k hk hn => ?_⟩
  by_cases e : k = g
  · subst e
    rw [heap_setCell_same X' k j cs ty v (h.keep hg (fun e => e)), set_same hc, hg]
  · exact (t.block k (Nat.lt_of_lt_of_le hk h.size) e).trans (h.block k hk (fun e => e))
/-- Blocks that are plain. -/
def Plain (W : World) (k : Nat) : Prop := ∃ cs ty, W.heap[k]? = some (.cells cs ty (0, 0))
theorem reps_any {A A' : Nat → Prop} {W W' : World} : ∀ (l : List Lf) (vs : List Value), Reps A W (leafs l) vs → Reps A' W' (leafs l) vs
  | [], vs, h => h
  | t :: l, vs, h => by
    obtain ⟨v, r, rfl, h1, h2⟩ := h
    obtain ⟨a1, c1, a2, c2, rfl⟩ := leaf_v h1
    exact ⟨_, _, rfl, leaf_rep _ _ _ _ _ _ _, reps_any l r h2⟩
theorem rep_plain {A : Nat → Prop} {W : World} {t0 : Lf} {l : List Lf} {v : Value} (h : Rep A W (.mk t0 [] (leafs l)) v) : Rep (fun k => A k ∧ Plain W k) W (.mk t0 [] (leafs l)) v := by
  obtain ⟨bv, lw, vs, rfl, k1, k2, k3⟩ := h
  refine ⟨bv, lw, vs, rfl, ?_, ?_, reps_any l vs k3⟩
  · rcases k1 with h | ⟨g, cap, cur, e, hA, h2, h3⟩
    · exact .inl h
    · exact .inr ⟨g, cap, cur, e, ⟨hA, _, _, h2⟩, h2, h3⟩
  · rcases k2 with h | ⟨g, cap, cur, e, hA, h2, h3⟩
    · exact .inl h
    · exact .inr ⟨g, cap, cur, e, ⟨hA, _, _, h2⟩, h2, h3⟩
def szP (_ : Int) (T : Tm) (_ : Unit) : Prop := ∀ t bs l, T = .mk t bs l → t.s.size ≤ 32
def szS (_ : Int) (_ : Tm) (_ : Unit) : Except Empty Unit := .ok ()
theorem szL : ∀ (l : List Lf) (d : Int), (∀ t ∈ l, t.s.size ≤ 32) → okL szP szS (leafs l) d ()
  | [], _, _ => by simp only [leafs, List.map_nil, okL]
  | t :: l, d, h => by
    show okL szP szS (.mk t [] [] :: leafs l) d ()
    rw [okL_cons]
    refine ⟨?_, fun s _ => szL l d (fun t ht => h t (List.mem_cons_of_mem _ ht))⟩
    rw [okT]
    exact ⟨fun t' bs l e => by cases e; exact h t (List.mem_cons_self ..), fun s _ => by simp only [okL]⟩
set_option maxRecDepth 100000 in
set_option maxHeartbeats 1600000 in
theorem copy_t (A : Nat → Prop) (W : World) (t0 : Lf) (l : List Lf) (v : Value) (h : Rep A W (.mk t0 [] (leafs l)) v) (hA : ∀ i, A i → i < W.heap.size) (ht : thin (.mk t0 [] (leafs l))) (hl : l.length ≤ 256) (hz0 : t0.s.size ≤ 32) (hzl : ∀ t ∈ l, t.s.size ≤ 32) (hc : ∀ w, Gr (fun _ => False) W w → Calls Try.prog 14 #[v] w fun e w' => e = .returned (.int .i64 0) ∧ Gr (fun _ => False) w w') :
    Calls Try.prog 22 #[v] W fun e w' => ∃ v', e = .returned v' ∧ Rep (fun i => W.heap.size ≤ i) w' (.mk t0 [] (leafs l)) v' ∧ Gr (fun _ => False) W w' := by
  have hgT : hgt (.mk t0 [] (leafs l)) < 1000 := by
    have h1 := hgt_leaves l
    have h2 : (leafs l).length = l.length := by simp
    rw [hgt, h2]; show hgtL (l.map fun t => Tm.mk t [] []) + l.length + 1 < _; omega
  have hokT : okT szP szS (.mk t0 [] (leafs l)) 1 () := by
    rw [okT]
    exact ⟨fun t' bs l e => by cases e; exact hz0, fun s _ => szL l _ hzl⟩
  have hcl := Lib.hid (fun (s : ByteArray) w (hz : s.size ≤ 32) => clone_g s w hz)
  obtain ⟨tk, tn, tx, ty, tS, ta, tc, td, a1, n1, c1, a2, n2, c2, rfl⟩ := h.agg
  have hf := Lib.hid (fun w (g : Gr (fun _ => False) W w) => fresh_t (.mk t0 [] (leafs l)) ht A w _ (h.turn (fun i hi hlt => ⟨hi, g.block i hlt (fun e => e)⟩)) (fun i hi => Nat.lt_of_lt_of_le (hA i hi) g.size))
  have Hc := Lib.hid hc
  have h0 := heap_alloc_new W (.cells #[.int .i64 tk, .int .i64 tn, .complex .f64 tx ty, .string tS, .int .i64 ta, .int .u32 tc, .int .u64 td, .slice a1 n1 c1, .slice a2 n2 c2] 31)
  have ga := Gr.alloc (W.alloc (.cells #[.int .i64 tk, .int .i64 tn, .complex .f64 tx ty, .string tS, .int .i64 ta, .int .u32 tc, .int .u64 td, .slice a1 n1 c1, .slice a2 n2 c2] 31)) oz9 (fun _ => False)
  have h1 := heap_alloc_new (W.alloc (.cells #[.int .i64 tk, .int .i64 tn, .complex .f64 tx ty, .string tS, .int .i64 ta, .int .u32 tc, .int .u64 td, .slice a1 n1 c1, .slice a2 n2 c2] 31)) oz9
  rw [World.size_alloc] at h1
  have H0 := Lib.hid (ga.keep h0 (fun e => e))
  have H1 := Lib.hid h1
  have G0 := Lib.hid ((Gr.alloc W (.cells #[.int .i64 tk, .int .i64 tn, .complex .f64 tx ty, .string tS, .int .i64 ta, .int .u32 tc, .int .u64 td, .slice a1 n1 c1, .slice a2 n2 c2] 31) (fun _ => False)).trans ga)
  clear h0 h1 ga h hA ht hc hz0 hzl
  have HokT := Lib.hid hokT
  have HgT := Lib.hid hgT
  clear hokT hgT
  refine (callsIn_wide (n := 3)).1 ?_
  refine callsIn_of_wp_marks Try.func22 rfl trivial ?_ rfl
  simp only [Try.ntmps22, List.size_toArray, List.length_cons, List.length_nil, Nat.reduceAdd, Nat.reduceSub, Array.replicate_succ, Array.replicate_zero, List.push_toArray, List.append_toArray, List.nil_append, List.cons_append]
  gi_wp2_with fail
  have Z0 : Hid (((W.alloc (.cells #[.int .i64 tk, .int .i64 tn, .complex .f64 tx ty, .string tS, .int .i64 ta, .int .u32 tc, .int .u64 td, .slice a1 n1 c1, .slice a2 n2 c2] 31)).alloc oz9).heap.size = W.heap.size + 2) := Lib.hid (by simp)
  generalize World.alloc (World.alloc W _) _ = X0 at H0 H1 G0 Z0 ⊢
  refine ⟨trivial, ?_⟩
  gi_at_call 14
  refine (callsIn_wide.2 (Hc.out _ G0.out)).mono ?_
  rintro e w1 ⟨rfl, g1⟩
  obtain ⟨⟨t0', t1, t2, t3, t4, t5, t6, t7, t8⟩, tf⟩ := nine (g1.keep H0.out (fun e => e))
  have l0 := (Array.getElem?_eq_some_iff.1 (g1.keep H0.out (fun e => e))).1
  have H2 := Lib.hid (g1.keep H1.out (fun e => e))
  have H2' := Lib.hid (g1.keep H0.out (fun e => e))
  have G1 := Lib.hid (G0.out.trans g1)
  have Z1 : Hid (W.heap.size + 2 ≤ w1.heap.size) := Lib.hid (by have := g1.size; have := Z0.out; omega)
  clear g1 H0 H1 G0 Hc Z0
  gi_wp2_with fail
  refine ⟨trivial, ?_⟩
  gi_at_call 33
  refine (callsIn_wide.2 (hf.out _ G1.out)).mono ?_
  rintro e w2 ⟨v', rfl, hrep, g2⟩
  obtain ⟨sk, sn, sx, sy, sS, sa, sc, sd, b1, m1, d1, b2, m2, d2, rfl⟩ := hrep.agg
  have HR := Lib.hid (rep_plain hrep)
  have H3 := Lib.hid (g2.keep H2.out (fun e => e))
  have H3' := Lib.hid (g2.keep H2'.out (fun e => e))
  clear t0' t1 t2 t3 t4 t5 t6 t7 t8 tf l0
  obtain ⟨⟨t0', t1, t2, t3, t4, t5, t6, t7, t8⟩, zf⟩ := nine H3'.out
  have l1 := (Array.getElem?_eq_some_iff.1 H3'.out).1
  have G2 := Lib.hid (G1.out.trans g2)
  clear hrep g2 H2 G1 hf H2'
  gi_wp2_with fail
  obtain ⟨X1, X2⟩ := Bx.set9 (show Bx w2 W.heap.size tk tn tx ty tS ta tc td (.slice a1 n1 c1) (.slice a2 n2 c2) from H3'.out) sk sn sx sy sS sa sc sd (.slice b1 m1 d1) (.slice b2 m2 d2)
  generalize World.setCell (World.setCell (World.setCell (World.setCell (World.setCell (World.setCell (World.setCell (World.setCell (World.setCell w2 _ _) _ _) _ _) _ _) _ _) _ _) _ _) _ _) _ _ = w3 at X1 X2 ⊢
  have H4 : w3.heap[W.heap.size + 1]? = some (.cells #[.int .i64 0, .int .i64 0, .complex .f64 0 0, .string e0, .int .i64 0, .int .u32 0, .int .u64 0, nl, nl] 31 (0, 0)) := X2.keep H3.out (by omega)
  have G3 : Gr (fun _ => False) W w3 := G2.out.trans' X2 (fun i hi e => by omega)
  have z3 : W.heap.size + 1 < w3.heap.size := (Array.getElem?_eq_some_iff.1 H4).1
  have R3 : Rep (fun k => w1.heap.size ≤ k ∧ k < w3.heap.size ∧ Plain w3 k) w3 (.mk t0 [] (leafs l)) (tv sk sn sx sy sS sa sc sd (.slice b1 m1 d1) (.slice b2 m2 d2)) := HR.out.turn (fun k hk hlt => by
    have e := X2.block k hlt (by have := Z1.out; omega)
    obtain ⟨h1, cs, ty, h2⟩ := hk
    exact ⟨⟨h1, Nat.lt_of_lt_of_le hlt X2.size, cs, ty, e.trans h2⟩, e⟩)
  clear t0' t1 t2 t3 t4 t5 t6 t7 t8 zf l1 H3 H3' G2 X2 HR
  refine ⟨trivial, ?_⟩
  gi_at_call 36
  refine (callsIn_wide.2 (parts_c _ _ _)).mono ?_
  rintro e w4 ⟨rfl, rfl⟩
  have gX : Gr (fun _ => False) w3 ((w3.alloc (.cells #[pt W.heap.size] 53)).alloc (.cells #[.int .i64 1] 3)) := (Gr.alloc _ _ _).trans (Gr.alloc _ _ _)
  have C1 := gX.keep X1 (fun e => e)
  have C2 := gX.keep H4 (fun e => e)
  have C3 : ((w3.alloc (.cells #[pt W.heap.size] 53)).alloc (.cells #[.int .i64 1] 3)).heap[w3.heap.size]? = some (.cells #[pt W.heap.size] 53 (0, 0)) := (heap_alloc_old (w3.alloc _) _ (by simp)).trans (heap_alloc_new w3 _)
  have C4 : ((w3.alloc (.cells #[pt W.heap.size] 53)).alloc (.cells #[.int .i64 1] 3)).heap[w3.heap.size + 1]? = some (.cells #[.int .i64 1] 3 (0, 0)) := by
    have := heap_alloc_new (w3.alloc (.cells #[pt W.heap.size] 53)) (.cells #[.int .i64 1] 3); rw [World.size_alloc] at this; exact this
  have C5 := G3.trans gX
  have R5 : Rep (fun k => w1.heap.size ≤ k ∧ k < w3.heap.size ∧ Plain ((w3.alloc (.cells #[pt W.heap.size] 53)).alloc (.cells #[.int .i64 1] 3)) k) ((w3.alloc (.cells #[pt W.heap.size] 53)).alloc (.cells #[.int .i64 1] 3)) (.mk t0 [] (leafs l)) (tv sk sn sx sy sS sa sc sd (.slice b1 m1 d1) (.slice b2 m2 d2)) := R3.turn (fun k hk hlt => by
    have e := gX.block k hlt (fun e => e)
    obtain ⟨h1, h3, cs, ty, h2⟩ := hk
    exact ⟨⟨h1, h3, cs, ty, e.trans h2⟩, e⟩)
  have sX : ((w3.alloc (.cells #[pt W.heap.size] 53)).alloc (.cells #[.int .i64 1] 3)).heap.size = w3.heap.size + 2 := by simp
  obtain ⟨M, hM⟩ : ∃ M, w3.heap.size = M := ⟨_, rfl⟩
  rw [hM] at C3 C4 sX z3 R5 ⊢
  have Z3 := Lib.hid z3
  clear X1 H4 G3 gX R3
  gi_wp2_with fail
  generalize (w3.alloc (.cells #[pt W.heap.size] 53)).alloc (.cells #[.int .i64 1] 3) = X at C1 C2 C3 C4 C5 R5 sX ⊢
  clear hM w3
  have hat0 : At (Plain X) X (.mk t0 [] (leafs l)) W.heap.size 0 :=
    ⟨⟨_, _, C1⟩, _, R5.turn (fun k hk hlt => ⟨hk.2.2, rfl⟩), fun j u hu => by
      simp only [World.cell?, C1, Nat.zero_add]
      simpa [cellsOf] using hu⟩
  have hPl : ∀ k, Plain X k → k < X.heap.size := fun k ⟨cs, ty, h⟩ => (Array.getElem?_eq_some_iff.1 h).1
  refine rangeParts (parts_all _) (bd := M + 1) (bt := M) (g := W.heap.size) (o := 0) (d := 1) szP szS (Plain X) rfl rfl (by omega) (by have := HgT.out; omega) hat0
    hPl (fun _ X' => Gr (fun _ => False) X X') (fun _ _ => False) ?hI ?hIx ?hIA ?hbox () HokT.out (Gr.refl _ _) ?a1 ?assign ?body ?done ?stop
  case hI =>
    rintro z X1 X2 h t
    exact h.trans' t (fun i hi e => by omega)
  case hIx => exact fun x X X' h _ => h.elim
  case hIA =>
    rintro z X' h k hk
    exact h.block k (hPl k hk) (fun e => e)
  case hbox =>
    rintro z X' h
    exact ⟨(cell_of (h.keep C4 (fun e => e))).1, (cell_of (h.keep C3 (fun e => e))).1⟩
  case assign =>
    intro d g o l X K hK
    gi_wp2
    exact hK
  case body =>
    rintro z d T' g o X' hsz hat h hlt
    obtain ⟨⟨cs, ty', hgc⟩, v', hrep', hns⟩ := hat
    obtain ⟨t', bs', l', e1, f1, e2, f2, rfl, rfl⟩ := hrep'.ts
    have hsz' := hsz t' bs' l' rfl
    have hns : Ns X g o _ := hns
    have hs3 : cs[o + 3]? = some (.string t'.s) := by
      have := hns.facts.2.2.2.1
      simpa [World.cell?, hgc] using this
    have hns' := hns.gr h
    have u3 := hns'.facts.2.2.2.1
    have Hh := Lib.hid h
    have Hgc := Lib.hid hgc
    have Hs3 := Lib.hid hs3
    generalize t'.s = S at *
    have hcl' := Lib.hid (fun w => hcl.out S w hsz')
    clear h hat0 hns hns' hrep' hsz hs3 hcl
    gi_wp2_with fail
    refine ⟨trivial, ?_⟩
    gi_at_call 30
    refine (CallsIn.inRound _ (callsIn_wide.2 (hcl'.out _))).mono ?_
    rintro e w5 ⟨rfl, g5⟩
    have K6 : Hid (Gr (fun _ => False) X (w5.setCell ⟨g, o + 3, none⟩ (.string S))) := Lib.hid ((Hh.out.trans g5).same Hgc.out Hs3.out)
    have K7 : Hid (Kx X.heap.size X' (w5.setCell ⟨g, o + 3, none⟩ (.string S))) := Lib.hid (Kx.of_gr ((g5.mono (S' := fun i => i = g) (fun _ _ e => e.elim)).trans (Gr.set _ _ _ rfl)) (fun k _ e => by subst e; exact hPl k ⟨_, _, Hgc.out⟩))
    have hcg := (Hh.out.trans g5).keep Hgc.out (fun e => e)
    have y3 : w5.cell? ⟨g, o + 3, none⟩ = some (.string S) := by simpa [World.cell?, hcg] using Hs3.out
    have yf : w5.frozen? ⟨g, o + 3, none⟩ = false := by simp [World.frozen?, hcg]
    clear u3 g5 hcg
    gi_wp2_with fail
    exact ⟨K7.out, _, rfl, K6.out⟩
  case done =>
    rintro z X' hz h hD hsz
    rw [sX] at hD ⊢
    have C1' : Bx X' W.heap.size sk sn sx sy sS sa sc sd (.slice b1 m1 d1) (.slice b2 m2 d2) := h.keep C1 (fun e => e)
    have C2' : Bx X' (W.heap.size + 1) 0 0 0 0 e0 0 0 0 nl nl := h.keep C2 (fun e => e)
    obtain ⟨Y1, Y2⟩ := Bx.set9 C2' sk sn sx sy sS sa sc sd (.slice b1 m1 d1) (.slice b2 m2 d2)
    have HY1 := Lib.hid Y1
    have HY2 := Lib.hid Y2
    have HG := Lib.hid (C5.trans h)
    have Hh := Lib.hid h
    have HR := Lib.hid R5
    obtain ⟨⟨t0', t1, t2, t3, t4, t5, t6, t7, t8⟩, tf⟩ := nine C1'
    obtain ⟨⟨r0, r1, r2, r3, r4, r5, r6, r7, r8⟩, rf⟩ := nine C2'
    have l0 := (Array.getElem?_eq_some_iff.1 C1').1
    have l1 := (Array.getElem?_eq_some_iff.1 C2').1
    have HD := Lib.hid hD
    clear Y1 Y2 h hD C1 C2 C3 C4 C5 C1' C2' R5 hat0
    gi_wp2_with fail
    obtain ⟨W6, hW6⟩ : ∃ W6, W6 = World.setCell (World.setCell (World.setCell (World.setCell (World.setCell (World.setCell (World.setCell (World.setCell (World.setCell X' ⟨W.heap.size + 1, 0, none⟩ (.int .i64 sk)) ⟨W.heap.size + 1, 1, none⟩ (.int .i64 sn)) ⟨W.heap.size + 1, 2, none⟩ (.complex .f64 sx sy)) ⟨W.heap.size + 1, 3, none⟩ (.string sS)) ⟨W.heap.size + 1, 4, none⟩ (.int .i64 sa)) ⟨W.heap.size + 1, 5, none⟩ (.int .u32 sc)) ⟨W.heap.size + 1, 6, none⟩ (.int .u64 sd)) ⟨W.heap.size + 1, 7, none⟩ (.slice b1 m1 d1)) ⟨W.heap.size + 1, 8, none⟩ (.slice b2 m2 d2) := ⟨_, rfl⟩
    rw [← hW6] at HY1 HY2 ⊢
    have e3 := HY2.out.keep HD.out (by have := Z3.out; omega)
    have e4 := HG.out.trans' HY2.out (fun i hi e => by omega)
    have t5' : Gr (fun i => i = M + 2) W6 (W6.putObj (M + 2) (.deferred none)) := Gr.of_grown (grownBy_putObj' _ _ _) (fun k e => by cases e; rfl)
    have HY3 : Bx (W6.putObj (M + 2) (.deferred none)) (W.heap.size + 1) sk sn sx sy sS sa sc sd (.slice b1 m1 d1) (.slice b2 m2 d2) := t5'.keep HY1.out (by have := Z3.out; omega)
    have e5 : Gr (fun _ => False) W (W6.putObj (M + 2) (.deferred none)) := e4.trans' t5' (fun i hi e => by have := Z3.out; omega)
    obtain ⟨⟨y0, y1, y2, y3, y4, y5, y6, y7, y8⟩, yf⟩ := nine HY3
    have l2 := (Array.getElem?_eq_some_iff.1 HY3).1
    refine ⟨by simp, .inl ⟨_, _, rfl, run_takeDeferred e3, ?_⟩⟩
    refine ⟨tv sk sn sx sy sS sa sc sd (.slice b1 m1 d1) (.slice b2 m2 d2), by simp [results, Try.results22, go_sem, y0, y1, y2, y3, y4, y5, y6, y7, y8, l2], _, rfl, ?_, e5⟩
    exact HR.out.turn (fun k hk hlt => ⟨by have := Z1.out; omega, ((t5'.block k (by have := HY2.out.size; have := Hh.out.size; omega) (by have := hk.2.1; omega)).trans (HY2.out.block k (by have := Hh.out.size; omega) (by have := Z1.out; omega))).trans (Hh.out.block k hlt (fun e => e))⟩)
  case stop =>
    exact fun x _ _ h => h.elim
/-- A right atom's name. -/
def AtomOk (s : ByteArray) : Prop := FaultOk (.mk { k := 3, s := s } [] [])
theorem leafP_atom (s : ByteArray) (h : AtomOk s) : LeafP (.mk { k := 3, s := s } [] []) := by
  refine ⟨⟨_, rfl⟩, fun A W g o v hr hA hn => ?_⟩
  obtain ⟨a1, c1, a2, c2, rfl⟩ := leaf_v hr
  exact fault_leaf W g o 3 0 0 0 s 0 0 0 a1 c1 a2 c2 (.inr rfl) hn (checkL { k := 3, s := s } h W a1 c1 a2 c2)
set_option maxRecDepth 20000 in
set_option maxHeartbeats 1600000 in
theorem fill_c (A : Nat → Prop) (W : World) (s at_ : ByteArray) (hs : isVar s = true) (hs2 : s.size ≤ 1000) (hat : AtomOk at_) (haz : at_.size ≤ 32) (t : Lf) (htz : t.s.size ≤ 32) (ht : FaultOk (.mk t [] [])) (v : Value) (hrep : Rep A W (.mk { k := 6 } [] [.mk { k := 9, s := s } [] [], .mk { k := 3, s := at_ } [] []]) v) (hA : ∀ i, A i → i < W.heap.size)
    (kb c : Nat) (hc : 1 ≤ c) (a1 : Option Addr) (c1 : Nat) (a2 : Option Addr) (c2 : Nat) (hB : Bd W kb 0 s t a1 c1 a2 c2) :
    Calls Try.prog 11 #[v, .slice (some ⟨kb, 0, none⟩) 1 c] W fun e w' => (∃ v', e = .returned (.tuple #[v', .int .i64 0]) ∧ Rep (fun i => W.heap.size ≤ i) w' (.mk { k := 6 } [] [.mk t [] [], .mk { k := 3, s := at_ } [] []]) v') ∧ Gr (fun _ => False) W w' := by
  obtain ⟨pk, pn, px, py, pS, pa, pc, pd, x1, m1, y1, x2, m2, y2, rfl⟩ := hrep.agg
  have gA := Gr.alloc W (.cells #[.int .i64 pk, .int .i64 pn, .complex .f64 px py, .string pS, .int .i64 pa, .int .u32 pc, .int .u64 pd, .slice x1 m1 y1, .slice x2 m2 y2] 31) (fun _ => False)
  have gB := Gr.alloc (W.alloc (.cells #[.int .i64 pk, .int .i64 pn, .complex .f64 px py, .string pS, .int .i64 pa, .int .u32 pc, .int .u64 pd, .slice x1 m1 y1, .slice x2 m2 y2] 31)) oz9 (fun _ => False)
  have hbp := gB.keep (heap_alloc_new W (.cells #[.int .i64 pk, .int .i64 pn, .complex .f64 px py, .string pS, .int .i64 pa, .int .u32 pc, .int .u64 pd, .slice x1 m1 y1, .slice x2 m2 y2] 31)) (fun e => e)
  have hbt := heap_alloc_new (W.alloc (.cells #[.int .i64 pk, .int .i64 pn, .complex .f64 px py, .string pS, .int .i64 pa, .int .u32 pc, .int .u64 pd, .slice x1 m1 y1, .slice x2 m2 y2] 31)) oz9
  rw [World.size_alloc] at hbt
  have Hbp := Lib.hid hbp
  have Hbt := Lib.hid hbt
  have G0 := Lib.hid (gA.trans gB)
  have Z0 : Hid (((W.alloc (.cells #[.int .i64 pk, .int .i64 pn, .complex .f64 px py, .string pS, .int .i64 pa, .int .u32 pc, .int .u64 pd, .slice x1 m1 y1, .slice x2 m2 y2] 31)).alloc oz9).heap.size = W.heap.size + 2) := Lib.hid (by simp)
  have Hrep := Lib.hid hrep
  have HA := Lib.hid hA
  have HB := Lib.hid hB
  have hck := Lib.hid (fun w (g : Gr (fun _ => False) W w) => pcheck_nest A w 6 _ _ (.inl rfl) (by simp) (fun i hi => Nat.lt_of_lt_of_le (hA i hi) g.size) (hrep.turn (fun i hi hlt => ⟨hi, g.block i hlt (fun e => e)⟩)) (fun x hx => by
    simp at hx
    rcases hx with rfl | rfl
    · exact ⟨⟨_, rfl⟩, faultP_var s hs⟩
    · exact leafP_atom at_ hat))
  have hmo := Lib.hid (fun w (g : Gr (fun _ => False) W w) => mo_one w kb c hc s hs hs2 t ht a1 c1 a2 c2 (hB.g g (fun e => e)))
  have hal := Lib.hid hat
  have htl := Lib.hid ht
  clear gA gB hbp hbt hrep hA hB hs hat ht
  go_enter Try.func11, Try.ntmps11
  go_wp2_with fail
  generalize World.alloc (World.alloc W _) _ = X0 at Hbp Hbt G0 Z0 ⊢
  refine (hck.out _ G0.out).mono ?_
  rintro e w1 ⟨rfl, g1⟩
  have G1 := Lib.hid (G0.out.trans g1)
  have g01 := Lib.hid g1
  clear g1 hck
  go_wp2_with fail
  refine (hmo.out _ G1.out).mono ?_
  rintro e w2 ⟨mb, rfl, hmb, hM2, g2⟩
  have G2 := Lib.hid (G1.out.trans g2)
  have g02 := Lib.hid (g01.out.trans g2)
  have HM2 := Lib.hid hM2
  obtain ⟨⟨t0, t1, t2, t3, t4, t5, t6, t7, t8⟩, tf⟩ := nine (g02.out.keep Hbp.out (fun e => e))
  have l0 := (Array.getElem?_eq_some_iff.1 (g02.out.keep Hbp.out (fun e => e))).1
  clear g2 hmo hM2 G1 g01 hmb
  go_wp2_with fail
  refine (fill_two A w2 mb 1 (one s (lv t a1 c1 a2 c2)) HM2.out { k := 9, s := s } { k := 3, s := at_ } t { k := 3, s := at_ } (fun w hM b1 d1 b2 d2 => (fill_var w mb 1 _ hM s hs2 t a1 c1 a2 c2 (ins_same _ _ _) b1 d1 b2 d2).mono (fun e w' ⟨h1, h2⟩ => ⟨⟨a1, c1, a2, c2, h1⟩, h2⟩)) (fun w hM b1 d1 b2 d2 => fill_atom w mb at_ b1 d1 b2 d2) _ (Hrep.out.turn (fun i hi hlt => ⟨hi, G2.out.block i hlt (fun e => e)⟩)) (fun i hi => Nat.lt_of_lt_of_le (HA.out i hi) G2.out.size)).mono ?_
  rintro e w3 ⟨⟨v3, rfl, hr3⟩, g3⟩
  obtain ⟨sk, sn, sx, sy, ss, sa, sc, sd, b1, n1, d1, b2, n2, d2, rfl⟩ := hr3.agg
  have ga := Gr.alloc w3 (.cells #[.int .i64 sk, .int .i64 sn, .complex .f64 sx sy, .string ss, .int .i64 sa, .int .u32 sc, .int .u64 sd, .slice b1 n1 d1, .slice b2 n2 d2] 31) (fun _ => False)
  have R4 : Hid (Rep (fun i => w2.heap.size ≤ i ∧ i < w3.heap.size) (w3.alloc (.cells #[.int .i64 sk, .int .i64 sn, .complex .f64 sx sy, .string ss, .int .i64 sa, .int .u32 sc, .int .u64 sd, .slice b1 n1 d1, .slice b2 n2 d2] 31)) _ _) := Lib.hid (hr3.turn (fun i hi hlt => ⟨⟨hi, hlt⟩, ga.block i hlt (fun e => e)⟩))
  have H4 := Lib.hid (heap_alloc_new w3 (.cells #[.int .i64 sk, .int .i64 sn, .complex .f64 sx sy, .string ss, .int .i64 sa, .int .u32 sc, .int .u64 sd, .slice b1 n1 d1, .slice b2 n2 d2] 31))
  have G4 := Lib.hid ((G2.out.trans g3).trans ga)
  have g04 := Lib.hid ((g02.out.trans g3).trans ga)
  have z4 : Hid (w3.heap.size < (w3.alloc (.cells #[.int .i64 sk, .int .i64 sn, .complex .f64 sx sy, .string ss, .int .i64 sa, .int .u32 sc, .int .u64 sd, .slice b1 n1 d1, .slice b2 n2 d2] 31)).heap.size) := Lib.hid (by simp)
  have zz : Hid (W.heap.size + 2 ≤ w2.heap.size) := Lib.hid (by have := g02.out.size; have := Z0.out; omega)
  clear t0 t1 t2 t3 t4 t5 t6 t7 t8 tf l0 hr3 g3 ga G2 g02 HM2 Hrep HA HB
  go_wp2_with fail
  generalize World.alloc w3 _ = X4 at R4 H4 G4 g04 z4 ⊢
  generalize w3.heap.size = fb at R4 H4 z4 ⊢
  have hchk : Hid (∀ w, Gr (fun _ => False) X4 w → Calls Try.prog 14 #[tv sk sn sx sy ss sa sc sd (.slice b1 n1 d1) (.slice b2 n2 d2)] w fun e w' => e = .returned (.int .i64 0) ∧ Gr (fun _ => False) w w') := Lib.hid (fun w g => check_lfs _ w 6 (.inl rfl) [t, { k := 3, s := at_ }] _ (R4.out.turn (fun i hi hlt => ⟨hi, g.block i hlt (fun e => e)⟩)) (fun i hi => by have := g.size; have := z4.out; omega) (by simp) (fun x hx => by simp at hx; rcases hx with rfl | rfl; exact htl.out; exact hal.out))
  refine (hchk.out _ (Gr.refl _ _)).mono ?_
  rintro e w5 ⟨rfl, g5⟩
  have H5 := g5.keep H4.out (fun e => e)
  obtain ⟨⟨t0, t1, t2, t3, t4, t5, t6, t7, t8⟩, tf⟩ := nine H5
  have l0 := (Array.getElem?_eq_some_iff.1 H5).1
  have hcp := Lib.hid (copy_t _ w5 { k := 6 } [t, { k := 3, s := at_ }] _ (R4.out.turn (fun i hi hlt => ⟨hi, g5.block i hlt (fun e => e)⟩)) (fun i hi => by have := g5.size; have := z4.out; omega) (by exact ⟨by simp, by simp, by simp [thinL]⟩) (by simp) (by show (0 : Nat) ≤ 32; omega) (fun u hu => by simp at hu; rcases hu with rfl | rfl; exact htz; exact haz) (fun w g => hchk.out w (g5.trans g)))
  have G5 := Lib.hid (G4.out.trans g5)
  have H6 := Lib.hid ((g04.out.trans g5).keep Hbt.out (fun e => e))
  clear H5 g5 hchk
  go_wp2_with fail
  refine hcp.out.mono ?_
  rintro e w6 ⟨v6, rfl, hr6, g6⟩
  obtain ⟨rk, rn, rx, ry, rs, ra, rc, rd, e1, k1, f1, e2, k2, f2, rfl⟩ := hr6.agg
  have H7 := g6.keep H6.out (fun e => e)
  obtain ⟨⟨z0, z1, z2, z3, z4', z5, z6, z7, z8⟩, zf⟩ := nine H7
  have l1 := (Array.getElem?_eq_some_iff.1 H7).1
  have R6 := Lib.hid hr6
  have G6 := Lib.hid (G5.out.trans g6)
  have s5 := Lib.hid G5.out.size
  have zz5 : Hid (W.heap.size + 2 ≤ w5.heap.size) := Lib.hid (by have := l0; have := zz.out; have := (Array.getElem?_eq_some_iff.1 H6.out).1; omega)
  have hgg := Lib.hid (Gr.own9 w6 (W.heap.size + 1) (.int .i64 rk) (.int .i64 rn) (.complex .f64 rx ry) (.string rs) (.int .i64 ra) (.int .u32 rc) (.int .u64 rd) (.slice e1 k1 f1) (.slice e2 k2 f2))
  clear t0 t1 t2 t3 t4 t5 t6 t7 t8 tf l0 hr6 g6 hcp H7
  go_wp2_with fail
  refine bodyPost_ret (v := .tuple #[tv rk rn rx ry rs ra rc rd (.slice e1 k1 f1) (.slice e2 k2 f2), .int .i64 0]) (by simp [results, Try.results11, go_sem, z0, z1, z2, z3, z4', z5, z6, z7, z8, l1]) rfl ⟨⟨_, rfl, ?_⟩, G6.out.set9 (g := W.heap.size + 1) (Nat.le_succ _) _ _ _ _ _ _ _ _ _⟩
  exact R6.out.turn (fun i hi hlt => ⟨by have := zz5.out; omega, hgg.out.block i hlt (by have := zz5.out; omega)⟩)
set_option maxRecDepth 20000 in
set_option maxHeartbeats 1600000 in
theorem vars_c (A : Nat → Prop) (W : World) (k : Int) (hk : k = 6 ∨ k = 7) (ns r : List ByteArray) (v : Value) (hn : ns.length ≤ 256) (hrep : Rep A W (.mk { k := k } [] (ns.map vr)) v) (hA : ∀ i, A i → i < W.heap.size) (hz : ∀ s ∈ ns, isVar s = true ∧ 1 ≤ s.size ∧ s.size ≤ 32) (hg : gath ns [] r) :
    Calls Try.prog 13 #[v] W fun e w' => (∃ a c, e = .returned (.slice a r.length c)) ∧ Gr (fun _ => False) W w' := by
  obtain ⟨pk, pn, px, py, pS, pa, pc, pd, x1, m1, y1, x2, m2, y2, rfl⟩ := hrep.agg
  have hb := Lib.hid (heap_alloc_new W (.cells #[.int .i64 pk, .int .i64 pn, .complex .f64 px py, .string pS, .int .i64 pa, .int .u32 pc, .int .u64 pd, .slice x1 m1 y1, .slice x2 m2 y2] 31))
  have gA := Lib.hid (Gr.alloc W (.cells #[.int .i64 pk, .int .i64 pn, .complex .f64 px py, .string pS, .int .i64 pa, .int .u32 pc, .int .u64 pd, .slice x1 m1 y1, .slice x2 m2 y2] 31) (fun _ => False))
  have hck := Lib.hid (fun w (g : Gr (fun _ => False) W w) => pcheck_nest A w k _ _ hk (by rw [List.length_map]; exact hn) (fun i hi => Nat.lt_of_lt_of_le (hA i hi) g.size) (hrep.turn (fun i hi hlt => ⟨hi, g.block i hlt (fun e => e)⟩)) (fun x hx => by obtain ⟨s, hs, rfl⟩ := List.mem_map.1 hx; exact ⟨⟨_, rfl⟩, faultP_var s (hz s hs).1⟩))
  have hnm := Lib.hid (fun w (g : Gr (fun _ => False) W w) => names_c A w k hk ns r _ hn (hrep.turn (fun i hi hlt => ⟨hi, g.block i hlt (fun e => e)⟩)) (fun i hi => Nat.lt_of_lt_of_le (hA i hi) g.size) (fun s hs => (hz s hs).2) hg)
  clear hrep hA hz hg hn hk
  go_enter Try.func13, Try.ntmps13
  go_wp2_with fail
  generalize World.alloc W _ = X0 at hb gA ⊢
  refine (hck.out _ gA.out).mono ?_
  rintro e w1 ⟨rfl, g1⟩
  obtain ⟨⟨t0, t1, t2, t3, t4, t5, t6, t7, t8⟩, tf⟩ := nine (g1.keep hb.out (fun e => e))
  have l0 := (Array.getElem?_eq_some_iff.1 (g1.keep hb.out (fun e => e))).1
  have G1 := Lib.hid (gA.out.trans g1)
  clear g1 hck gA
  go_wp2_with fail
  refine (hnm.out _ G1.out).mono ?_
  rintro e w2 ⟨v2, rfl, hr2, g2⟩
  obtain ⟨a, c, rfl⟩ := ownsRow_sv hr2
  go_wp2_with fail
  go_ret
  exact ⟨⟨a, c, rfl⟩, G1.out.trans g2⟩
end Go.Proofs.Ytfamepdghememaa

