/-
  Fill of the chapter's example; Vars.
-/
import Derived.Test.YtnelgmkohiemnaaQR
set_option linter.unusedVariables false
set_option linter.unusedSimpArgs false
namespace Go.Proofs.Ytnelgmkohiemnaa
open Go.RowKit Go.Maps Go.WideMaps
attribute [local go_sem] Oper.semAt_some
variable {S S' : Nat → Prop} {W W1 W' : World}
abbrev leafs (l : List Lf) : List Tm := l.map fun t => Tm.mk t [] []
theorem check_lfs (A : Nat → Prop) (W : World) (k : Int) (hk : k = 6 ∨ k = 7) (l : List Lf) (v : Value) (h : Rep A W (.mk { k := k } [] (leafs l)) v) (hA : ∀ i, A i → i < W.heap.size) (hn : l.length ≤ 256) (hi : ∀ t ∈ l, FaultOk (.mk t [] [])) :
    Calls Try.prog 14 #[v] W fun e w' => e = .returned (.int .i64 0) ∧ Gr (fun _ => False) W w' := by
  refine check_t A W _ v (1 + l.length) h hA ?_ ⟨⟨?_, by decide, by simp [lenB]⟩, fun s' hs' => ?_⟩ ?_
  · have h1 := hgt_leaves l
    have h2 : (leafs l).length = l.length := by simp
    rw [hgt, h2]; show hgtL (l.map fun t => Tm.mk t [] []) + l.length + 1 < _; omega
  · rcases hk with rfl | rfl
    · exact ok_tuple _ (by simpa using hn)
    · exact ok_list _ (by simpa using hn)
  · have e1 : s' = 1 := by simp [stepW, lenB] at hs'; omega
    subst e1
    refine okL_leaves Pw _ _ _ (fun t ht z' hz' => ?_)
    exact ⟨hi t ht, by decide, by simp [lenB]; omega⟩
  · rw [goT]
    show goL stepW (leafs l) (1 + 1) (0 + 1 + 0) = _
    rw [goL_leaves]
set_option maxRecDepth 20000 in
set_option maxHeartbeats 1600000 in
theorem copy_t (A : Nat → Prop) (W : World) (T : Tm) (v : Value) (h : Rep A W T v) (hA : ∀ i, A i → i < W.heap.size) (ht : thin T) (hc : ∀ w, Gr (fun _ => False) W w → Calls Try.prog 14 #[v] w fun e w' => e = .returned (.int .i64 0) ∧ Gr (fun _ => False) w w') :
    Calls Try.prog 22 #[v] W fun e w' => ∃ v', e = .returned v' ∧ Rep (fun i => W.heap.size ≤ i) w' T v' ∧ Gr (fun _ => False) W w' := by
  obtain ⟨tk, tn, tx, ty, tS, ta, tc, td, a1, n1, c1, a2, n2, c2, rfl⟩ := h.agg
  have hf := Lib.hid (fun w (g : Gr (fun _ => False) W w) => fresh_t T ht A w _ (h.turn (fun i hi hlt => ⟨hi, g.block i hlt (fun e => e)⟩)) (fun i hi => Nat.lt_of_lt_of_le (hA i hi) g.size))
  have Hc := Lib.hid hc
  have h0 := heap_alloc_new W (.cells #[.int .i64 tk, .int .i64 tn, .complex .f64 tx ty, .string tS, .int .i64 ta, .int .u32 tc, .int .u64 td, .slice a1 n1 c1, .slice a2 n2 c2] 31)
  have ga := Gr.alloc (W.alloc (.cells #[.int .i64 tk, .int .i64 tn, .complex .f64 tx ty, .string tS, .int .i64 ta, .int .u32 tc, .int .u64 td, .slice a1 n1 c1, .slice a2 n2 c2] 31)) oz9 (fun _ => False)
  have h1 := heap_alloc_new (W.alloc (.cells #[.int .i64 tk, .int .i64 tn, .complex .f64 tx ty, .string tS, .int .i64 ta, .int .u32 tc, .int .u64 td, .slice a1 n1 c1, .slice a2 n2 c2] 31)) oz9
  rw [World.size_alloc] at h1
  have H0 := Lib.hid (ga.keep h0 (fun e => e))
  have H1 := Lib.hid h1
  have G0 := Lib.hid ((Gr.alloc W (.cells #[.int .i64 tk, .int .i64 tn, .complex .f64 tx ty, .string tS, .int .i64 ta, .int .u32 tc, .int .u64 td, .slice a1 n1 c1, .slice a2 n2 c2] 31) (fun _ => False)).trans ga)
  have Z0 : Hid (((W.alloc (.cells #[.int .i64 tk, .int .i64 tn, .complex .f64 tx ty, .string tS, .int .i64 ta, .int .u32 tc, .int .u64 td, .slice a1 n1 c1, .slice a2 n2 c2] 31)).alloc oz9).heap.size = W.heap.size + 2) := Lib.hid (by simp)
  clear h0 h1 ga h hA ht hc
  go_enter Try.func22, Try.ntmps22
  go_wp2_with fail
  generalize World.alloc (World.alloc W _) _ = X0 at H0 H1 G0 Z0 ⊢
  refine (Hc.out _ G0.out).mono ?_
  rintro e w1 ⟨rfl, g1⟩
  obtain ⟨⟨t0, t1, t2, t3, t4, t5, t6, t7, t8⟩, tf⟩ := nine (g1.keep H0.out (fun e => e))
  have l0 := (Array.getElem?_eq_some_iff.1 (g1.keep H0.out (fun e => e))).1
  have H2 := Lib.hid (g1.keep H1.out (fun e => e))
  have G1 := Lib.hid (G0.out.trans g1)
  have z1 : Hid (W.heap.size + 2 ≤ w1.heap.size) := Lib.hid (by have := g1.size; have := Z0.out; omega)
  clear g1 H0 H1 G0 Hc
  go_wp2_with fail
  refine (hf.out _ G1.out).mono ?_
  rintro e w2 ⟨v', rfl, hrep, g2⟩
  obtain ⟨sk, sn, sx, sy, ss, sa, sc, sd, b1, m1, d1, b2, m2, d2, rfl⟩ := hrep.agg
  have Hrep := Lib.hid hrep
  have H3 := g2.keep H2.out (fun e => e)
  obtain ⟨⟨z0, z1', z2, z3, z4, z5, z6, z7, z8⟩, zf⟩ := nine H3
  have l1 := (Array.getElem?_eq_some_iff.1 H3).1
  have G2 := Lib.hid (G1.out.trans g2)
  have hgg := Lib.hid (Gr.own9 w2 (W.heap.size + 1) (.int .i64 sk) (.int .i64 sn) (.complex .f64 sx sy) (.string ss) (.int .i64 sa) (.int .u32 sc) (.int .u64 sd) (.slice b1 m1 d1) (.slice b2 m2 d2))
  clear t0 t1 t2 t3 t4 t5 t6 t7 t8 tf l0 hrep g2 H2 G1 hf H3
  go_wp2_with fail
  refine bodyPost_ret (v := tv sk sn sx sy ss sa sc sd (.slice b1 m1 d1) (.slice b2 m2 d2)) (by simp [results, Try.results22, go_sem, z0, z1', z2, z3, z4, z5, z6, z7, z8, l1]) rfl ⟨_, rfl, ?_, G2.out.set9 (g := W.heap.size + 1) (Nat.le_succ _) _ _ _ _ _ _ _ _ _⟩
  exact Hrep.out.turn (fun i hi hlt => ⟨by have := z1.out; omega, hgg.out.block i hlt (by have := z1.out; omega)⟩)
/-- A right atom's name. -/
def AtomOk (s : ByteArray) : Prop := FaultOk (.mk { k := 3, s := s } [] [])
theorem leafP_atom (s : ByteArray) (h : AtomOk s) : LeafP (.mk { k := 3, s := s } [] []) := by
  refine ⟨⟨_, rfl⟩, fun A W g o v hr hA hn => ?_⟩
  obtain ⟨a1, c1, a2, c2, rfl⟩ := leaf_v hr
  exact fault_leaf W g o 3 0 0 0 s 0 0 0 a1 c1 a2 c2 (.inr rfl) hn (checkL { k := 3, s := s } h W a1 c1 a2 c2)
set_option maxRecDepth 20000 in
set_option maxHeartbeats 1600000 in
theorem fill_c (A : Nat → Prop) (W : World) (s at_ : ByteArray) (hs : isVar s = true) (hs2 : s.size ≤ 1000) (hat : AtomOk at_) (t : Lf) (ht : FaultOk (.mk t [] [])) (v : Value) (hrep : Rep A W (.mk { k := 6 } [] [.mk { k := 9, s := s } [] [], .mk { k := 3, s := at_ } [] []]) v) (hA : ∀ i, A i → i < W.heap.size)
    (kb c : Nat) (hc : 1 ≤ c) (a1 : Option Addr) (c1 : Nat) (a2 : Option Addr) (c2 : Nat) (hB : Bd W kb 0 s t a1 c1 a2 c2) :
    Calls Try.prog 11 #[v, .slice (some ⟨kb, 0, none⟩) 1 c] W fun e w' => (∃ v', e = .returned (.tuple #[v', .int .i64 0]) ∧ Rep (fun i => W.heap.size ≤ i) w' (.mk { k := 6 } [] [.mk t [] [], .mk { k := 3, s := at_ } [] []]) v') ∧ Gr (fun _ => False) W w' := by
  obtain ⟨pk, pn, px, py, pS, pa, pc, pd, x1, m1, y1, x2, m2, y2, rfl⟩ := hrep.agg
  have gA := Gr.alloc W (.cells #[.int .i64 pk, .int .i64 pn, .complex .f64 px py, .string pS, .int .i64 pa, .int .u32 pc, .int .u64 pd, .slice x1 m1 y1, .slice x2 m2 y2] 31) (fun _ => False)
  have gB := Gr.alloc (W.alloc (.cells #[.int .i64 pk, .int .i64 pn, .complex .f64 px py, .string pS, .int .i64 pa, .int .u32 pc, .int .u64 pd, .slice x1 m1 y1, .slice x2 m2 y2] 31)) oz9 (fun _ => False)
  have hbp := gB.keep (heap_alloc_new W (.cells #[.int .i64 pk, .int .i64 pn, .complex .f64 px py, .string pS, .int .i64 pa, .int .u32 pc, .int .u64 pd, .slice x1 m1 y1, .slice x2 m2 y2] 31)) (fun e => e)
  have hbt := heap_alloc_new (W.alloc (.cells #[.int .i64 pk, .int .i64 pn, .complex .f64 px py, .string pS, .int .i64 pa, .int .u32 pc, .int .u64 pd, .slice x1 m1 y1, .slice x2 m2 y2] 31)) oz9
  rw [World.size_alloc] at hbt
  have Hbp := Lib.hid hbp
  have Hbt := Lib.hid hbt
  have G0 := Lib.hid (gA.trans gB)
  have Z0 : Hid (((W.alloc (.cells #[.int .i64 pk, .int .i64 pn, .complex .f64 px py, .string pS, .int .i64 pa, .int .u32 pc, .int .u64 pd, .slice x1 m1 y1, .slice x2 m2 y2] 31)).alloc oz9).heap.size = W.heap.size + 2) := Lib.hid (by simp)
  have Hrep := Lib.hid hrep
  have HA := Lib.hid hA
  have HB := Lib.hid hB
  have hck := Lib.hid (fun w (g : Gr (fun _ => False) W w) => pcheck_nest A w 6 _ _ (.inl rfl) (by simp) (fun i hi => Nat.lt_of_lt_of_le (hA i hi) g.size) (hrep.turn (fun i hi hlt => ⟨hi, g.block i hlt (fun e => e)⟩)) (fun x hx => by
    simp at hx
    rcases hx with rfl | rfl
    · exact ⟨⟨_, rfl⟩, faultP_var s hs⟩
    · exact leafP_atom at_ hat))
  have hmo := Lib.hid (fun w (g : Gr (fun _ => False) W w) => mo_one w kb c hc s hs hs2 t ht a1 c1 a2 c2 (hB.g g (fun e => e)))
  have hal := Lib.hid hat
  have htl := Lib.hid ht
  clear gA gB hbp hbt hrep hA hB hs hat ht
  go_enter Try.func11, Try.ntmps11
  go_wp2_with fail
  generalize World.alloc (World.alloc W _) _ = X0 at Hbp Hbt G0 Z0 ⊢
  refine (hck.out _ G0.out).mono ?_
  rintro e w1 ⟨rfl, g1⟩
  have G1 := Lib.hid (G0.out.trans g1)
  have g01 := Lib.hid g1
  clear g1 hck
  go_wp2_with fail
  refine (hmo.out _ G1.out).mono ?_
  rintro e w2 ⟨mb, rfl, hmb, hM2, g2⟩
  have G2 := Lib.hid (G1.out.trans g2)
  have g02 := Lib.hid (g01.out.trans g2)
  have HM2 := Lib.hid hM2
  obtain ⟨⟨t0, t1, t2, t3, t4, t5, t6, t7, t8⟩, tf⟩ := nine (g02.out.keep Hbp.out (fun e => e))
  have l0 := (Array.getElem?_eq_some_iff.1 (g02.out.keep Hbp.out (fun e => e))).1
  clear g2 hmo hM2 G1 g01 hmb
  go_wp2_with fail
  refine (fill_two A w2 mb 1 (one s (lv t a1 c1 a2 c2)) HM2.out { k := 9, s := s } { k := 3, s := at_ } t { k := 3, s := at_ } (fun w hM b1 d1 b2 d2 => (fill_var w mb 1 _ hM s hs2 t a1 c1 a2 c2 (ins_same _ _ _) b1 d1 b2 d2).mono (fun e w' ⟨h1, h2⟩ => ⟨⟨a1, c1, a2, c2, h1⟩, h2⟩)) (fun w hM b1 d1 b2 d2 => fill_atom w mb at_ b1 d1 b2 d2) _ (Hrep.out.turn (fun i hi hlt => ⟨hi, G2.out.block i hlt (fun e => e)⟩)) (fun i hi => Nat.lt_of_lt_of_le (HA.out i hi) G2.out.size)).mono ?_
  rintro e w3 ⟨⟨v3, rfl, hr3⟩, g3⟩
  obtain ⟨sk, sn, sx, sy, ss, sa, sc, sd, b1, n1, d1, b2, n2, d2, rfl⟩ := hr3.agg
  have ga := Gr.alloc w3 (.cells #[.int .i64 sk, .int .i64 sn, .complex .f64 sx sy, .string ss, .int .i64 sa, .int .u32 sc, .int .u64 sd, .slice b1 n1 d1, .slice b2 n2 d2] 31) (fun _ => False)
  have R4 : Hid (Rep (fun i => w2.heap.size ≤ i ∧ i < w3.heap.size) (w3.alloc (.cells #[.int .i64 sk, .int .i64 sn, .complex .f64 sx sy, .string ss, .int .i64 sa, .int .u32 sc, .int .u64 sd, .slice b1 n1 d1, .slice b2 n2 d2] 31)) _ _) := Lib.hid (hr3.turn (fun i hi hlt => ⟨⟨hi, hlt⟩, ga.block i hlt (fun e => e)⟩))
  have H4 := Lib.hid (heap_alloc_new w3 (.cells #[.int .i64 sk, .int .i64 sn, .complex .f64 sx sy, .string ss, .int .i64 sa, .int .u32 sc, .int .u64 sd, .slice b1 n1 d1, .slice b2 n2 d2] 31))
  have G4 := Lib.hid ((G2.out.trans g3).trans ga)
  have g04 := Lib.hid ((g02.out.trans g3).trans ga)
  have z4 : Hid (w3.heap.size < (w3.alloc (.cells #[.int .i64 sk, .int .i64 sn, .complex .f64 sx sy, .string ss, .int .i64 sa, .int .u32 sc, .int .u64 sd, .slice b1 n1 d1, .slice b2 n2 d2] 31)).heap.size) := Lib.hid (by simp)
  have zz : Hid (W.heap.size + 2 ≤ w2.heap.size) := Lib.hid (by have := g02.out.size; have := Z0.out; omega)
  clear t0 t1 t2 t3 t4 t5 t6 t7 t8 tf l0 hr3 g3 ga G2 g02 HM2 Hrep HA HB
  go_wp2_with fail
  generalize World.alloc w3 _ = X4 at R4 H4 G4 g04 z4 ⊢
  generalize w3.heap.size = fb at R4 H4 z4 ⊢
  have hchk : Hid (∀ w, Gr (fun _ => False) X4 w → Calls Try.prog 14 #[tv sk sn sx sy ss sa sc sd (.slice b1 n1 d1) (.slice b2 n2 d2)] w fun e w' => e = .returned (.int .i64 0) ∧ Gr (fun _ => False) w w') := Lib.hid (fun w g => check_lfs _ w 6 (.inl rfl) [t, { k := 3, s := at_ }] _ (R4.out.turn (fun i hi hlt => ⟨hi, g.block i hlt (fun e => e)⟩)) (fun i hi => by have := g.size; have := z4.out; omega) (by simp) (fun x hx => by simp at hx; rcases hx with rfl | rfl; exact htl.out; exact hal.out))
  refine (hchk.out _ (Gr.refl _ _)).mono ?_
  rintro e w5 ⟨rfl, g5⟩
  have H5 := g5.keep H4.out (fun e => e)
  obtain ⟨⟨t0, t1, t2, t3, t4, t5, t6, t7, t8⟩, tf⟩ := nine H5
  have l0 := (Array.getElem?_eq_some_iff.1 H5).1
  have hcp := Lib.hid (copy_t _ w5 _ _ (R4.out.turn (fun i hi hlt => ⟨hi, g5.block i hlt (fun e => e)⟩)) (fun i hi => by have := g5.size; have := z4.out; omega) (by exact ⟨by simp, by simp, by simp [thinL]⟩) (fun w g => hchk.out w (g5.trans g)))
  have G5 := Lib.hid (G4.out.trans g5)
  have H6 := Lib.hid ((g04.out.trans g5).keep Hbt.out (fun e => e))
  clear H5 g5 hchk
  go_wp2_with fail
  refine hcp.out.mono ?_
  rintro e w6 ⟨v6, rfl, hr6, g6⟩
  obtain ⟨rk, rn, rx, ry, rs, ra, rc, rd, e1, k1, f1, e2, k2, f2, rfl⟩ := hr6.agg
  have H7 := g6.keep H6.out (fun e => e)
  obtain ⟨⟨z0, z1, z2, z3, z4', z5, z6, z7, z8⟩, zf⟩ := nine H7
  have l1 := (Array.getElem?_eq_some_iff.1 H7).1
  have R6 := Lib.hid hr6
  have G6 := Lib.hid (G5.out.trans g6)
  have s5 := Lib.hid G5.out.size
  have zz5 : Hid (W.heap.size + 2 ≤ w5.heap.size) := Lib.hid (by have := l0; have := zz.out; have := (Array.getElem?_eq_some_iff.1 H6.out).1; omega)
  have hgg := Lib.hid (Gr.own9 w6 (W.heap.size + 1) (.int .i64 rk) (.int .i64 rn) (.complex .f64 rx ry) (.string rs) (.int .i64 ra) (.int .u32 rc) (.int .u64 rd) (.slice e1 k1 f1) (.slice e2 k2 f2))
  clear t0 t1 t2 t3 t4 t5 t6 t7 t8 tf l0 hr6 g6 hcp H7
  go_wp2_with fail
  refine bodyPost_ret (v := .tuple #[tv rk rn rx ry rs ra rc rd (.slice e1 k1 f1) (.slice e2 k2 f2), .int .i64 0]) (by simp [results, Try.results11, go_sem, z0, z1, z2, z3, z4', z5, z6, z7, z8, l1]) rfl ⟨⟨_, rfl, ?_⟩, G6.out.set9 (g := W.heap.size + 1) (Nat.le_succ _) _ _ _ _ _ _ _ _ _⟩
  exact R6.out.turn (fun i hi hlt => ⟨by have := zz5.out; omega, hgg.out.block i hlt (by have := zz5.out; omega)⟩)
set_option maxRecDepth 20000 in
set_option maxHeartbeats 1600000 in
theorem vars_c (A : Nat → Prop) (W : World) (k : Int) (hk : k = 6 ∨ k = 7) (ns r : List ByteArray) (v : Value) (hn : ns.length ≤ 256) (hrep : Rep A W (.mk { k := k } [] (ns.map vr)) v) (hA : ∀ i, A i → i < W.heap.size) (hz : ∀ s ∈ ns, isVar s = true ∧ 1 ≤ s.size ∧ s.size ≤ 32) (hg : gath ns [] r) :
    Calls Try.prog 13 #[v] W fun e w' => (∃ a c, e = .returned (.slice a r.length c)) ∧ Gr (fun _ => False) W w' := by
  obtain ⟨pk, pn, px, py, pS, pa, pc, pd, x1, m1, y1, x2, m2, y2, rfl⟩ := hrep.agg
  have hb := Lib.hid (heap_alloc_new W (.cells #[.int .i64 pk, .int .i64 pn, .complex .f64 px py, .string pS, .int .i64 pa, .int .u32 pc, .int .u64 pd, .slice x1 m1 y1, .slice x2 m2 y2] 31))
  have gA := Lib.hid (Gr.alloc W (.cells #[.int .i64 pk, .int .i64 pn, .complex .f64 px py, .string pS, .int .i64 pa, .int .u32 pc, .int .u64 pd, .slice x1 m1 y1, .slice x2 m2 y2] 31) (fun _ => False))
  have hck := Lib.hid (fun w (g : Gr (fun _ => False) W w) => pcheck_nest A w k _ _ hk (by rw [List.length_map]; exact hn) (fun i hi => Nat.lt_of_lt_of_le (hA i hi) g.size) (hrep.turn (fun i hi hlt => ⟨hi, g.block i hlt (fun e => e)⟩)) (fun x hx => by obtain ⟨s, hs, rfl⟩ := List.mem_map.1 hx; exact ⟨⟨_, rfl⟩, faultP_var s (hz s hs).1⟩))
  have hnm := Lib.hid (fun w (g : Gr (fun _ => False) W w) => names_c A w k hk ns r _ hn (hrep.turn (fun i hi hlt => ⟨hi, g.block i hlt (fun e => e)⟩)) (fun i hi => Nat.lt_of_lt_of_le (hA i hi) g.size) (fun s hs => (hz s hs).2) hg)
  clear hrep hA hz hg hn hk
  go_enter Try.func13, Try.ntmps13
  go_wp2_with fail
  generalize World.alloc W _ = X0 at hb gA ⊢
  refine (hck.out _ gA.out).mono ?_
  rintro e w1 ⟨rfl, g1⟩
  obtain ⟨⟨t0, t1, t2, t3, t4, t5, t6, t7, t8⟩, tf⟩ := nine (g1.keep hb.out (fun e => e))
  have l0 := (Array.getElem?_eq_some_iff.1 (g1.keep hb.out (fun e => e))).1
  have G1 := Lib.hid (gA.out.trans g1)
  clear g1 hck gA
  go_wp2_with fail
  refine (hnm.out _ G1.out).mono ?_
  rintro e w2 ⟨v2, rfl, hr2, g2⟩
  obtain ⟨a, c, rfl⟩ := ownsRow_sv hr2
  go_wp2_with fail
  go_ret
  exact ⟨⟨a, c, rfl⟩, G1.out.trans g2⟩
end Go.Proofs.Ytnelgmkohiemnaa
