/-
  Carried over from another seat of ours (GL).
-/
import Derived.Test.YtggkjkkbkpnkiaaGreatDoorGK
import Derived.Test.YtggkjkkbkpnkiaaGreatDoorGKa
import Derived.Test.YtggkjkkbkpnkiaaGreatDoorGKb
import Derived.Test.YtggkjkkbkpnkiaaGreatDoorGKc
set_option linter.unusedVariables false
set_option linter.unusedSimpArgs false
namespace Go.Proofs.YtggkjkkbkpnkiaaGreatDoor
open Go.RowKit Go.Maps
variable {x : Kx} {W W' : World} {pb : Nat} {p p' : Ps}

@[go_sem] theorem st_func (P : Program) (w : World) (a : Addr) (m : Mode) (fn : Fn) (x y : Array Value) : (store a (.func fn x y) m).run P w = stored P w a (.func fn x y) m := run_store P w a _ m rfl
/-- What signs of all levels join. -/
def joinedV (ts : List Tn) (u : Rule) : Rule := joinV ts sgs0 (joinV ts sgs1 (joinV ts sgs2 u ts.length) ts.length) 1
set_option maxRecDepth 100000 in
set_option maxHeartbeats 1600000 in
theorem joined_c (d : Nat) (g : Rule) (hg : DownOk x 0 d g) : RuleOk x 60 d g := by
  refine ⟨ent_of Tryz.func60 (by kernel_rfl) rfl, fun W pb p h hd => ?_⟩
  have hb := h.lt
  go_enter Tryz.func60, Tryz.ntmps60
  go_wp2_with fail
  have gx : Gr (fun _ => False) W (((W.alloc (.cells #[pt pb] 53)).alloc (.cells zc 30)).alloc (.cells #[dwn W.heap.size (W.heap.size + 1 + 1)] 99)) := ((Gr.alloc W _ _).trans (Gr.alloc _ _ _)).trans (Gr.alloc _ _ _)
  have hx3 : (((W.alloc (.cells #[pt pb] 53)).alloc (.cells zc 30)).alloc (.cells #[dwn W.heap.size (W.heap.size + 1 + 1)] 99)).heap[W.heap.size + 1 + 1]? = some (.cells #[dwn W.heap.size (W.heap.size + 1 + 1)] 99 (0, 0)) := by
    have := heap_alloc_new ((W.alloc (.cells #[pt pb] 53)).alloc (.cells zc 30)) (.cells #[dwn W.heap.size (W.heap.size + 1 + 1)] 99)
    simpa using this
  have hxb : (((W.alloc (.cells #[pt pb] 53)).alloc (.cells zc 30)).alloc (.cells #[dwn W.heap.size (W.heap.size + 1 + 1)] 99)).heap[W.heap.size + 1]? = some (.cells zc 30 (0, 0)) := by
    have := (Gr.alloc ((W.alloc (.cells #[pt pb] 53)).alloc (.cells zc 30)) (.cells #[dwn W.heap.size (W.heap.size + 1 + 1)] 99) (fun _ => False)).keep (b := W.heap.size + 1) (by have := heap_alloc_new (W.alloc (.cells #[pt pb] 53)) (.cells zc 30); simpa using this) (fun e => e)
    exact this
  have hx1 : (((W.alloc (.cells #[pt pb] 53)).alloc (.cells zc 30)).alloc (.cells #[dwn W.heap.size (W.heap.size + 1 + 1)] 99)).heap[W.heap.size]? = some (.cells #[pt pb] 53 (0, 0)) :=
    ((Gr.alloc (W.alloc (.cells #[pt pb] 53)) (.cells zc 30) (fun _ => False)).trans (Gr.alloc _ _ _)).keep (heap_alloc_new W (.cells #[pt pb] 53)) (fun e => e)
  have hsz : (((W.alloc (.cells #[pt pb] 53)).alloc (.cells zc 30)).alloc (.cells #[dwn W.heap.size (W.heap.size + 1 + 1)] 99)).heap.size = W.heap.size + 3 := by simp
  generalize ((W.alloc (.cells #[pt pb] 53)).alloc (.cells zc 30)).alloc (.cells #[dwn W.heap.size (W.heap.size + 1 + 1)] 99) = W0 at gx hx3 hxb hx1 hsz ⊢
  obtain ⟨u1, hu1⟩ : ∃ u, W.heap.size = u := ⟨_, rfl⟩
  obtain ⟨u3, hu3⟩ : ∃ u, W.heap.size + 1 + 1 = u := ⟨_, rfl⟩
  obtain ⟨b, hbb⟩ : ∃ b, W.heap.size + 1 = b := ⟨_, rfl⟩
  rw [hu3] at hx3 ⊢
  rw [hbb] at hxb ⊢
  rw [hu1] at hx1 hx3 ⊢
  have q1 : u1 < b := by omega
  have q2 : b < u3 := by omega
  have q3 : pb < u1 := by omega
  have q4 : u3 < W0.heap.size := by omega
  refine (hg W0 pb p u1 u3 (h.g0 gx) hd (by simp [World.cell?, hx1]) (by simp [World.cell?, hx3]) (by omega) (by omega)).mono ?_
  rintro e w1 ⟨v, rfl, rep1, h1, ⟨hd1, hi1⟩, g1⟩
  obtain ⟨tk, tt, tn, a1, n1, c1', a2, n2, c2, rfl⟩ := rep1.agg
  have hbl := h1.lt
  have hbN := g1.keep hxb (by omega)
  obtain ⟨⟨m0, m1, m2, m3, m4⟩, f0, f1, f2, f3, f4⟩ := five_cells hbN
  go_wp2_with fail
  have gN : Gr (fun k => k = pb) W w1 := (gx.any _).trans g1
  have rep := rep1.mono (base' := b + 1) (by omega)
  obtain ⟨hf, r1, r2, r3⟩ := fin_tree' hbN rep h1 (by omega) gN (by omega)
  clear m0 m1 m2 m3 m4
  obtain ⟨⟨m0, m1, m2, m3, m4⟩, _⟩ := five_cells hf
  exact bodyPost_ret (v := trv tk tt tn (.slice a1 n1 c1') (.slice a2 n2 c2)) (by simp [results, Tryz.results60, go_sem, m0, m1, m2, m3, m4]) rfl ⟨_, rfl, r1, r2, ⟨hd1, hi1⟩, r3⟩

abbrev sEq : ByteArray := ⟨#[61]⟩
abbrev sBang : ByteArray := ⟨#[33]⟩
def exprV (ts : List Tn) (ex jn : Rule) (p : Ps) : Tr × Ps :=
  if isV ts (jn p).2 sEq = true then (.mk 9 e0 0 [] [(jn p).1, (deeperV ex (jn p).2).1], (deeperV ex (jn p).2).2)
  else if isV ts (jn p).2 sBang = true then (.mk 10 e0 0 [] [(jn p).1, (deeperV ex (jn p).2).1], (deeperV ex (jn p).2).2)
  else jn p
/-- The cells of a tree in its block. -/
abbrev SL (lb : Nat) (k : Int) (s : ByteArray) (n : Int) (bv lv : Value) (w : World) : Prop := w.cell? ⟨lb, 0, none⟩ = some (.int .i64 k) ∧ w.cell? ⟨lb, 1, none⟩ = some (.string s) ∧ w.cell? ⟨lb, 2, none⟩ = some (.int .i64 n) ∧ w.cell? ⟨lb, 3, none⟩ = some bv ∧ w.cell? ⟨lb, 4, none⟩ = some lv
theorem SL.gr {S : Nat → Prop} {lb : Nat} {k : Int} {s : ByteArray} {n : Int} {bv lv : Value} (h : SL lb k s n bv lv W) (g : Gr S W W') (hs : ¬ S lb) : SL lb k s n bv lv W' :=
  ⟨cell_gr h.1 g hs, cell_gr h.2.1 g hs, cell_gr h.2.2.1 g hs, cell_gr h.2.2.2.1 g hs, cell_gr h.2.2.2.2 g hs⟩
set_option maxRecDepth 100000 in
set_option maxHeartbeats 1600000 in
theorem expr_eq (d : Nat) (ex jn : Rule) (hex : d < 40 → RuleOk x 50 (d + 1) ex) (hj : RuleOk x 60 d jn) (h : Pz x W pb p) (hd : p.d = d) (q1 : isV x.ts (jn p).2 sEq = true) : Calls Tryz.prog 50 #[pt pb] W fun e w' => EndR x W pb p e w' (.mk 9 e0 0 [] [(jn p).1, (deeperV ex (jn p).2).1], (deeperV ex (jn p).2).2) := by
  obtain ⟨hlc, he, hl⟩ := isV_lt q1
  have hb := h.lt
  have h0 := h.g0 (Gr.alloc W (.cells zc 30) _)
  have hb0 := heap_alloc_new W (.cells zc 30)
  have g0 : Gr (fun _ => False) W (W.alloc (.cells zc 30)) := Gr.alloc _ _ _
  have hz0 : (W.alloc (.cells zc 30)).heap.size = W.heap.size + 1 := by simp
  go_enter Tryz.func50, Tryz.ntmps50
  go_wp2_with fail
  generalize W.alloc (.cells zc 30) = W0 at h0 hb0 g0 hz0 ⊢
  obtain ⟨b, hbb⟩ : ∃ b, W.heap.size = b := ⟨_, rfl⟩
  have hbp : pb < b := by omega
  rw [hbb] at hb0 hz0 ⊢
  refine (hj.2 W0 pb p h0 hd).mono ?_
  rintro e w1 ⟨v, rfl, rep1, h1, ⟨hd1, hi1⟩, g1⟩
  obtain ⟨tk, tt, tn, a1, n1, c1, a2, n2, c2, rfl⟩ := rep1.agg
  have hs1 := g1.size
  have hbl := h1.lt
  have G2 := Gr.alloc w1 (.cells #[.int .i64 tk, .string tt, .int .i64 tn, .slice a1 n1 c1, .slice a2 n2 c2] 30) (fun _ => False)
  have hl2 := heap_alloc_new w1 (.cells #[.int .i64 tk, .string tt, .int .i64 tn, .slice a1 n1 c1, .slice a2 n2 c2] 30)
  have hz2 : (w1.alloc (.cells #[.int .i64 tk, .string tt, .int .i64 tn, .slice a1 n1 c1, .slice a2 n2 c2] 30)).heap.size = w1.heap.size + 1 := by simp
  go_wp2_with fail
  generalize w1.alloc _ = w2 at G2 hl2 hz2 ⊢
  obtain ⟨lb, hlb⟩ : ∃ lb, w1.heap.size = lb := ⟨_, rfl⟩
  rw [hlb] at hl2 hz2 ⊢
  have hlbb : b < lb := by omega
  have h2 := h1.g0 G2
  have hb2 := G2.keep (g1.keep hb0 (by omega)) (fun e => e)
  have rep2 := (rep1.mono (base' := b + 1) (by omega)).g0 G2
  have G2' : Gr (fun k => k = pb) W w2 := ((g0.any _).trans g1).trans (G2.any _)
  refine (is_c h2 sEq).mono ?_
  rintro e w3 ⟨rfl, k3⟩
  rw [q1]
  have h3 := h2.g0 k3
  have hb3 := k3.keep hb2 (fun e => e)
  have hl3 := k3.keep hl2 (fun e => e)
  have rep3 := rep2.g0 k3
  have G3' := G2'.trans (k3.any _)
  have sz3 := k3.size
  go_wp2_with fail
  have hD := h3.g0 (Gr.drew w3 _)
  have s1 : SL lb tk tt tn (.slice a1 n1 c1) (.slice a2 n2 c2) w3.drew := (five_cells (w := w3.drew) hl3).1
  obtain ⟨z0, z1, z2, z3, z4⟩ := s1
  have s1 : SL lb tk tt tn (.slice a1 n1 c1) (.slice a2 n2 c2) w3.drew := ⟨z0, z1, z2, z3, z4⟩
  have hdp := deeper_c (W := w3.drew) (pb := pb) (p := (jn p).2) 50 ex (ent_of Tryz.func50 (by kernel_rfl) rfl) hD he hl (fun W' hP hG => by
    have hd2 : (jn p).2.d + 1 ≤ 40 := hP.hd
    exact (hex (by omega)).2 W' pb (jn p).2.deep hP (by show (jn p).2.d + 1 = d + 1; omega))
  unfold EndR at hdp
  replace hdp := Lib.hid hdp
  have hnlb : b ≠ lb := by omega
  have hnlp : lb ≠ pb := by omega
  go_region_held3 (SL lb tk tt tn (.slice a1 n1 c1) (.slice a2 n2 c2)) (with_reducible assumption)
    (first
      | (go_at_call 61; with_reducible refine hdp.out.mono ?_; rintro e w8 ⟨v, rfl, rep8, h8, hi8, g8⟩; obtain ⟨uk, ut, un', a3, n3, c3, a4, n4, c4, rfl⟩ := rep8.agg; have s2 : SL lb tk tt tn (.slice a1 n1 c1) (.slice a2 n2 c2) w8 := SL.gr s1 g8 hnlp; have hb8 := g8.keep (W := w3.drew) (o := .cells zc 30 (0, 0)) hb3 (by omega); have s2a : SL lb tk tt tn (.slice a1 n1 c1) (.slice a2 n2 c2) (w8.alloc (.cells #[.int .i64 tk, .string tt, .int .i64 tn, .slice a1 n1 c1, .slice a2 n2 c2, .int .i64 uk, .string ut, .int .i64 un', .slice a3 n3 c3, .slice a4 n4 c4] 30)) := SL.gr s2 (Gr.alloc w8 _ (fun _ => False)) (fun e => e))
      | (go_at_call 18; refine (node_c _ 9 e0 _ 2 2).mono ?_; rintro e w9 ⟨rfl, g9⟩; have s3 : SL lb tk tt tn (.slice a1 n1 c1) (.slice a2 n2 c2) w9 := SL.gr s2a g9 (fun e => e); have hbN := g9.keep (o := .cells zc 30 (0, 0)) ((Gr.alloc w8 _ (fun _ => False)).keep hb8 (fun e => e)) (fun e => e); obtain ⟨⟨m0, m1, m2, m3, m4⟩, f0, f1, f2, f3, f4⟩ := five_cells hbN; have s4 : SL lb tk tt tn (.slice a1 n1 c1) (.slice a2 n2 c2) (set5 w9 b (.int .i64 9) (.string e0) (.int .i64 0) nl (.slice (some ⟨w8.heap.size, 0, none⟩) 2 2)) := SL.gr s3 (set5_gr w9 b _ _ _ _ _) (Ne.symm hnlb))
      | fail)
  all_goals
    go_wp2_with fail
    have hs8 := g8.size
    have hs8' : w3.heap.size ≤ w8.heap.size := hs8
    have L8 := Lr.lit2 ((rep3.g0 (Gr.drew w3 _)).gr g8 (fun k hk e => by omega)) (rep8.mono (base' := b + 1) (by show b + 1 ≤ w3.heap.size; omega)) (by omega)
    have Ga := Gr.alloc w8 (.cells #[.int .i64 tk, .string tt, .int .i64 tn, .slice a1 n1 c1, .slice a2 n2 c2, .int .i64 uk, .string ut, .int .i64 un', .slice a3 n3 c3, .slice a4 n4 c4] 30) (fun _ => False)
    have rep := (L8.g0 g9).tree 9 e0
    have hN := (h8.g0 Ga).g0 g9
    have gN : Gr (fun k => k = pb) W w9 := (((G3'.trans (Gr.drew _ _)).trans g8).trans (Ga.any _)).trans (g9.any _)
    obtain ⟨hf, r1, r2, r3⟩ := fin_tree hbN rep hN hbp gN hbb
    clear m0 m1 m2 m3 m4
    obtain ⟨⟨m0, m1, m2, m3, m4⟩, _⟩ := five_cells hf
    exact bodyPost_ret (v := trv 9 e0 0 nl (.slice (some ⟨w8.heap.size, 0, none⟩) 2 2)) (by simp [results, Tryz.results50, go_sem, m0, m1, m2, m3, m4]) rfl ⟨_, rfl, r1, r2, ⟨hi8.1.trans hd1, Nat.le_trans hi1 hi8.2⟩, r3⟩
set_option maxRecDepth 100000 in
set_option maxHeartbeats 1600000 in
theorem expr_bang (d : Nat) (ex jn : Rule) (hex : d < 40 → RuleOk x 50 (d + 1) ex) (hj : RuleOk x 60 d jn) (h : Pz x W pb p) (hd : p.d = d) (q1 : isV x.ts (jn p).2 sEq = false) (q2 : isV x.ts (jn p).2 sBang = true) : Calls Tryz.prog 50 #[pt pb] W fun e w' => EndR x W pb p e w' (.mk 10 e0 0 [] [(jn p).1, (deeperV ex (jn p).2).1], (deeperV ex (jn p).2).2) := by
  obtain ⟨hlc, he, hl⟩ := isV_lt q2
  have hb := h.lt
  have h0 := h.g0 (Gr.alloc W (.cells zc 30) _)
  have hb0 := heap_alloc_new W (.cells zc 30)
  have g0 : Gr (fun _ => False) W (W.alloc (.cells zc 30)) := Gr.alloc _ _ _
  have hz0 : (W.alloc (.cells zc 30)).heap.size = W.heap.size + 1 := by simp
  go_enter Tryz.func50, Tryz.ntmps50
  go_wp2_with fail
  generalize W.alloc (.cells zc 30) = W0 at h0 hb0 g0 hz0 ⊢
  obtain ⟨b, hbb⟩ : ∃ b, W.heap.size = b := ⟨_, rfl⟩
  have hbp : pb < b := by omega
  rw [hbb] at hb0 hz0 ⊢
  refine (hj.2 W0 pb p h0 hd).mono ?_
  rintro e w1 ⟨v, rfl, rep1, h1, ⟨hd1, hi1⟩, g1⟩
  obtain ⟨tk, tt, tn, a1, n1, c1, a2, n2, c2, rfl⟩ := rep1.agg
  have hs1 := g1.size
  have hbl := h1.lt
  have G2 := Gr.alloc w1 (.cells #[.int .i64 tk, .string tt, .int .i64 tn, .slice a1 n1 c1, .slice a2 n2 c2] 30) (fun _ => False)
  have hl2 := heap_alloc_new w1 (.cells #[.int .i64 tk, .string tt, .int .i64 tn, .slice a1 n1 c1, .slice a2 n2 c2] 30)
  have hz2 : (w1.alloc (.cells #[.int .i64 tk, .string tt, .int .i64 tn, .slice a1 n1 c1, .slice a2 n2 c2] 30)).heap.size = w1.heap.size + 1 := by simp
  go_wp2_with fail
  generalize w1.alloc _ = w2 at G2 hl2 hz2 ⊢
  obtain ⟨lb, hlb⟩ : ∃ lb, w1.heap.size = lb := ⟨_, rfl⟩
  rw [hlb] at hl2 hz2 ⊢
  have hlbb : b < lb := by omega
  have h2 := h1.g0 G2
  have hb2 := G2.keep (g1.keep hb0 (by omega)) (fun e => e)
  have rep2 := (rep1.mono (base' := b + 1) (by omega)).g0 G2
  have G2' : Gr (fun k => k = pb) W w2 := ((g0.any _).trans g1).trans (G2.any _)
  refine (is_c h2 sEq).mono ?_
  rintro e w3 ⟨rfl, k3⟩
  rw [q1]
  have h3 := h2.g0 k3
  have hb3 := k3.keep hb2 (fun e => e)
  have hl3 := k3.keep hl2 (fun e => e)
  have rep3 := rep2.g0 k3
  have G3' := G2'.trans (k3.any _)
  have sz3 := k3.size
  go_wp2_with fail
  refine (is_c h3 sBang).mono ?_
  rintro e w4 ⟨rfl, k4⟩
  rw [q2]
  have h4 := h3.g0 k4
  have hb4 := k4.keep hb3 (fun e => e)
  have hl4 := k4.keep hl3 (fun e => e)
  have rep4 := rep3.g0 k4
  have G4' := G3'.trans (k4.any _)
  have sz4 := k4.size
  go_wp2_with fail
  have hD := h4.g0 (Gr.drew w4 _)
  have s1 : SL lb tk tt tn (.slice a1 n1 c1) (.slice a2 n2 c2) w4.drew := (five_cells (w := w4.drew) hl4).1
  obtain ⟨z0, z1, z2, z3, z4⟩ := s1
  have s1 : SL lb tk tt tn (.slice a1 n1 c1) (.slice a2 n2 c2) w4.drew := ⟨z0, z1, z2, z3, z4⟩
  have hdp := deeper_c (W := w4.drew) (pb := pb) (p := (jn p).2) 50 ex (ent_of Tryz.func50 (by kernel_rfl) rfl) hD he hl (fun W' hP hG => by
    have hd2 : (jn p).2.d + 1 ≤ 40 := hP.hd
    exact (hex (by omega)).2 W' pb (jn p).2.deep hP (by show (jn p).2.d + 1 = d + 1; omega))
  unfold EndR at hdp
  replace hdp := Lib.hid hdp
  have hnlb : b ≠ lb := by omega
  have hnlp : lb ≠ pb := by omega
  go_region_held3 (SL lb tk tt tn (.slice a1 n1 c1) (.slice a2 n2 c2)) (with_reducible assumption)
    (first
      | (go_at_call 61; with_reducible refine hdp.out.mono ?_; rintro e w8 ⟨v, rfl, rep8, h8, hi8, g8⟩; obtain ⟨uk, ut, un', a3, n3, c3, a4, n4, c4, rfl⟩ := rep8.agg; have s2 : SL lb tk tt tn (.slice a1 n1 c1) (.slice a2 n2 c2) w8 := SL.gr s1 g8 hnlp; have hb8 := g8.keep (W := w4.drew) (o := .cells zc 30 (0, 0)) hb4 (by omega); have s2a : SL lb tk tt tn (.slice a1 n1 c1) (.slice a2 n2 c2) (w8.alloc (.cells #[.int .i64 tk, .string tt, .int .i64 tn, .slice a1 n1 c1, .slice a2 n2 c2, .int .i64 uk, .string ut, .int .i64 un', .slice a3 n3 c3, .slice a4 n4 c4] 30)) := SL.gr s2 (Gr.alloc w8 _ (fun _ => False)) (fun e => e))
      | (go_at_call 18; refine (node_c _ 10 e0 _ 2 2).mono ?_; rintro e w9 ⟨rfl, g9⟩; have s3 : SL lb tk tt tn (.slice a1 n1 c1) (.slice a2 n2 c2) w9 := SL.gr s2a g9 (fun e => e); have hbN := g9.keep (o := .cells zc 30 (0, 0)) ((Gr.alloc w8 _ (fun _ => False)).keep hb8 (fun e => e)) (fun e => e); obtain ⟨⟨m0, m1, m2, m3, m4⟩, f0, f1, f2, f3, f4⟩ := five_cells hbN; have s4 : SL lb tk tt tn (.slice a1 n1 c1) (.slice a2 n2 c2) (set5 w9 b (.int .i64 10) (.string e0) (.int .i64 0) nl (.slice (some ⟨w8.heap.size, 0, none⟩) 2 2)) := SL.gr s3 (set5_gr w9 b _ _ _ _ _) (Ne.symm hnlb))
      | fail)
  all_goals
    go_wp2_with fail
    have hs8 := g8.size
    have hs8' : w4.heap.size ≤ w8.heap.size := hs8
    have L8 := Lr.lit2 ((rep4.g0 (Gr.drew w4 _)).gr g8 (fun k hk e => by omega)) (rep8.mono (base' := b + 1) (by show b + 1 ≤ w4.heap.size; omega)) (by omega)
    have Ga := Gr.alloc w8 (.cells #[.int .i64 tk, .string tt, .int .i64 tn, .slice a1 n1 c1, .slice a2 n2 c2, .int .i64 uk, .string ut, .int .i64 un', .slice a3 n3 c3, .slice a4 n4 c4] 30) (fun _ => False)
    have rep := (L8.g0 g9).tree 10 e0
    have hN := (h8.g0 Ga).g0 g9
    have gN : Gr (fun k => k = pb) W w9 := (((G4'.trans (Gr.drew _ _)).trans g8).trans (Ga.any _)).trans (g9.any _)
    obtain ⟨hf, r1, r2, r3⟩ := fin_tree hbN rep hN hbp gN hbb
    clear m0 m1 m2 m3 m4
    obtain ⟨⟨m0, m1, m2, m3, m4⟩, _⟩ := five_cells hf
    exact bodyPost_ret (v := trv 10 e0 0 nl (.slice (some ⟨w8.heap.size, 0, none⟩) 2 2)) (by simp [results, Tryz.results50, go_sem, m0, m1, m2, m3, m4]) rfl ⟨_, rfl, r1, r2, ⟨hi8.1.trans hd1, Nat.le_trans hi1 hi8.2⟩, r3⟩
set_option maxRecDepth 100000 in
set_option maxHeartbeats 1600000 in
theorem expr_no (d : Nat) (ex jn : Rule) (hj : RuleOk x 60 d jn) (h : Pz x W pb p) (hd : p.d = d) (q1 : isV x.ts (jn p).2 sEq = false) (q2 : isV x.ts (jn p).2 sBang = false) : Calls Tryz.prog 50 #[pt pb] W fun e w' => EndR x W pb p e w' (jn p) := by
  have hb := h.lt
  have h0 := h.g0 (Gr.alloc W (.cells zc 30) _)
  have hb0 := heap_alloc_new W (.cells zc 30)
  have g0 : Gr (fun _ => False) W (W.alloc (.cells zc 30)) := Gr.alloc _ _ _
  have hz0 : (W.alloc (.cells zc 30)).heap.size = W.heap.size + 1 := by simp
  go_enter Tryz.func50, Tryz.ntmps50
  go_wp2_with fail
  generalize W.alloc (.cells zc 30) = W0 at h0 hb0 g0 hz0 ⊢
  obtain ⟨b, hbb⟩ : ∃ b, W.heap.size = b := ⟨_, rfl⟩
  have hbp : pb < b := by omega
  rw [hbb] at hb0 hz0 ⊢
  refine (hj.2 W0 pb p h0 hd).mono ?_
  rintro e w1 ⟨v, rfl, rep1, h1, ⟨hd1, hi1⟩, g1⟩
  obtain ⟨tk, tt, tn, a1, n1, c1, a2, n2, c2, rfl⟩ := rep1.agg
  have hs1 := g1.size
  have hbl := h1.lt
  have G2 := Gr.alloc w1 (.cells #[.int .i64 tk, .string tt, .int .i64 tn, .slice a1 n1 c1, .slice a2 n2 c2] 30) (fun _ => False)
  have hl2 := heap_alloc_new w1 (.cells #[.int .i64 tk, .string tt, .int .i64 tn, .slice a1 n1 c1, .slice a2 n2 c2] 30)
  have hz2 : (w1.alloc (.cells #[.int .i64 tk, .string tt, .int .i64 tn, .slice a1 n1 c1, .slice a2 n2 c2] 30)).heap.size = w1.heap.size + 1 := by simp
  go_wp2_with fail
  generalize w1.alloc _ = w2 at G2 hl2 hz2 ⊢
  obtain ⟨lb, hlb⟩ : ∃ lb, w1.heap.size = lb := ⟨_, rfl⟩
  rw [hlb] at hl2 hz2 ⊢
  have hlbb : b < lb := by omega
  have h2 := h1.g0 G2
  have hb2 := G2.keep (g1.keep hb0 (by omega)) (fun e => e)
  have rep2 := (rep1.mono (base' := b + 1) (by omega)).g0 G2
  have G2' : Gr (fun k => k = pb) W w2 := ((g0.any _).trans g1).trans (G2.any _)
  refine (is_c h2 sEq).mono ?_
  rintro e w3 ⟨rfl, k3⟩
  rw [q1]
  have h3 := h2.g0 k3
  have hb3 := k3.keep hb2 (fun e => e)
  have hl3 := k3.keep hl2 (fun e => e)
  have rep3 := rep2.g0 k3
  have G3' := G2'.trans (k3.any _)
  have sz3 := k3.size
  go_wp2_with fail
  refine (is_c h3 sBang).mono ?_
  rintro e w4 ⟨rfl, k4⟩
  rw [q2]
  have h4 := h3.g0 k4
  have hb4 := k4.keep hb3 (fun e => e)
  have hl4 := k4.keep hl3 (fun e => e)
  have rep4 := rep3.g0 k4
  have G4' := G3'.trans (k4.any _)
  have sz4 := k4.size
  obtain ⟨⟨y0, y1, y2, y3, y4⟩, _⟩ := five_cells hl4
  obtain ⟨⟨m0, m1, m2, m3, m4⟩, f0, f1, f2, f3, f4⟩ := five_cells hb4
  have hbl4 := h4.lt
  go_wp2_with fail
  have rep := rep4
  obtain ⟨hf, r1, r2, r3⟩ := fin_tree hb4 rep h4 hbp G4' hbb
  clear m0 m1 m2 m3 m4 y0 y1 y2 y3 y4
  obtain ⟨⟨m0, m1, m2, m3, m4⟩, _⟩ := five_cells hf
  exact bodyPost_ret (v := trv tk tt tn (.slice a1 n1 c1) (.slice a2 n2 c2)) (by simp [results, Tryz.results50, go_sem, m0, m1, m2, m3, m4]) rfl ⟨_, rfl, r1, r2, ⟨hd1, hi1⟩, r3⟩
theorem expr_c (d : Nat) (ex jn : Rule) (hex : d < 40 → RuleOk x 50 (d + 1) ex) (hj : RuleOk x 60 d jn) : RuleOk x 50 d (exprV x.ts ex jn) := by
  refine ⟨ent_of Tryz.func50 (by kernel_rfl) rfl, fun W pb p h hd => ?_⟩
  rw [exprV]
  cases q1 : isV x.ts (jn p).2 sEq with
  | true => rw [if_pos rfl]; exact expr_eq d ex jn hex hj h hd q1
  | false =>
    rw [if_neg (by decide)]
    cases q2 : isV x.ts (jn p).2 sBang with
    | true => rw [if_pos rfl]; exact expr_bang d ex jn hex hj h hd q1 q2
    | false => rw [if_neg (by decide)]; exact expr_no d ex jn hj h hd q1 q2

/-- The rules of expressions and of what a - may stand ahead of, so many levels deep. -/
def exun (ts : List Tn) : Nat → Rule × Rule
  | 0 => (fun p => (tr0, failV 161 p), fun p => (tr0, failV 161 p))
  | m + 1 => (exprV ts (exun ts m).1 (joinedV ts (unaryV ts (exun ts m).1 (exun ts m).2)), unaryV ts (exun ts m).1 (exun ts m).2)
theorem rules_ok : ∀ (m d : Nat), m + d = 41 → 1 ≤ m → RuleOk x 50 d (exun x.ts m).1 ∧ RuleOk x 71 d (exun x.ts m).2
  | 0, d, _, h => absurd h (by decide)
  | m + 1, d, hm, _ => by
    have hsub : Sub x d (exun x.ts m).1 (exun x.ts m).2 := fun hd => rules_ok m (d + 1) (by omega) (by omega)
    have hu := unary_c d _ _ hsub
    refine ⟨expr_c d _ _ (fun h => (hsub h).1) ?_, hu⟩
    exact joined_c d _ (down0_c d _ (down1_c d _ (down2_c d _ (down3_c d _ hu))))
end Go.Proofs.YtggkjkkbkpnkiaaGreatDoor


