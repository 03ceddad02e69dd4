/-
  Carried over from another seat of ours (GE).
-/
import Derived.Test.YtggkjkkbkpnkiaaGreatDoorGD
set_option linter.unusedVariables false
set_option linter.unusedSimpArgs false
namespace Go.Proofs.YtggkjkkbkpnkiaaGreatDoor
open Go.RowKit Go.Maps
variable {x : Kx} {W W' : World} {pb : Nat} {p p' : Ps}

def clauseV (ts : List Tn) (ex un : Rule) (p : Ps) : Tr × Ps := (.mk 15 e0 0 [] [(un p).1, (arrowV ts ex (un p).2).1], (arrowV ts ex (un p).2).2)
set_option maxRecDepth 100000 in
set_option maxHeartbeats 1600000 in
theorem clause_c (d : Nat) (ex un : Rule) (hx : RuleOk x 50 d ex) (hu : RuleOk x 71 d un) : RuleOk x 107 d (clauseV x.ts ex un) := by
  refine ⟨ent_of Tryz.func107 (by kernel_rfl) rfl, fun W pb p h hd => ?_⟩
  have ha := arrow_c d ex hx
  have hb := h.lt
  have h0 := h.g0 (Gr.alloc W (.cells zc 30) _)
  have hb0 := heap_alloc_new W (.cells zc 30)
  have g0 : Gr (fun _ => False) W (W.alloc (.cells zc 30)) := Gr.alloc _ _ _
  have hz0 : (W.alloc (.cells zc 30)).heap.size = W.heap.size + 1 := by simp
  go_enter Tryz.func107, Tryz.ntmps107
  go_wp2_with fail
  generalize W.alloc (.cells zc 30) = W0 at h0 hb0 g0 hz0 ⊢
  obtain ⟨b, hbb⟩ : ∃ b, W.heap.size = b := ⟨_, rfl⟩
  have hbp : pb < b := by omega
  rw [hbb] at hb0 hz0 ⊢
  refine (hu.2 W0 pb p h0 hd).mono ?_
  rintro e w1 ⟨v, rfl, rep1, h1, ⟨hd1, hi1⟩, g1⟩
  obtain ⟨tk, tt, tn, a1, n1, c1, a2, n2, c2, rfl⟩ := rep1.agg
  go_wp2_with fail
  refine (ha.2 w1 pb _ h1 (hd1.trans hd)).mono ?_
  rintro e w2 ⟨v, rfl, rep2, h2, ⟨hd2, hi2⟩, g2⟩
  obtain ⟨uk, ut, un', a3, n3, c3, a4, n4, c4, rfl⟩ := rep2.agg
  have hs1 := g1.size
  have hs2 := g2.size
  have hbl := h2.lt
  have L3 := Lr.lit2 ((rep1.mono (base' := b + 1) (by omega)).gr g2 (fun k hk e => by omega)) (rep2.mono (base' := b + 1) (by omega)) (by omega)
  have G3 : Gr (fun _ => False) w2 (w2.alloc (.cells #[.int .i64 tk, .string tt, .int .i64 tn, .slice a1 n1 c1, .slice a2 n2 c2, .int .i64 uk, .string ut, .int .i64 un', .slice a3 n3 c3, .slice a4 n4 c4] 30)) := Gr.alloc _ _ _
  go_wp2_with fail
  generalize w2.alloc _ = w3 at L3 G3 ⊢
  refine (node_c w3 15 e0 _ 2 2).mono ?_
  rintro e w4 ⟨rfl, g4⟩
  have hbN := g4.keep (G3.keep (g2.keep (g1.keep hb0 (by omega)) (by omega)) (fun e => e)) (fun e => e)
  obtain ⟨⟨m0, m1, m2, m3, m4⟩, f0, f1, f2, f3, f4⟩ := five_cells hbN
  go_wp2_with fail
  have gN : Gr (fun k => k = pb) W w4 := ((((g0.any _).trans g1).trans g2).trans (G3.any _)).trans (g4.any _)
  have rep := (L3.g0 g4).tree 15 e0
  have hN := (h2.g0 G3).g0 g4
  obtain ⟨hf, r1, r2, r3⟩ := fin_tree hbN rep hN hbp gN hbb
  clear m0 m1 m2 m3 m4
  obtain ⟨⟨m0, m1, m2, m3, m4⟩, _⟩ := five_cells hf
  exact bodyPost_ret (v := trv 15 e0 0 nl (.slice (some ⟨w2.heap.size, 0, none⟩) 2 2)) (by simp [results, Tryz.results107, go_sem, m0, m1, m2, m3, m4]) rfl ⟨_, rfl, r1, r2, ⟨hd2.trans hd1, Nat.le_trans hi1 hi2⟩, r3⟩

abbrev shutR : ByteArray := ⟨#[41]⟩
def bracketV (ts : List Tn) (ex : Rule) (p : Ps) : Tr × Ps := ((ex p).1, wantV ts shutR (ex p).2)
set_option maxRecDepth 100000 in
set_option maxHeartbeats 1600000 in
theorem bracket_c (d : Nat) (ex : Rule) (hx : RuleOk x 50 d ex) : RuleOk x 95 d (bracketV x.ts ex) := by
  refine ⟨ent_of Tryz.func95 (by kernel_rfl) rfl, fun W pb p h hd => ?_⟩
  have hq := wantV_ge x.ts shutR (ex p).2
  have hb := h.lt
  have h0 := h.g0 (Gr.alloc W (.cells zc 30) _)
  have hb0 := heap_alloc_new W (.cells zc 30)
  have g0 : Gr (fun _ => False) W (W.alloc (.cells zc 30)) := Gr.alloc _ _ _
  have hz0 : (W.alloc (.cells zc 30)).heap.size = W.heap.size + 1 := by simp
  go_enter Tryz.func95, Tryz.ntmps95
  go_wp2_with fail
  generalize W.alloc (.cells zc 30) = W0 at h0 hb0 g0 hz0 ⊢
  obtain ⟨b, hbb⟩ : ∃ b, W.heap.size = b := ⟨_, rfl⟩
  have hbp : pb < b := by omega
  rw [hbb] at hb0 hz0 ⊢
  refine (hx.2 W0 pb p h0 hd).mono ?_
  rintro e w1 ⟨v, rfl, rep1, h1, ⟨hd1, hi1⟩, g1⟩
  obtain ⟨tk, tt, tn, a1, n1, c1, a2, n2, c2, rfl⟩ := rep1.agg
  have hs1 := g1.size
  have G2 : Gr (fun _ => False) w1 (w1.alloc (.cells #[.int .i64 tk, .string tt, .int .i64 tn, .slice a1 n1 c1, .slice a2 n2 c2] 30)) := Gr.alloc _ _ _
  have hl2 := heap_alloc_new w1 (.cells #[.int .i64 tk, .string tt, .int .i64 tn, .slice a1 n1 c1, .slice a2 n2 c2] 30)
  have hbl := h1.lt
  go_wp2_with fail
  generalize w1.alloc _ = w2 at G2 hl2 ⊢
  refine (want_c (h1.g0 G2) shutR).mono ?_
  rintro e w3 ⟨rfl, h3, g3⟩
  have hl3 := g3.keep hl2 (by omega)
  obtain ⟨⟨q0, q1, q2, q3, q4⟩, _⟩ := five_cells hl3
  have hbN := g3.keep (G2.keep (g1.keep hb0 (by omega)) (fun e => e)) (by omega)
  obtain ⟨⟨m0, m1, m2, m3, m4⟩, f0, f1, f2, f3, f4⟩ := five_cells hbN
  go_wp2_with fail
  have gN : Gr (fun k => k = pb) W w3 := (((g0.any _).trans g1).trans (G2.any _)).trans g3
  have rep := ((rep1.mono (base' := b + 1) (by omega)).g0 G2).gr g3 (fun k hk e => by omega)
  have hN := h3
  obtain ⟨hf, r1, r2, r3⟩ := fin_tree hbN rep hN hbp gN hbb
  clear m0 m1 m2 m3 m4
  obtain ⟨⟨m0, m1, m2, m3, m4⟩, _⟩ := five_cells hf
  exact bodyPost_ret (v := trv tk tt tn (.slice a1 n1 c1) (.slice a2 n2 c2)) (by simp [results, Tryz.results95, go_sem, m0, m1, m2, m3, m4]) rfl ⟨_, rfl, r1, r2, ⟨hq.2.trans hd1, Nat.le_trans hi1 hq.1⟩, r3⟩

abbrev shut5 : ByteArray := ⟨#[125]⟩
def tupleV (ts : List Tn) (ex : Rule) (p : Ps) : Tr × Ps := (.mk 5 e0 0 [] (uptoV ts shut5 ex p).1, (uptoV ts shut5 ex p).2)
set_option maxRecDepth 100000 in
set_option maxHeartbeats 1600000 in
theorem gtuple_c (d : Nat) (ex : Rule) (hx : RuleOk x 50 d ex) : RuleOk x 96 d (tupleV x.ts ex) := by
  refine ⟨ent_of Tryz.func96 (by kernel_rfl) rfl, fun W pb p h hd => ?_⟩
  have hb := h.lt
  have h0 := h.g0 (Gr.alloc W (.cells zc 30) _)
  have hb0 := heap_alloc_new W (.cells zc 30)
  have g0 : Gr (fun _ => False) W (W.alloc (.cells zc 30)) := Gr.alloc _ _ _
  have hz0 : (W.alloc (.cells zc 30)).heap.size = W.heap.size + 1 := by simp
  go_enter Tryz.func96, Tryz.ntmps96
  go_wp2_with fail
  generalize W.alloc (.cells zc 30) = W0 at h0 hb0 g0 hz0 ⊢
  obtain ⟨b, hbb⟩ : ∃ b, W.heap.size = b := ⟨_, rfl⟩
  have hbp : pb < b := by omega
  rw [hbb] at hb0 hz0 ⊢
  refine (upTo_c 50 d ex hx shut5 h0 hd).mono ?_
  rintro e w1 ⟨v, rfl, L1, h1, hi1, g1⟩
  obtain ⟨sa, sc, rfl⟩ := L1.sv
  have hbl := h1.lt
  go_wp2_with fail
  refine (node_c w1 5 e0 sa _ sc).mono ?_
  rintro e w2 ⟨rfl, g2⟩
  have hbN := g2.keep (g1.keep hb0 (by omega)) (fun e => e)
  obtain ⟨⟨m0, m1, m2, m3, m4⟩, f0, f1, f2, f3, f4⟩ := five_cells hbN
  go_wp2_with fail
  have gN : Gr (fun k => k = pb) W w2 := ((g0.any _).trans g1).trans (g2.any _)
  have rep := ((L1.mono (base' := b + 1) (by omega)).g0 g2).tree 5 e0
  have hN := h1.g0 g2
  obtain ⟨hf, r1, r2, r3⟩ := fin_tree hbN rep hN hbp gN hbb
  clear m0 m1 m2 m3 m4
  obtain ⟨⟨m0, m1, m2, m3, m4⟩, _⟩ := five_cells hf
  exact bodyPost_ret (v := trv 5 e0 0 nl (.slice sa _ sc)) (by simp [results, Tryz.results96, go_sem, m0, m1, m2, m3, m4]) rfl ⟨_, rfl, r1, r2, ⟨hi1.1, hi1.2.1⟩, r3⟩

abbrev shut6 : ByteArray := ⟨#[93]⟩
def listV (ts : List Tn) (ex : Rule) (p : Ps) : Tr × Ps := (.mk 6 e0 0 [] (uptoV ts shut6 ex p).1, (uptoV ts shut6 ex p).2)
set_option maxRecDepth 100000 in
set_option maxHeartbeats 1600000 in
theorem glist_c (d : Nat) (ex : Rule) (hx : RuleOk x 50 d ex) : RuleOk x 97 d (listV x.ts ex) := by
  refine ⟨ent_of Tryz.func97 (by kernel_rfl) rfl, fun W pb p h hd => ?_⟩
  have hb := h.lt
  have h0 := h.g0 (Gr.alloc W (.cells zc 30) _)
  have hb0 := heap_alloc_new W (.cells zc 30)
  have g0 : Gr (fun _ => False) W (W.alloc (.cells zc 30)) := Gr.alloc _ _ _
  have hz0 : (W.alloc (.cells zc 30)).heap.size = W.heap.size + 1 := by simp
  go_enter Tryz.func97, Tryz.ntmps97
  go_wp2_with fail
  generalize W.alloc (.cells zc 30) = W0 at h0 hb0 g0 hz0 ⊢
  obtain ⟨b, hbb⟩ : ∃ b, W.heap.size = b := ⟨_, rfl⟩
  have hbp : pb < b := by omega
  rw [hbb] at hb0 hz0 ⊢
  refine (upTo_c 50 d ex hx shut6 h0 hd).mono ?_
  rintro e w1 ⟨v, rfl, L1, h1, hi1, g1⟩
  obtain ⟨sa, sc, rfl⟩ := L1.sv
  have hbl := h1.lt
  go_wp2_with fail
  refine (node_c w1 6 e0 sa _ sc).mono ?_
  rintro e w2 ⟨rfl, g2⟩
  have hbN := g2.keep (g1.keep hb0 (by omega)) (fun e => e)
  obtain ⟨⟨m0, m1, m2, m3, m4⟩, f0, f1, f2, f3, f4⟩ := five_cells hbN
  go_wp2_with fail
  have gN : Gr (fun k => k = pb) W w2 := ((g0.any _).trans g1).trans (g2.any _)
  have rep := ((L1.mono (base' := b + 1) (by omega)).g0 g2).tree 6 e0
  have hN := h1.g0 g2
  obtain ⟨hf, r1, r2, r3⟩ := fin_tree hbN rep hN hbp gN hbb
  clear m0 m1 m2 m3 m4
  obtain ⟨⟨m0, m1, m2, m3, m4⟩, _⟩ := five_cells hf
  exact bodyPost_ret (v := trv 6 e0 0 nl (.slice sa _ sc)) (by simp [results, Tryz.results97, go_sem, m0, m1, m2, m3, m4]) rfl ⟨_, rfl, r1, r2, ⟨hi1.1, hi1.2.1⟩, r3⟩
end Go.Proofs.YtggkjkkbkpnkiaaGreatDoor


