/-
  Carried over from another seat of ours (GH).
-/
import Derived.Test.YtggkjkkbkpnkiaaGreatDoorGG
set_option linter.unusedVariables false
set_option linter.unusedSimpArgs false
namespace Go.Proofs.YtggkjkkbkpnkiaaGreatDoor
open Go.RowKit Go.Maps
variable {x : Kx} {W W' : World} {pb : Nat} {p p' : Ps}

abbrev opn5 : ByteArray := ⟨#[123]⟩
abbrev opn6 : ByteArray := ⟨#[91]⟩
abbrev wCase : ByteArray := ⟨#[99, 97, 115, 101]⟩
abbrev wRecv : ByteArray := ⟨#[114, 101, 99, 101, 105, 118, 101]⟩
def nestV (ts : List Tn) (ex un : Rule) (p : Ps) : Tr × Ps :=
  if isV ts p opn = true then deeperV (bracketV ts ex) p
  else if isV ts p opn5 = true then deeperV (tupleV ts ex) p
  else if isV ts p opn6 = true then deeperV (listV ts ex) p
  else if isV ts p wCase = true then deeperV (choiceV ts ex un) p
  else if isV ts p wRecv = true then deeperV (recvV ts ex un) p
  else (tr0, failV 160 p)
set_option maxRecDepth 100000 in
set_option maxHeartbeats 1600000 in
theorem nest_0 (d : Nat) (ex un : Rule) (hsub : Sub x d ex un) (h : Pz x W pb p) (hd : p.d = d) (q0 : isV x.ts p opn = true) :
    Calls Tryz.prog 89 #[pt pb] W fun e w' => EndR x W pb p e w' (deeperV (bracketV x.ts ex) p) := by
  obtain ⟨hlc, he, hl⟩ := isV_lt q0
  have hb := h.lt
  have h0 := h.g0 (Gr.alloc W (.cells zc 30) _)
  have hb0 := heap_alloc_new W (.cells zc 30)
  have g0 : Gr (fun _ => False) W (W.alloc (.cells zc 30)) := Gr.alloc _ _ _
  have hz0 : (W.alloc (.cells zc 30)).heap.size = W.heap.size + 1 := by simp
  go_enter Tryz.func89, Tryz.ntmps89
  go_wp2_with fail
  generalize W.alloc (.cells zc 30) = W0 at h0 hb0 g0 hz0 ⊢
  obtain ⟨b, hbb⟩ : ∃ b, W.heap.size = b := ⟨_, rfl⟩
  have hbp : pb < b := by omega
  rw [hbb] at hb0 hz0 ⊢
  have hX0 := h0
  have hbbX0 := hb0
  have GX0 : Gr (fun k => k = pb) W W0 := g0.any _
  have szX0 : b + 1 ≤ W0.heap.size := by omega
  refine (is_c hX0 opn).mono ?_
  rintro e y0 ⟨rfl, k0⟩
  rw [q0]
  have hX1 := hX0.g0 k0
  have hbbX1 := k0.keep hbbX0 (fun e => e)
  have GX1 := GX0.trans (k0.any _)
  have szX1 := Nat.le_trans szX0 k0.size
  go_wp2_with fail
  have hdp := deeper_c (pb := pb) (p := p) 95 (bracketV x.ts ex) (ent_of Tryz.func95 (by kernel_rfl) rfl) hX1 he hl (fun W' hP hG => by
    have hd2 : p.d + 1 ≤ 40 := hP.hd
    exact (bracket_c (d + 1) ex (hsub (by omega)).1).2 W' pb p.deep hP (by show p.d + 1 = d + 1; omega))
  refine hdp.mono ?_
  rintro e w4 ⟨v, rfl, rep4, h4, ⟨hd4, hi4⟩, g4⟩
  obtain ⟨tk, tt, tn, a1, n1, c1, a2, n2, c2, rfl⟩ := rep4.agg
  have hbN := g4.keep hbbX1 (by omega)
  obtain ⟨⟨m0, m1, m2, m3, m4⟩, f0, f1, f2, f3, f4⟩ := five_cells hbN
  have hbl := h4.lt
  go_wp2_with fail
  have gN : Gr (fun k => k = pb) W w4 := GX1.trans g4
  have rep := rep4.mono (base' := b + 1) szX1
  have hN := h4
  obtain ⟨hf, r1, r2, r3⟩ := fin_tree hbN rep hN hbp gN hbb
  clear m0 m1 m2 m3 m4
  obtain ⟨⟨m0, m1, m2, m3, m4⟩, _⟩ := five_cells hf
  exact bodyPost_ret (v := trv tk tt tn (.slice a1 n1 c1) (.slice a2 n2 c2)) (by simp [results, Tryz.results89, go_sem, m0, m1, m2, m3, m4]) rfl ⟨_, rfl, r1, r2, ⟨hd4, hi4⟩, r3⟩
set_option maxRecDepth 100000 in
set_option maxHeartbeats 1600000 in
theorem nest_1 (d : Nat) (ex un : Rule) (hsub : Sub x d ex un) (h : Pz x W pb p) (hd : p.d = d) (q0 : isV x.ts p opn = false) (q1 : isV x.ts p opn5 = true) :
    Calls Tryz.prog 89 #[pt pb] W fun e w' => EndR x W pb p e w' (deeperV (tupleV x.ts ex) p) := by
  obtain ⟨hlc, he, hl⟩ := isV_lt q1
  have hb := h.lt
  have h0 := h.g0 (Gr.alloc W (.cells zc 30) _)
  have hb0 := heap_alloc_new W (.cells zc 30)
  have g0 : Gr (fun _ => False) W (W.alloc (.cells zc 30)) := Gr.alloc _ _ _
  have hz0 : (W.alloc (.cells zc 30)).heap.size = W.heap.size + 1 := by simp
  go_enter Tryz.func89, Tryz.ntmps89
  go_wp2_with fail
  generalize W.alloc (.cells zc 30) = W0 at h0 hb0 g0 hz0 ⊢
  obtain ⟨b, hbb⟩ : ∃ b, W.heap.size = b := ⟨_, rfl⟩
  have hbp : pb < b := by omega
  rw [hbb] at hb0 hz0 ⊢
  have hX0 := h0
  have hbbX0 := hb0
  have GX0 : Gr (fun k => k = pb) W W0 := g0.any _
  have szX0 : b + 1 ≤ W0.heap.size := by omega
  refine (is_c hX0 opn).mono ?_
  rintro e y0 ⟨rfl, k0⟩
  rw [q0]
  have hX1 := hX0.g0 k0
  have hbbX1 := k0.keep hbbX0 (fun e => e)
  have GX1 := GX0.trans (k0.any _)
  have szX1 := Nat.le_trans szX0 k0.size
  go_wp2_with fail
  refine (is_c hX1 opn5).mono ?_
  rintro e y1 ⟨rfl, k1⟩
  rw [q1]
  have hX2 := hX1.g0 k1
  have hbbX2 := k1.keep hbbX1 (fun e => e)
  have GX2 := GX1.trans (k1.any _)
  have szX2 := Nat.le_trans szX1 k1.size
  go_wp2_with fail
  have hdp := deeper_c (pb := pb) (p := p) 96 (tupleV x.ts ex) (ent_of Tryz.func96 (by kernel_rfl) rfl) hX2 he hl (fun W' hP hG => by
    have hd2 : p.d + 1 ≤ 40 := hP.hd
    exact (gtuple_c (d + 1) ex (hsub (by omega)).1).2 W' pb p.deep hP (by show p.d + 1 = d + 1; omega))
  refine hdp.mono ?_
  rintro e w4 ⟨v, rfl, rep4, h4, ⟨hd4, hi4⟩, g4⟩
  obtain ⟨tk, tt, tn, a1, n1, c1, a2, n2, c2, rfl⟩ := rep4.agg
  have hbN := g4.keep hbbX2 (by omega)
  obtain ⟨⟨m0, m1, m2, m3, m4⟩, f0, f1, f2, f3, f4⟩ := five_cells hbN
  have hbl := h4.lt
  go_wp2_with fail
  have gN : Gr (fun k => k = pb) W w4 := GX2.trans g4
  have rep := rep4.mono (base' := b + 1) szX2
  have hN := h4
  obtain ⟨hf, r1, r2, r3⟩ := fin_tree hbN rep hN hbp gN hbb
  clear m0 m1 m2 m3 m4
  obtain ⟨⟨m0, m1, m2, m3, m4⟩, _⟩ := five_cells hf
  exact bodyPost_ret (v := trv tk tt tn (.slice a1 n1 c1) (.slice a2 n2 c2)) (by simp [results, Tryz.results89, go_sem, m0, m1, m2, m3, m4]) rfl ⟨_, rfl, r1, r2, ⟨hd4, hi4⟩, r3⟩
set_option maxRecDepth 100000 in
set_option maxHeartbeats 1600000 in
theorem nest_2 (d : Nat) (ex un : Rule) (hsub : Sub x d ex un) (h : Pz x W pb p) (hd : p.d = d) (q0 : isV x.ts p opn = false) (q1 : isV x.ts p opn5 = false) (q2 : isV x.ts p opn6 = true) :
    Calls Tryz.prog 89 #[pt pb] W fun e w' => EndR x W pb p e w' (deeperV (listV x.ts ex) p) := by
  obtain ⟨hlc, he, hl⟩ := isV_lt q2
  have hb := h.lt
  have h0 := h.g0 (Gr.alloc W (.cells zc 30) _)
  have hb0 := heap_alloc_new W (.cells zc 30)
  have g0 : Gr (fun _ => False) W (W.alloc (.cells zc 30)) := Gr.alloc _ _ _
  have hz0 : (W.alloc (.cells zc 30)).heap.size = W.heap.size + 1 := by simp
  go_enter Tryz.func89, Tryz.ntmps89
  go_wp2_with fail
  generalize W.alloc (.cells zc 30) = W0 at h0 hb0 g0 hz0 ⊢
  obtain ⟨b, hbb⟩ : ∃ b, W.heap.size = b := ⟨_, rfl⟩
  have hbp : pb < b := by omega
  rw [hbb] at hb0 hz0 ⊢
  have hX0 := h0
  have hbbX0 := hb0
  have GX0 : Gr (fun k => k = pb) W W0 := g0.any _
  have szX0 : b + 1 ≤ W0.heap.size := by omega
  refine (is_c hX0 opn).mono ?_
  rintro e y0 ⟨rfl, k0⟩
  rw [q0]
  have hX1 := hX0.g0 k0
  have hbbX1 := k0.keep hbbX0 (fun e => e)
  have GX1 := GX0.trans (k0.any _)
  have szX1 := Nat.le_trans szX0 k0.size
  go_wp2_with fail
  refine (is_c hX1 opn5).mono ?_
  rintro e y1 ⟨rfl, k1⟩
  rw [q1]
  have hX2 := hX1.g0 k1
  have hbbX2 := k1.keep hbbX1 (fun e => e)
  have GX2 := GX1.trans (k1.any _)
  have szX2 := Nat.le_trans szX1 k1.size
  go_wp2_with fail
  refine (is_c hX2 opn6).mono ?_
  rintro e y2 ⟨rfl, k2⟩
  rw [q2]
  have hX3 := hX2.g0 k2
  have hbbX3 := k2.keep hbbX2 (fun e => e)
  have GX3 := GX2.trans (k2.any _)
  have szX3 := Nat.le_trans szX2 k2.size
  go_wp2_with fail
  have hdp := deeper_c (pb := pb) (p := p) 97 (listV x.ts ex) (ent_of Tryz.func97 (by kernel_rfl) rfl) hX3 he hl (fun W' hP hG => by
    have hd2 : p.d + 1 ≤ 40 := hP.hd
    exact (glist_c (d + 1) ex (hsub (by omega)).1).2 W' pb p.deep hP (by show p.d + 1 = d + 1; omega))
  refine hdp.mono ?_
  rintro e w4 ⟨v, rfl, rep4, h4, ⟨hd4, hi4⟩, g4⟩
  obtain ⟨tk, tt, tn, a1, n1, c1, a2, n2, c2, rfl⟩ := rep4.agg
  have hbN := g4.keep hbbX3 (by omega)
  obtain ⟨⟨m0, m1, m2, m3, m4⟩, f0, f1, f2, f3, f4⟩ := five_cells hbN
  have hbl := h4.lt
  go_wp2_with fail
  have gN : Gr (fun k => k = pb) W w4 := GX3.trans g4
  have rep := rep4.mono (base' := b + 1) szX3
  have hN := h4
  obtain ⟨hf, r1, r2, r3⟩ := fin_tree hbN rep hN hbp gN hbb
  clear m0 m1 m2 m3 m4
  obtain ⟨⟨m0, m1, m2, m3, m4⟩, _⟩ := five_cells hf
  exact bodyPost_ret (v := trv tk tt tn (.slice a1 n1 c1) (.slice a2 n2 c2)) (by simp [results, Tryz.results89, go_sem, m0, m1, m2, m3, m4]) rfl ⟨_, rfl, r1, r2, ⟨hd4, hi4⟩, r3⟩
set_option maxRecDepth 100000 in
set_option maxHeartbeats 1600000 in
theorem nest_3 (d : Nat) (ex un : Rule) (hsub : Sub x d ex un) (h : Pz x W pb p) (hd : p.d = d) (q0 : isV x.ts p opn = false) (q1 : isV x.ts p opn5 = false) (q2 : isV x.ts p opn6 = false) (q3 : isV x.ts p wCase = true) :
    Calls Tryz.prog 89 #[pt pb] W fun e w' => EndR x W pb p e w' (deeperV (choiceV x.ts ex un) p) := by
  obtain ⟨hlc, he, hl⟩ := isV_lt q3
  have hb := h.lt
  have h0 := h.g0 (Gr.alloc W (.cells zc 30) _)
  have hb0 := heap_alloc_new W (.cells zc 30)
  have g0 : Gr (fun _ => False) W (W.alloc (.cells zc 30)) := Gr.alloc _ _ _
  have hz0 : (W.alloc (.cells zc 30)).heap.size = W.heap.size + 1 := by simp
  go_enter Tryz.func89, Tryz.ntmps89
  go_wp2_with fail
  generalize W.alloc (.cells zc 30) = W0 at h0 hb0 g0 hz0 ⊢
  obtain ⟨b, hbb⟩ : ∃ b, W.heap.size = b := ⟨_, rfl⟩
  have hbp : pb < b := by omega
  rw [hbb] at hb0 hz0 ⊢
  have hX0 := h0
  have hbbX0 := hb0
  have GX0 : Gr (fun k => k = pb) W W0 := g0.any _
  have szX0 : b + 1 ≤ W0.heap.size := by omega
  refine (is_c hX0 opn).mono ?_
  rintro e y0 ⟨rfl, k0⟩
  rw [q0]
  have hX1 := hX0.g0 k0
  have hbbX1 := k0.keep hbbX0 (fun e => e)
  have GX1 := GX0.trans (k0.any _)
  have szX1 := Nat.le_trans szX0 k0.size
  go_wp2_with fail
  refine (is_c hX1 opn5).mono ?_
  rintro e y1 ⟨rfl, k1⟩
  rw [q1]
  have hX2 := hX1.g0 k1
  have hbbX2 := k1.keep hbbX1 (fun e => e)
  have GX2 := GX1.trans (k1.any _)
  have szX2 := Nat.le_trans szX1 k1.size
  go_wp2_with fail
  refine (is_c hX2 opn6).mono ?_
  rintro e y2 ⟨rfl, k2⟩
  rw [q2]
  have hX3 := hX2.g0 k2
  have hbbX3 := k2.keep hbbX2 (fun e => e)
  have GX3 := GX2.trans (k2.any _)
  have szX3 := Nat.le_trans szX2 k2.size
  go_wp2_with fail
  refine (is_c hX3 wCase).mono ?_
  rintro e y3 ⟨rfl, k3⟩
  rw [q3]
  have hX4 := hX3.g0 k3
  have hbbX4 := k3.keep hbbX3 (fun e => e)
  have GX4 := GX3.trans (k3.any _)
  have szX4 := Nat.le_trans szX3 k3.size
  go_wp2_with fail
  have hdp := deeper_c (pb := pb) (p := p) 98 (choiceV x.ts ex un) (ent_of Tryz.func98 (by kernel_rfl) rfl) hX4 he hl (fun W' hP hG => by
    have hd2 : p.d + 1 ≤ 40 := hP.hd
    exact (choice_c (d + 1) ex un (hsub (by omega)).1 (hsub (by omega)).2).2 W' pb p.deep hP (by show p.d + 1 = d + 1; omega))
  refine hdp.mono ?_
  rintro e w4 ⟨v, rfl, rep4, h4, ⟨hd4, hi4⟩, g4⟩
  obtain ⟨tk, tt, tn, a1, n1, c1, a2, n2, c2, rfl⟩ := rep4.agg
  have hbN := g4.keep hbbX4 (by omega)
  obtain ⟨⟨m0, m1, m2, m3, m4⟩, f0, f1, f2, f3, f4⟩ := five_cells hbN
  have hbl := h4.lt
  go_wp2_with fail
  have gN : Gr (fun k => k = pb) W w4 := GX4.trans g4
  have rep := rep4.mono (base' := b + 1) szX4
  have hN := h4
  obtain ⟨hf, r1, r2, r3⟩ := fin_tree hbN rep hN hbp gN hbb
  clear m0 m1 m2 m3 m4
  obtain ⟨⟨m0, m1, m2, m3, m4⟩, _⟩ := five_cells hf
  exact bodyPost_ret (v := trv tk tt tn (.slice a1 n1 c1) (.slice a2 n2 c2)) (by simp [results, Tryz.results89, go_sem, m0, m1, m2, m3, m4]) rfl ⟨_, rfl, r1, r2, ⟨hd4, hi4⟩, r3⟩
set_option maxRecDepth 100000 in
set_option maxHeartbeats 1600000 in
theorem nest_4 (d : Nat) (ex un : Rule) (hsub : Sub x d ex un) (h : Pz x W pb p) (hd : p.d = d) (q0 : isV x.ts p opn = false) (q1 : isV x.ts p opn5 = false) (q2 : isV x.ts p opn6 = false) (q3 : isV x.ts p wCase = false) (q4 : isV x.ts p wRecv = true) :
    Calls Tryz.prog 89 #[pt pb] W fun e w' => EndR x W pb p e w' (deeperV (recvV x.ts ex un) p) := by
  obtain ⟨hlc, he, hl⟩ := isV_lt q4
  have hb := h.lt
  have h0 := h.g0 (Gr.alloc W (.cells zc 30) _)
  have hb0 := heap_alloc_new W (.cells zc 30)
  have g0 : Gr (fun _ => False) W (W.alloc (.cells zc 30)) := Gr.alloc _ _ _
  have hz0 : (W.alloc (.cells zc 30)).heap.size = W.heap.size + 1 := by simp
  go_enter Tryz.func89, Tryz.ntmps89
  go_wp2_with fail
  generalize W.alloc (.cells zc 30) = W0 at h0 hb0 g0 hz0 ⊢
  obtain ⟨b, hbb⟩ : ∃ b, W.heap.size = b := ⟨_, rfl⟩
  have hbp : pb < b := by omega
  rw [hbb] at hb0 hz0 ⊢
  have hX0 := h0
  have hbbX0 := hb0
  have GX0 : Gr (fun k => k = pb) W W0 := g0.any _
  have szX0 : b + 1 ≤ W0.heap.size := by omega
  refine (is_c hX0 opn).mono ?_
  rintro e y0 ⟨rfl, k0⟩
  rw [q0]
  have hX1 := hX0.g0 k0
  have hbbX1 := k0.keep hbbX0 (fun e => e)
  have GX1 := GX0.trans (k0.any _)
  have szX1 := Nat.le_trans szX0 k0.size
  go_wp2_with fail
  refine (is_c hX1 opn5).mono ?_
  rintro e y1 ⟨rfl, k1⟩
  rw [q1]
  have hX2 := hX1.g0 k1
  have hbbX2 := k1.keep hbbX1 (fun e => e)
  have GX2 := GX1.trans (k1.any _)
  have szX2 := Nat.le_trans szX1 k1.size
  go_wp2_with fail
  refine (is_c hX2 opn6).mono ?_
  rintro e y2 ⟨rfl, k2⟩
  rw [q2]
  have hX3 := hX2.g0 k2
  have hbbX3 := k2.keep hbbX2 (fun e => e)
  have GX3 := GX2.trans (k2.any _)
  have szX3 := Nat.le_trans szX2 k2.size
  go_wp2_with fail
  refine (is_c hX3 wCase).mono ?_
  rintro e y3 ⟨rfl, k3⟩
  rw [q3]
  have hX4 := hX3.g0 k3
  have hbbX4 := k3.keep hbbX3 (fun e => e)
  have GX4 := GX3.trans (k3.any _)
  have szX4 := Nat.le_trans szX3 k3.size
  go_wp2_with fail
  refine (is_c hX4 wRecv).mono ?_
  rintro e y4 ⟨rfl, k4⟩
  rw [q4]
  have hX5 := hX4.g0 k4
  have hbbX5 := k4.keep hbbX4 (fun e => e)
  have GX5 := GX4.trans (k4.any _)
  have szX5 := Nat.le_trans szX4 k4.size
  go_wp2_with fail
  have hdp := deeper_c (pb := pb) (p := p) 99 (recvV x.ts ex un) (ent_of Tryz.func99 (by kernel_rfl) rfl) hX5 he hl (fun W' hP hG => by
    have hd2 : p.d + 1 ≤ 40 := hP.hd
    exact (receive_c (d + 1) ex un (hsub (by omega)).1 (hsub (by omega)).2).2 W' pb p.deep hP (by show p.d + 1 = d + 1; omega))
  refine hdp.mono ?_
  rintro e w4 ⟨v, rfl, rep4, h4, ⟨hd4, hi4⟩, g4⟩
  obtain ⟨tk, tt, tn, a1, n1, c1, a2, n2, c2, rfl⟩ := rep4.agg
  have hbN := g4.keep hbbX5 (by omega)
  obtain ⟨⟨m0, m1, m2, m3, m4⟩, f0, f1, f2, f3, f4⟩ := five_cells hbN
  have hbl := h4.lt
  go_wp2_with fail
  have gN : Gr (fun k => k = pb) W w4 := GX5.trans g4
  have rep := rep4.mono (base' := b + 1) szX5
  have hN := h4
  obtain ⟨hf, r1, r2, r3⟩ := fin_tree hbN rep hN hbp gN hbb
  clear m0 m1 m2 m3 m4
  obtain ⟨⟨m0, m1, m2, m3, m4⟩, _⟩ := five_cells hf
  exact bodyPost_ret (v := trv tk tt tn (.slice a1 n1 c1) (.slice a2 n2 c2)) (by simp [results, Tryz.results89, go_sem, m0, m1, m2, m3, m4]) rfl ⟨_, rfl, r1, r2, ⟨hd4, hi4⟩, r3⟩
set_option maxRecDepth 100000 in
set_option maxHeartbeats 1600000 in
theorem nest_5 (d : Nat) (ex un : Rule) (hsub : Sub x d ex un) (h : Pz x W pb p) (hd : p.d = d) (q0 : isV x.ts p opn = false) (q1 : isV x.ts p opn5 = false) (q2 : isV x.ts p opn6 = false) (q3 : isV x.ts p wCase = false) (q4 : isV x.ts p wRecv = false) :
    Calls Tryz.prog 89 #[pt pb] W fun e w' => EndR x W pb p e w' ((tr0, failV 160 p)) := by
  have hq := failV_same 160 p
  have hb := h.lt
  have h0 := h.g0 (Gr.alloc W (.cells zc 30) _)
  have hb0 := heap_alloc_new W (.cells zc 30)
  have g0 : Gr (fun _ => False) W (W.alloc (.cells zc 30)) := Gr.alloc _ _ _
  have hz0 : (W.alloc (.cells zc 30)).heap.size = W.heap.size + 1 := by simp
  go_enter Tryz.func89, Tryz.ntmps89
  go_wp2_with fail
  generalize W.alloc (.cells zc 30) = W0 at h0 hb0 g0 hz0 ⊢
  obtain ⟨b, hbb⟩ : ∃ b, W.heap.size = b := ⟨_, rfl⟩
  have hbp : pb < b := by omega
  rw [hbb] at hb0 hz0 ⊢
  have hX0 := h0
  have hbbX0 := hb0
  have GX0 : Gr (fun k => k = pb) W W0 := g0.any _
  have szX0 : b + 1 ≤ W0.heap.size := by omega
  refine (is_c hX0 opn).mono ?_
  rintro e y0 ⟨rfl, k0⟩
  rw [q0]
  have hX1 := hX0.g0 k0
  have hbbX1 := k0.keep hbbX0 (fun e => e)
  have GX1 := GX0.trans (k0.any _)
  have szX1 := Nat.le_trans szX0 k0.size
  go_wp2_with fail
  refine (is_c hX1 opn5).mono ?_
  rintro e y1 ⟨rfl, k1⟩
  rw [q1]
  have hX2 := hX1.g0 k1
  have hbbX2 := k1.keep hbbX1 (fun e => e)
  have GX2 := GX1.trans (k1.any _)
  have szX2 := Nat.le_trans szX1 k1.size
  go_wp2_with fail
  refine (is_c hX2 opn6).mono ?_
  rintro e y2 ⟨rfl, k2⟩
  rw [q2]
  have hX3 := hX2.g0 k2
  have hbbX3 := k2.keep hbbX2 (fun e => e)
  have GX3 := GX2.trans (k2.any _)
  have szX3 := Nat.le_trans szX2 k2.size
  go_wp2_with fail
  refine (is_c hX3 wCase).mono ?_
  rintro e y3 ⟨rfl, k3⟩
  rw [q3]
  have hX4 := hX3.g0 k3
  have hbbX4 := k3.keep hbbX3 (fun e => e)
  have GX4 := GX3.trans (k3.any _)
  have szX4 := Nat.le_trans szX3 k3.size
  go_wp2_with fail
  refine (is_c hX4 wRecv).mono ?_
  rintro e y4 ⟨rfl, k4⟩
  rw [q4]
  have hX5 := hX4.g0 k4
  have hbbX5 := k4.keep hbbX4 (fun e => e)
  have GX5 := GX4.trans (k4.any _)
  have szX5 := Nat.le_trans szX4 k4.size
  go_wp2_with fail
  refine (fail_c hX5 160 (by decide)).mono ?_
  rintro e w4 ⟨rfl, h4, g4⟩
  have hbN := g4.keep hbbX5 (by omega)
  obtain ⟨⟨m0, m1, m2, m3, m4⟩, f0, f1, f2, f3, f4⟩ := five_cells hbN
  have hbl := h4.lt
  go_wp2_with fail
  have gN : Gr (fun k => k = pb) W w4 := GX5.trans g4
  have rep : Rep (fun z => b + 1 ≤ z) w4 tr0 tr0v := rep0 _ _
  have hN := h4
  obtain ⟨hf, r1, r2, r3⟩ := fin_tree hbN rep hN hbp gN hbb
  clear m0 m1 m2 m3 m4
  obtain ⟨⟨m0, m1, m2, m3, m4⟩, _⟩ := five_cells hf
  exact bodyPost_ret (v := tr0v) (by simp [results, Tryz.results89, go_sem, m0, m1, m2, m3, m4]) rfl ⟨_, rfl, r1, r2, ⟨hq.2, by show p.i ≤ (failV 160 p).i; omega⟩, r3⟩
theorem nest_c (d : Nat) (ex un : Rule) (hsub : Sub x d ex un) : RuleOk x 89 d (nestV x.ts ex un) := by
  refine ⟨ent_of Tryz.func89 (by kernel_rfl) rfl, fun W pb p h hd => ?_⟩
  rw [nestV]
  cases q0 : isV x.ts p opn with
  | true => rw [if_pos rfl]; exact nest_0 d ex un hsub h hd q0
  | false =>
    rw [if_neg (by decide)]
    cases q1 : isV x.ts p opn5 with
    | true => rw [if_pos rfl]; exact nest_1 d ex un hsub h hd q0 q1
    | false =>
      rw [if_neg (by decide)]
      cases q2 : isV x.ts p opn6 with
      | true => rw [if_pos rfl]; exact nest_2 d ex un hsub h hd q0 q1 q2
      | false =>
        rw [if_neg (by decide)]
        cases q3 : isV x.ts p wCase with
        | true => rw [if_pos rfl]; exact nest_3 d ex un hsub h hd q0 q1 q2 q3
        | false =>
          rw [if_neg (by decide)]
          cases q4 : isV x.ts p wRecv with
          | true => rw [if_pos rfl]; exact nest_4 d ex un hsub h hd q0 q1 q2 q3 q4
          | false =>
            rw [if_neg (by decide)]
            exact nest_5 d ex un hsub h hd q0 q1 q2 q3 q4
end Go.Proofs.YtggkjkkbkpnkiaaGreatDoor


