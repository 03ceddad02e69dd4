/-
  Carried over from another seat of ours (GH).
  Carried over from another seat of ours (GI).
-/
import Derived.Test.YtjedbfbolifjjaaGreatDoorGF
set_option linter.unusedVariables false
set_option linter.unusedSimpArgs false
namespace Go.Proofs.YtjedbfbolifjjaaGreatDoor
open Go.RowKit Go.Maps
variable {x : Kx} {W W' : World} {pb : Nat} {p p' : Ps}
abbrev opn5 : ByteArray := ⟨#[123]⟩
abbrev opn6 : ByteArray := ⟨#[91]⟩
abbrev wCase : ByteArray := ⟨#[99, 97, 115, 101]⟩
abbrev wRecv : ByteArray := ⟨#[114, 101, 99, 101, 105, 118, 101]⟩
def nestV (ts : List Tn) (ex un : Rule) (p : Ps) : Tr × Ps :=
 if isV ts p opn = true then deeperV (bracketV ts ex) p
 else if isV ts p opn5 = true then deeperV (tupleV ts ex) p
 else if isV ts p opn6 = true then deeperV (listV ts ex) p
 else if isV ts p wCase = true then deeperV (choiceV ts ex un) p
 else if isV ts p wRecv = true then deeperV (recvV ts ex un) p
 else (tr0, failV 160 p)
set_option maxRecDepth 100000 in
set_option maxHeartbeats 1600000 in
theorem nest_0 (d : Nat) (ex un : Rule) (hsub : Sub x d ex un) (h : Pz x W pb p) (hd : p.d = d) (q0 : isV x.ts p opn = true) :
 Calls Tryz.prog 153 #[pt pb] W fun e w' => EndR x W pb p e w' (deeperV (bracketV x.ts ex) p) := by
 obtain ⟨hlc, he, hl⟩ := isV_lt q0
 have hb := h.lt
 have h0 := h.g0 (Gr.alloc W (.cells zc 25) _)
 have hb0 := heap_alloc_new W (.cells zc 25)
 have g0 : Gr (fun _ => False) W (W.alloc (.cells zc 25)) := Gr.alloc _ _ _
 have hz0 : (W.alloc (.cells zc 25)).heap.size = W.heap.size + 1 := by simp
 go_enter Tryz.func153, Tryz.ntmps153
 go_wp2_with fail
 generalize W.alloc (.cells zc 25) = W0 at h0 hb0 g0 hz0 ⊢
 obtain ⟨b, hbb⟩ : ∃ b, W.heap.size = b := ⟨_, rfl⟩
 have hbp : pb < b := by omega
 rw [hbb] at hb0 hz0 ⊢
 have hX0 := h0
 have hbbX0 := hb0
 have GX0 : Gr (fun k => k = pb) W W0 := g0.any _
 have szX0 : b + 1 ≤ W0.heap.size := by omega
 refine (is_c hX0 opn).mono ?_
 rintro e y0 ⟨rfl, k0⟩
 rw [q0]
 have hX1 := hX0.g0 k0
 have hbbX1 := k0.keep hbbX0 (fun e => e)
 have GX1 := GX0.trans (k0.any _)
 have szX1 := Nat.le_trans szX0 k0.size
 go_wp2_with fail
 have hdp := deeper_c (pb := pb) (p := p) 160 (bracketV x.ts ex) (ent_of Tryz.func160 (by kernel_rfl) rfl) hX1 he hl (fun W' hP hG => by
  have hd2 : p.d + 1 ≤ 40 := hP.hd
  exact (bracket_c (d + 1) ex (hsub (by omega)).1).2 W' pb p.deep hP (by show p.d + 1 = d + 1; omega))
 refine hdp.mono ?_
 rintro e w4 ⟨v, rfl, rep4, h4, ⟨hd4, hi4⟩, g4⟩
 obtain ⟨tk, tt, tn, a1, n1, c1, a2, n2, c2, rfl⟩ := rep4.agg
 have hbN := g4.keep hbbX1 (by omega)
 obtain ⟨⟨m0, m1, m2, m3, m4⟩, f0, f1, f2, f3, f4⟩ := five_cells hbN
 have hbl := h4.lt
 go_wp2_with fail
 have gN : Gr (fun k => k = pb) W w4 := GX1.trans g4
 have rep := rep4.mono (base' := b + 1) szX1
 have hN := h4
 obtain ⟨hf, r1, r2, r3⟩ := fin_tree hbN rep hN hbp gN hbb
 clear m0 m1 m2 m3 m4
 obtain ⟨⟨m0, m1, m2, m3, m4⟩, _⟩ := five_cells hf
 exact bodyPost_ret (v := trv tk tt tn (.slice a1 n1 c1) (.slice a2 n2 c2)) (by simp [results, Tryz.results153, go_sem, m0, m1, m2, m3, m4]) rfl ⟨_, rfl, r1, r2, ⟨hd4, hi4⟩, r3⟩
set_option maxRecDepth 100000 in
set_option maxHeartbeats 1600000 in
theorem nest_1 (d : Nat) (ex un : Rule) (hsub : Sub x d ex un) (h : Pz x W pb p) (hd : p.d = d) (q0 : isV x.ts p opn = false) (q1 : isV x.ts p opn5 = true) :
 Calls Tryz.prog 153 #[pt pb] W fun e w' => EndR x W pb p e w' (deeperV (tupleV x.ts ex) p) := by
 obtain ⟨hlc, he, hl⟩ := isV_lt q1
 have hb := h.lt
 have h0 := h.g0 (Gr.alloc W (.cells zc 25) _)
 have hb0 := heap_alloc_new W (.cells zc 25)
 have g0 : Gr (fun _ => False) W (W.alloc (.cells zc 25)) := Gr.alloc _ _ _
 have hz0 : (W.alloc (.cells zc 25)).heap.size = W.heap.size + 1 := by simp
 go_enter Tryz.func153, Tryz.ntmps153
 go_wp2_with fail
 generalize W.alloc (.cells zc 25) = W0 at h0 hb0 g0 hz0 ⊢
 obtain ⟨b, hbb⟩ : ∃ b, W.heap.size = b := ⟨_, rfl⟩
 have hbp : pb < b := by omega
 rw [hbb] at hb0 hz0 ⊢
 have hX0 := h0
 have hbbX0 := hb0
 have GX0 : Gr (fun k => k = pb) W W0 := g0.any _
 have szX0 : b + 1 ≤ W0.heap.size := by omega
 refine (is_c hX0 opn).mono ?_
 rintro e y0 ⟨rfl, k0⟩
 rw [q0]
 have hX1 := hX0.g0 k0
 have hbbX1 := k0.keep hbbX0 (fun e => e)
 have GX1 := GX0.trans (k0.any _)
 have szX1 := Nat.le_trans szX0 k0.size
 go_wp2_with fail
 refine (is_c hX1 opn5).mono ?_
 rintro e y1 ⟨rfl, k1⟩
 rw [q1]
 have hX2 := hX1.g0 k1
 have hbbX2 := k1.keep hbbX1 (fun e => e)
 have GX2 := GX1.trans (k1.any _)
 have szX2 := Nat.le_trans szX1 k1.size
 go_wp2_with fail
 have hdp := deeper_c (pb := pb) (p := p) 161 (tupleV x.ts ex) (ent_of Tryz.func161 (by kernel_rfl) rfl) hX2 he hl (fun W' hP hG => by
  have hd2 : p.d + 1 ≤ 40 := hP.hd
  exact (gtuple_c (d + 1) ex (hsub (by omega)).1).2 W' pb p.deep hP (by show p.d + 1 = d + 1; omega))
 refine hdp.mono ?_
 rintro e w4 ⟨v, rfl, rep4, h4, ⟨hd4, hi4⟩, g4⟩
 obtain ⟨tk, tt, tn, a1, n1, c1, a2, n2, c2, rfl⟩ := rep4.agg
 have hbN := g4.keep hbbX2 (by omega)
 obtain ⟨⟨m0, m1, m2, m3, m4⟩, f0, f1, f2, f3, f4⟩ := five_cells hbN
 have hbl := h4.lt
 go_wp2_with fail
 have gN : Gr (fun k => k = pb) W w4 := GX2.trans g4
 have rep := rep4.mono (base' := b + 1) szX2
 have hN := h4
 obtain ⟨hf, r1, r2, r3⟩ := fin_tree hbN rep hN hbp gN hbb
 clear m0 m1 m2 m3 m4
 obtain ⟨⟨m0, m1, m2, m3, m4⟩, _⟩ := five_cells hf
 exact bodyPost_ret (v := trv tk tt tn (.slice a1 n1 c1) (.slice a2 n2 c2)) (by simp [results, Tryz.results153, go_sem, m0, m1, m2, m3, m4]) rfl ⟨_, rfl, r1, r2, ⟨hd4, hi4⟩, r3⟩
set_option maxRecDepth 100000 in
set_option maxHeartbeats 1600000 in
theorem nest_2 (d : Nat) (ex un : Rule) (hsub : Sub x d ex un) (h : Pz x W pb p) (hd : p.d = d) (q0 : isV x.ts p opn = false) (q1 : isV x.ts p opn5 = false) (q2 : isV x.ts p opn6 = true) :
 Calls Tryz.prog 153 #[pt pb] W fun e w' => EndR x W pb p e w' (deeperV (listV x.ts ex) p) := by
 obtain ⟨hlc, he, hl⟩ := isV_lt q2
 have hb := h.lt
 have h0 := h.g0 (Gr.alloc W (.cells zc 25) _)
 have hb0 := heap_alloc_new W (.cells zc 25)
 have g0 : Gr (fun _ => False) W (W.alloc (.cells zc 25)) := Gr.alloc _ _ _
 have hz0 : (W.alloc (.cells zc 25)).heap.size = W.heap.size + 1 := by simp
 go_enter Tryz.func153, Tryz.ntmps153
 go_wp2_with fail
 generalize W.alloc (.cells zc 25) = W0 at h0 hb0 g0 hz0 ⊢
 obtain ⟨b, hbb⟩ : ∃ b, W.heap.size = b := ⟨_, rfl⟩
 have hbp : pb < b := by omega
 rw [hbb] at hb0 hz0 ⊢
 have hX0 := h0
 have hbbX0 := hb0
 have GX0 : Gr (fun k => k = pb) W W0 := g0.any _
 have szX0 : b + 1 ≤ W0.heap.size := by omega
 refine (is_c hX0 opn).mono ?_
 rintro e y0 ⟨rfl, k0⟩
 rw [q0]
 have hX1 := hX0.g0 k0
 have hbbX1 := k0.keep hbbX0 (fun e => e)
 have GX1 := GX0.trans (k0.any _)
 have szX1 := Nat.le_trans szX0 k0.size
 go_wp2_with fail
 refine (is_c hX1 opn5).mono ?_
 rintro e y1 ⟨rfl, k1⟩
 rw [q1]
 have hX2 := hX1.g0 k1
 have hbbX2 := k1.keep hbbX1 (fun e => e)
 have GX2 := GX1.trans (k1.any _)
 have szX2 := Nat.le_trans szX1 k1.size
 go_wp2_with fail
 refine (is_c hX2 opn6).mono ?_
 rintro e y2 ⟨rfl, k2⟩
 rw [q2]
 have hX3 := hX2.g0 k2
 have hbbX3 := k2.keep hbbX2 (fun e => e)
 have GX3 := GX2.trans (k2.any _)
 have szX3 := Nat.le_trans szX2 k2.size
 go_wp2_with fail
 have hdp := deeper_c (pb := pb) (p := p) 162 (listV x.ts ex) (ent_of Tryz.func162 (by kernel_rfl) rfl) hX3 he hl (fun W' hP hG => by
  have hd2 : p.d + 1 ≤ 40 := hP.hd
  exact (glist_c (d + 1) ex (hsub (by omega)).1).2 W' pb p.deep hP (by show p.d + 1 = d + 1; omega))
 refine hdp.mono ?_
 rintro e w4 ⟨v, rfl, rep4, h4, ⟨hd4, hi4⟩, g4⟩
 obtain ⟨tk, tt, tn, a1, n1, c1, a2, n2, c2, rfl⟩ := rep4.agg
 have hbN := g4.keep hbbX3 (by omega)
 obtain ⟨⟨m0, m1, m2, m3, m4⟩, f0, f1, f2, f3, f4⟩ := five_cells hbN
 have hbl := h4.lt
 go_wp2_with fail
 have gN : Gr (fun k => k = pb) W w4 := GX3.trans g4
 have rep := rep4.mono (base' := b + 1) szX3
 have hN := h4
 obtain ⟨hf, r1, r2, r3⟩ := fin_tree hbN rep hN hbp gN hbb
 clear m0 m1 m2 m3 m4
 obtain ⟨⟨m0, m1, m2, m3, m4⟩, _⟩ := five_cells hf
 exact bodyPost_ret (v := trv tk tt tn (.slice a1 n1 c1) (.slice a2 n2 c2)) (by simp [results, Tryz.results153, go_sem, m0, m1, m2, m3, m4]) rfl ⟨_, rfl, r1, r2, ⟨hd4, hi4⟩, r3⟩
set_option maxRecDepth 100000 in
set_option maxHeartbeats 1600000 in
theorem nest_3 (d : Nat) (ex un : Rule) (hsub : Sub x d ex un) (h : Pz x W pb p) (hd : p.d = d) (q0 : isV x.ts p opn = false) (q1 : isV x.ts p opn5 = false) (q2 : isV x.ts p opn6 = false) (q3 : isV x.ts p wCase = true) :
 Calls Tryz.prog 153 #[pt pb] W fun e w' => EndR x W pb p e w' (deeperV (choiceV x.ts ex un) p) := by
 obtain ⟨hlc, he, hl⟩ := isV_lt q3
 have hb := h.lt
 have h0 := h.g0 (Gr.alloc W (.cells zc 25) _)
 have hb0 := heap_alloc_new W (.cells zc 25)
 have g0 : Gr (fun _ => False) W (W.alloc (.cells zc 25)) := Gr.alloc _ _ _
 have hz0 : (W.alloc (.cells zc 25)).heap.size = W.heap.size + 1 := by simp
 go_enter Tryz.func153, Tryz.ntmps153
 go_wp2_with fail
 generalize W.alloc (.cells zc 25) = W0 at h0 hb0 g0 hz0 ⊢
 obtain ⟨b, hbb⟩ : ∃ b, W.heap.size = b := ⟨_, rfl⟩
 have hbp : pb < b := by omega
 rw [hbb] at hb0 hz0 ⊢
 have hX0 := h0
 have hbbX0 := hb0
 have GX0 : Gr (fun k => k = pb) W W0 := g0.any _
 have szX0 : b + 1 ≤ W0.heap.size := by omega
 refine (is_c hX0 opn).mono ?_
 rintro e y0 ⟨rfl, k0⟩
 rw [q0]
 have hX1 := hX0.g0 k0
 have hbbX1 := k0.keep hbbX0 (fun e => e)
 have GX1 := GX0.trans (k0.any _)
 have szX1 := Nat.le_trans szX0 k0.size
 go_wp2_with fail
 refine (is_c hX1 opn5).mono ?_
 rintro e y1 ⟨rfl, k1⟩
 rw [q1]
 have hX2 := hX1.g0 k1
 have hbbX2 := k1.keep hbbX1 (fun e => e)
 have GX2 := GX1.trans (k1.any _)
 have szX2 := Nat.le_trans szX1 k1.size
 go_wp2_with fail
 refine (is_c hX2 opn6).mono ?_
 rintro e y2 ⟨rfl, k2⟩
 rw [q2]
 have hX3 := hX2.g0 k2
 have hbbX3 := k2.keep hbbX2 (fun e => e)
 have GX3 := GX2.trans (k2.any _)
 have szX3 := Nat.le_trans szX2 k2.size
 go_wp2_with fail
 refine (is_c hX3 wCase).mono ?_
 rintro e y3 ⟨rfl, k3⟩
 rw [q3]
 have hX4 := hX3.g0 k3
 have hbbX4 := k3.keep hbbX3 (fun e => e)
 have GX4 := GX3.trans (k3.any _)
 have szX4 := Nat.le_trans szX3 k3.size
 go_wp2_with fail
 have hdp := deeper_c (pb := pb) (p := p) 163 (choiceV x.ts ex un) (ent_of Tryz.func163 (by kernel_rfl) rfl) hX4 he hl (fun W' hP hG => by
  have hd2 : p.d + 1 ≤ 40 := hP.hd
  exact (choice_c (d + 1) ex un (hsub (by omega)).1 (hsub (by omega)).2).2 W' pb p.deep hP (by show p.d + 1 = d + 1; omega))
 refine hdp.mono ?_
 rintro e w4 ⟨v, rfl, rep4, h4, ⟨hd4, hi4⟩, g4⟩
 obtain ⟨tk, tt, tn, a1, n1, c1, a2, n2, c2, rfl⟩ := rep4.agg
 have hbN := g4.keep hbbX4 (by omega)
 obtain ⟨⟨m0, m1, m2, m3, m4⟩, f0, f1, f2, f3, f4⟩ := five_cells hbN
 have hbl := h4.lt
 go_wp2_with fail
 have gN : Gr (fun k => k = pb) W w4 := GX4.trans g4
 have rep := rep4.mono (base' := b + 1) szX4
 have hN := h4
 obtain ⟨hf, r1, r2, r3⟩ := fin_tree hbN rep hN hbp gN hbb
 clear m0 m1 m2 m3 m4
 obtain ⟨⟨m0, m1, m2, m3, m4⟩, _⟩ := five_cells hf
 exact bodyPost_ret (v := trv tk tt tn (.slice a1 n1 c1) (.slice a2 n2 c2)) (by simp [results, Tryz.results153, go_sem, m0, m1, m2, m3, m4]) rfl ⟨_, rfl, r1, r2, ⟨hd4, hi4⟩, r3⟩
set_option maxRecDepth 100000 in
set_option maxHeartbeats 1600000 in
theorem nest_4 (d : Nat) (ex un : Rule) (hsub : Sub x d ex un) (h : Pz x W pb p) (hd : p.d = d) (q0 : isV x.ts p opn = false) (q1 : isV x.ts p opn5 = false) (q2 : isV x.ts p opn6 = false) (q3 : isV x.ts p wCase = false) (q4 : isV x.ts p wRecv = true) :
 Calls Tryz.prog 153 #[pt pb] W fun e w' => EndR x W pb p e w' (deeperV (recvV x.ts ex un) p) := by
 obtain ⟨hlc, he, hl⟩ := isV_lt q4
 have hb := h.lt
 have h0 := h.g0 (Gr.alloc W (.cells zc 25) _)
 have hb0 := heap_alloc_new W (.cells zc 25)
 have g0 : Gr (fun _ => False) W (W.alloc (.cells zc 25)) := Gr.alloc _ _ _
 have hz0 : (W.alloc (.cells zc 25)).heap.size = W.heap.size + 1 := by simp
 go_enter Tryz.func153, Tryz.ntmps153
 go_wp2_with fail
 generalize W.alloc (.cells zc 25) = W0 at h0 hb0 g0 hz0 ⊢
 obtain ⟨b, hbb⟩ : ∃ b, W.heap.size = b := ⟨_, rfl⟩
 have hbp : pb < b := by omega
 rw [hbb] at hb0 hz0 ⊢
 have hX0 := h0
 have hbbX0 := hb0
 have GX0 : Gr (fun k => k = pb) W W0 := g0.any _
 have szX0 : b + 1 ≤ W0.heap.size := by omega
 refine (is_c hX0 opn).mono ?_
 rintro e y0 ⟨rfl, k0⟩
 rw [q0]
 have hX1 := hX0.g0 k0
 have hbbX1 := k0.keep hbbX0 (fun e => e)
 have GX1 := GX0.trans (k0.any _)
 have szX1 := Nat.le_trans szX0 k0.size
 go_wp2_with fail
 refine (is_c hX1 opn5).mono ?_
 rintro e y1 ⟨rfl, k1⟩
 rw [q1]
 have hX2 := hX1.g0 k1
 have hbbX2 := k1.keep hbbX1 (fun e => e)
 have GX2 := GX1.trans (k1.any _)
 have szX2 := Nat.le_trans szX1 k1.size
 go_wp2_with fail
 refine (is_c hX2 opn6).mono ?_
 rintro e y2 ⟨rfl, k2⟩
 rw [q2]
 have hX3 := hX2.g0 k2
 have hbbX3 := k2.keep hbbX2 (fun e => e)
 have GX3 := GX2.trans (k2.any _)
 have szX3 := Nat.le_trans szX2 k2.size
 go_wp2_with fail
 refine (is_c hX3 wCase).mono ?_
 rintro e y3 ⟨rfl, k3⟩
 rw [q3]
 have hX4 := hX3.g0 k3
 have hbbX4 := k3.keep hbbX3 (fun e => e)
 have GX4 := GX3.trans (k3.any _)
 have szX4 := Nat.le_trans szX3 k3.size
 go_wp2_with fail
 refine (is_c hX4 wRecv).mono ?_
 rintro e y4 ⟨rfl, k4⟩
 rw [q4]
 have hX5 := hX4.g0 k4
 have hbbX5 := k4.keep hbbX4 (fun e => e)
 have GX5 := GX4.trans (k4.any _)
 have szX5 := Nat.le_trans szX4 k4.size
 go_wp2_with fail
 have hdp := deeper_c (pb := pb) (p := p) 164 (recvV x.ts ex un) (ent_of Tryz.func164 (by kernel_rfl) rfl) hX5 he hl (fun W' hP hG => by
  have hd2 : p.d + 1 ≤ 40 := hP.hd
  exact (receive_c (d + 1) ex un (hsub (by omega)).1 (hsub (by omega)).2).2 W' pb p.deep hP (by show p.d + 1 = d + 1; omega))
 refine hdp.mono ?_
 rintro e w4 ⟨v, rfl, rep4, h4, ⟨hd4, hi4⟩, g4⟩
 obtain ⟨tk, tt, tn, a1, n1, c1, a2, n2, c2, rfl⟩ := rep4.agg
 have hbN := g4.keep hbbX5 (by omega)
 obtain ⟨⟨m0, m1, m2, m3, m4⟩, f0, f1, f2, f3, f4⟩ := five_cells hbN
 have hbl := h4.lt
 go_wp2_with fail
 have gN : Gr (fun k => k = pb) W w4 := GX5.trans g4
 have rep := rep4.mono (base' := b + 1) szX5
 have hN := h4
 obtain ⟨hf, r1, r2, r3⟩ := fin_tree hbN rep hN hbp gN hbb
 clear m0 m1 m2 m3 m4
 obtain ⟨⟨m0, m1, m2, m3, m4⟩, _⟩ := five_cells hf
 exact bodyPost_ret (v := trv tk tt tn (.slice a1 n1 c1) (.slice a2 n2 c2)) (by simp [results, Tryz.results153, go_sem, m0, m1, m2, m3, m4]) rfl ⟨_, rfl, r1, r2, ⟨hd4, hi4⟩, r3⟩
set_option maxRecDepth 100000 in
set_option maxHeartbeats 1600000 in
theorem nest_5 (d : Nat) (ex un : Rule) (hsub : Sub x d ex un) (h : Pz x W pb p) (hd : p.d = d) (q0 : isV x.ts p opn = false) (q1 : isV x.ts p opn5 = false) (q2 : isV x.ts p opn6 = false) (q3 : isV x.ts p wCase = false) (q4 : isV x.ts p wRecv = false) :
 Calls Tryz.prog 153 #[pt pb] W fun e w' => EndR x W pb p e w' ((tr0, failV 160 p)) := by
 have hq := failV_same 160 p
 have hb := h.lt
 have h0 := h.g0 (Gr.alloc W (.cells zc 25) _)
 have hb0 := heap_alloc_new W (.cells zc 25)
 have g0 : Gr (fun _ => False) W (W.alloc (.cells zc 25)) := Gr.alloc _ _ _
 have hz0 : (W.alloc (.cells zc 25)).heap.size = W.heap.size + 1 := by simp
 go_enter Tryz.func153, Tryz.ntmps153
 go_wp2_with fail
 generalize W.alloc (.cells zc 25) = W0 at h0 hb0 g0 hz0 ⊢
 obtain ⟨b, hbb⟩ : ∃ b, W.heap.size = b := ⟨_, rfl⟩
 have hbp : pb < b := by omega
 rw [hbb] at hb0 hz0 ⊢
 have hX0 := h0
 have hbbX0 := hb0
 have GX0 : Gr (fun k => k = pb) W W0 := g0.any _
 have szX0 : b + 1 ≤ W0.heap.size := by omega
 refine (is_c hX0 opn).mono ?_
 rintro e y0 ⟨rfl, k0⟩
 rw [q0]
 have hX1 := hX0.g0 k0
 have hbbX1 := k0.keep hbbX0 (fun e => e)
 have GX1 := GX0.trans (k0.any _)
 have szX1 := Nat.le_trans szX0 k0.size
 go_wp2_with fail
 refine (is_c hX1 opn5).mono ?_
 rintro e y1 ⟨rfl, k1⟩
 rw [q1]
 have hX2 := hX1.g0 k1
 have hbbX2 := k1.keep hbbX1 (fun e => e)
 have GX2 := GX1.trans (k1.any _)
 have szX2 := Nat.le_trans szX1 k1.size
 go_wp2_with fail
 refine (is_c hX2 opn6).mono ?_
 rintro e y2 ⟨rfl, k2⟩
 rw [q2]
 have hX3 := hX2.g0 k2
 have hbbX3 := k2.keep hbbX2 (fun e => e)
 have GX3 := GX2.trans (k2.any _)
 have szX3 := Nat.le_trans szX2 k2.size
 go_wp2_with fail
 refine (is_c hX3 wCase).mono ?_
 rintro e y3 ⟨rfl, k3⟩
 rw [q3]
 have hX4 := hX3.g0 k3
 have hbbX4 := k3.keep hbbX3 (fun e => e)
 have GX4 := GX3.trans (k3.any _)
 have szX4 := Nat.le_trans szX3 k3.size
 go_wp2_with fail
 refine (is_c hX4 wRecv).mono ?_
 rintro e y4 ⟨rfl, k4⟩
 rw [q4]
 have hX5 := hX4.g0 k4
 have hbbX5 := k4.keep hbbX4 (fun e => e)
 have GX5 := GX4.trans (k4.any _)
 have szX5 := Nat.le_trans szX4 k4.size
 go_wp2_with fail
 refine (fail_c hX5 160 (by decide)).mono ?_
 rintro e w4 ⟨rfl, h4, g4⟩
 have hbN := g4.keep hbbX5 (by omega)
 obtain ⟨⟨m0, m1, m2, m3, m4⟩, f0, f1, f2, f3, f4⟩ := five_cells hbN
 have hbl := h4.lt
 go_wp2_with fail
 have gN : Gr (fun k => k = pb) W w4 := GX5.trans g4
 have rep : Rep (fun z => b + 1 ≤ z) w4 tr0 tr0v := rep0 _ _
 have hN := h4
 obtain ⟨hf, r1, r2, r3⟩ := fin_tree hbN rep hN hbp gN hbb
 clear m0 m1 m2 m3 m4
 obtain ⟨⟨m0, m1, m2, m3, m4⟩, _⟩ := five_cells hf
 exact bodyPost_ret (v := tr0v) (by simp [results, Tryz.results153, go_sem, m0, m1, m2, m3, m4]) rfl ⟨_, rfl, r1, r2, ⟨hq.2, by show p.i ≤ (failV 160 p).i; omega⟩, r3⟩
theorem nest_c (d : Nat) (ex un : Rule) (hsub : Sub x d ex un) : RuleOk x 153 d (nestV x.ts ex un) := by
 refine ⟨ent_of Tryz.func153 (by kernel_rfl) rfl, fun W pb p h hd => ?_⟩
 rw [nestV]
 cases q0 : isV x.ts p opn with
 | true => rw [if_pos rfl]; exact nest_0 d ex un hsub h hd q0
 | false =>
  rw [if_neg (by decide)]
  cases q1 : isV x.ts p opn5 with
  | true => rw [if_pos rfl]; exact nest_1 d ex un hsub h hd q0 q1
  | false =>
   rw [if_neg (by decide)]
   cases q2 : isV x.ts p opn6 with
   | true => rw [if_pos rfl]; exact nest_2 d ex un hsub h hd q0 q1 q2
   | false =>
    rw [if_neg (by decide)]
    cases q3 : isV x.ts p wCase with
    | true => rw [if_pos rfl]; exact nest_3 d ex un hsub h hd q0 q1 q2 q3
    | false =>
     rw [if_neg (by decide)]
     cases q4 : isV x.ts p wRecv with
     | true => rw [if_pos rfl]; exact nest_4 d ex un hsub h hd q0 q1 q2 q3 q4
     | false =>
      rw [if_neg (by decide)]
      exact nest_5 d ex un hsub h hd q0 q1 q2 q3 q4
end Go.Proofs.YtjedbfbolifjjaaGreatDoor

namespace Go.Proofs.YtjedbfbolifjjaaGreatDoor
open Go.RowKit Go.Maps
variable {x : Kx} {W W' : World} {pb : Nat} {p p' : Ps}
theorem RowB.sb {A : Nat → Prop} {bs : List Int} {v : Value} (h : RowB A W bs v) : Sb W v bs := by
 rcases h with ⟨rfl, a, c, rfl⟩ | ⟨g, cap, cur, rfl, hg, hc, h1, h2⟩
 · cases a with
   | none => exact .inl ⟨c, rfl, rfl⟩
   | some a => exact .inr ⟨a, c, rfl, fun j u h => by simp [u8s] at h⟩
 ·
  refine .inr ⟨_, cap, rfl, fun j u h => ?_⟩
  have hadd : (⟨g, 0, none⟩ : Addr).add j = ⟨g, j, none⟩ := by unfold Addr.add; split <;> simp_all
  have hlt : j < bs.length := by
   have := (List.getElem?_eq_some_iff.1 h).1
   simpa [u8s] using this
  rw [u8s, ← h2, List.getElem?_take_of_lt hlt] at h
  rw [hadd]
  simp only [World.cell?, hc]
  simpa using h
theorem nilS (c : Nat) (w : World) : (binOp .eql 22 (.slice none 0 c) (.slice none 0 0)).run Tryz.prog w = .ok (.bool true) w := by kernel_rfl
theorem someS (a : Addr) (n c : Nat) (w : World) : (binOp .eql 22 (.slice (some a) n c) (.slice none 0 0)).run Tryz.prog w = .ok (.bool false) w := by kernel_rfl
set_option maxRecDepth 100000 in
set_option maxHeartbeats 1600000 in
theorem bclone_c (W : World) (v : Value) (bs : List Int) (A : Nat → Prop) (h : RowB A W bs v) (hl : bs.length ≤ 200000) : Calls Tryz.prog 151 #[v] W fun e w' => ∃ v', e = .returned v' ∧ RowB (fun z => W.heap.size ≤ z) w' bs v' ∧ Gr (fun _ => False) W w' := by
 have hs := h.sb
 obtain ⟨a, c, rfl⟩ := h.sv
 cases a with
 | none =>
  have hb : bs = [] := by
   rcases h with ⟨rfl, _⟩ | ⟨g, cap, cur, e, _⟩
   · rfl
   · cases e
  subst hb
  have hq := nilS c
  go_enter Tryz.func151, Tryz.ntmps151
  go_wp2_with fail
  go_ret
  exact ⟨_, rfl, .inl ⟨rfl, _, _, rfl⟩, Gr.refl _ _⟩
 | some a =>
  have ho : Ob W.heap.size (W.alloc (.cells #[] 5)) (.slice (some ⟨W.heap.size, 0, none⟩) 0 0) [] := Ob.lit W.heap.size W [] (by simp) (Nat.le_refl _) #[] rfl 0 rfl
  have hs2 := hs.gr (Gr.alloc W (.cells #[] 5) (fun _ => False))
  have hl2 : Hid (bs.length ≤ 200000) := hl
  clear hl hs h
  have hq := someS a bs.length c
  go_enter Tryz.func151, Tryz.ntmps151
  go_wp2_with (first
   | (at_builtin; refine wpList_ap rfl _ _ rfl W.heap.size _ _ [] bs rfl rfl ho hs2 (by have := hl2.out; simp; omega) (by simp) ?_; intro v1 w1 o1 g1)
   | fail)
  obtain ⟨sa, sc, rfl⟩ := o1.sv
  go_ret
  refine ⟨_, rfl, ?_, ((Gr.alloc W (.cells #[] 5) (fun _ => False)).trans' (S' := fun k => W.heap.size ≤ k) (g1.gr.mono (fun i _ e => (ownsRow_lt ho.row i e).1)) (fun k hk e => by omega))⟩
  have := rowB_own (W := w1) (N := W.heap.size) (bs := bs) o1.row
  exact this

abbrev mns : ByteArray := ⟨#[45]⟩
def primV (ts : List Tn) (ex un : Rule) (p : Ps) : Tr × Ps :=
 if (pkT ts p).k = 1 then (.mk 1 e0 (pkT ts p).n [] [], p.next)
 else if (pkT ts p).k = 4 then (.mk 4 e0 0 (pkT ts p).b [], p.next)
 else if (pkT ts p).k = 3 then varV ts p
 else if (pkT ts p).k = 2 then atomV ts ex p
 else nestV ts ex un p
theorem Pz.tokB (h : Pz x W pb p) : ∃ va vn vc, pkB x.vs p = .slice va vn vc := by
 by_cases hl : p.i < x.cut p
 · obtain ⟨_, _, _, hrow, _⟩ := h.at hl
   obtain ⟨a, c, e⟩ := hrow.sv
   exact ⟨_, _, _, e⟩
 · exact ⟨_, _, _, pkB_end hl h.bs⟩
set_option maxRecDepth 100000 in
set_option maxHeartbeats 1600000 in
theorem prim_int (h : Pz x W pb p) (hk : (pkT x.ts p).k = 1) : Calls Tryz.prog 146 #[pt pb] W fun e w' => EndR x W pb p e w' (.mk 1 e0 (pkT x.ts p).n [] [], p.next) := by
 have hk0 := fun w hp => gpeek_c (x := x) (W := w) (pb := pb) (p := p) hp
 obtain ⟨va, vn, vc, hv⟩ := h.tokB
 rw [hv] at hk0
 obtain ⟨he, hl, _⟩ := h.at (lt_of_kind (x := x) (p := p) (by rw [hk]; decide))
 have hi2 : (p.i : Int) ≤ 100000 := by have := h.hi; have := h.hm; omega
 generalize pkT x.ts p = t at hk0 hk ⊢
 have q1 : (t.k == 1) = true := by simp [hk]
 clear hk
 have hb := h.lt
 have h0 := h.g0 (Gr.alloc W (.cells zc 25) _)
 have hb0 := heap_alloc_new W (.cells zc 25)
 have g0 : Gr (fun _ => False) W (W.alloc (.cells zc 25)) := Gr.alloc _ _ _
 have hz0 : (W.alloc (.cells zc 25)).heap.size = W.heap.size + 1 := by simp
 go_enter Tryz.func146, Tryz.ntmps146
 go_wp2_with fail
 generalize W.alloc (.cells zc 25) = W0 at h0 hb0 g0 hz0 ⊢
 obtain ⟨b, hbb⟩ : ∃ b, W.heap.size = b := ⟨_, rfl⟩
 have hbp : pb < b := by omega
 rw [hbb] at hb0 hz0 ⊢
 refine (hk0 _ h0).mono ?_
 rintro e w1 ⟨rfl, g1⟩
 have h1 := h0.g0 g1
 have hb1 := g1.keep hb0 (fun e => e)
 have hs1 := g1.size
 have hbl := h1.lt
 obtain ⟨⟨c0, c1, c2, c3⟩, k0, k1, k2, k3⟩ := h1.facts
 have hnb : w1.heap.size ≠ pb := by omega
 obtain ⟨⟨m0, m1, m2, m3, m4⟩, f0, f1, f2, f3, f4⟩ := five_cells hb1
 have hnb2 : w1.heap.size ≠ b := by omega
 have hbw : b < w1.heap.size := by omega
 have hnb3 : pb ≠ b := by omega
 go_wp2_with fail
 clear m0 m1 m2 m3 m4 f0 f1 f2 f3 f4 c0 c1 c2 c3 k0 k1 k2 k3
 obtain ⟨h2, g2⟩ := h1.step he hl
 generalize w1.setCell ⟨pb, 1, none⟩ (.int .i64 ((p.i : Int) + 1)) = w2 at h2 g2 ⊢
 have hbN := g2.keep hb1 (by omega)
 have gN : Gr (fun k => k = pb) W w2 := ((g0.any _).trans (g1.any _)).trans g2
 have rep : Rep (fun z => b + 1 ≤ z) w2 (.mk 1 e0 t.n [] []) (trv 1 e0 t.n nl nl) := ⟨nl, nl, [], rfl, .inl ⟨rfl, _, _, rfl⟩, .inl ⟨rfl, _, _, rfl⟩, rfl⟩
 obtain ⟨hf, r1, r2, r3⟩ := fin_tree hbN rep h2 hbp gN hbb
 have gF := Gr.alloc (set5 w2 b (.int .i64 1) (.string e0) (.int .i64 t.n) nl nl) (.cells #[.int .i64 t.k, .string t.s, .int .i64 t.n, .slice va vn vc, .int .i64 t.o] 81) (fun _ => False)
 obtain ⟨⟨m0, m1, m2, m3, m4⟩, _⟩ := five_cells (gF.keep hf (fun e => e))
 exact bodyPost_ret (v := trv 1 e0 t.n nl nl) (by simp [results, Tryz.results146, go_sem, m0, m1, m2, m3, m4]) rfl ⟨_, rfl, r1.g0 gF, r2.g0 gF, ⟨rfl, Nat.le_succ _⟩, r3.trans (gF.any _)⟩
set_option maxRecDepth 100000 in
set_option maxHeartbeats 1600000 in
theorem prim_bytes (h : Pz x W pb p) (hk : (pkT x.ts p).k = 4) : Calls Tryz.prog 146 #[pt pb] W fun e w' => EndR x W pb p e w' (.mk 4 e0 0 (pkT x.ts p).b [], p.next) := by
 have hk0 := fun w hp => gpeek_c (x := x) (W := w) (pb := pb) (p := p) hp
 obtain ⟨va, vn, vc, hv⟩ := h.tokB
 rw [hv] at hk0
 obtain ⟨he, hl, ht, hrow, _⟩ := h.at (lt_of_kind (x := x) (p := p) (by rw [hk]; decide))
 have hbl0 := h.hB _ (List.mem_of_getElem? ht)
 have hi2 : (p.i : Int) ≤ 100000 := by have := h.hi; have := h.hm; omega
 have hNp := h.hN
 rw [hv] at hrow
 clear ht
 generalize pkT x.ts p = t at hk0 hk hrow hbl0 ⊢
 have q1 : (t.k == 1) = false := by simp [hk]
 have q2 : (t.k == 4) = true := by simp [hk]
 clear hk
 replace hbl0 := Lib.hid hbl0
 have hb := h.lt
 have h0 := h.g0 (Gr.alloc W (.cells zc 25) _)
 have hb0 := heap_alloc_new W (.cells zc 25)
 have g0 : Gr (fun _ => False) W (W.alloc (.cells zc 25)) := Gr.alloc _ _ _
 have hz0 : (W.alloc (.cells zc 25)).heap.size = W.heap.size + 1 := by simp
 go_enter Tryz.func146, Tryz.ntmps146
 go_wp2_with fail
 generalize W.alloc (.cells zc 25) = W0 at h0 hb0 g0 hz0 ⊢
 obtain ⟨b, hbb⟩ : ∃ b, W.heap.size = b := ⟨_, rfl⟩
 have hbp : pb < b := by omega
 rw [hbb] at hb0 hz0 ⊢
 refine (hk0 _ h0).mono ?_
 rintro e w1 ⟨rfl, g1⟩
 have h1 := h0.g0 g1
 have hb1 := g1.keep hb0 (fun e => e)
 have hs1 := g1.size
 have hbl := h1.lt
 obtain ⟨⟨c0, c1, c2, c3⟩, k0, k1, k2, k3⟩ := h1.facts
 have hnb : w1.heap.size ≠ pb := by omega
 obtain ⟨⟨m0, m1, m2, m3, m4⟩, f0, f1, f2, f3, f4⟩ := five_cells hb1
 have hnb2 : w1.heap.size ≠ b := by omega
 have hbw : b < w1.heap.size := by omega
 have hnb3 : pb ≠ b := by omega
 obtain ⟨h2, g2⟩ := h1.step he hl
 go_wp2_with fail
 generalize w1.setCell ⟨pb, 1, none⟩ (.int .i64 ((p.i : Int) + 1)) = w2 at h2 g2 ⊢
 have G3 : Gr (fun k => k = pb) W w2 := ((g0.any _).trans (g1.any _)).trans g2
 have G4 := Gr.alloc w2 (.cells #[.int .i64 t.k, .string t.s, .int .i64 t.n, .slice va vn vc, .int .i64 t.o] 81) (fun _ => False)
 have hz4 : (w2.alloc (.cells #[.int .i64 t.k, .string t.s, .int .i64 t.n, .slice va vn vc, .int .i64 t.o] 81)).heap.size = w2.heap.size + 1 := by simp
 generalize w2.alloc (.cells #[.int .i64 t.k, .string t.s, .int .i64 t.n, .slice va vn vc, .int .i64 t.o] 81) = w3 at G4 hz4 ⊢
 have hs2 := g2.size
 have hrow3 : RowB (fun k => k < x.N) w3 t.b (.slice va vn vc) := hrow.turn (fun k hk hl => ⟨hk, (G3.trans (G4.any _)).block k hl (by omega)⟩)
 refine (bclone_c w3 _ t.b _ hrow3 hbl0.out).mono ?_
 rintro e w4 ⟨v', rfl, rowN, g4⟩
 obtain ⟨ba, bc, rfl⟩ := rowN.sv
 have hbN := g4.keep (G4.keep (g2.keep hb1 (by omega)) (fun e => e)) (fun e => e)
 clear m0 m1 m2 m3 m4 f0 f1 f2 f3 f4 c0 c1 c2 c3 k0 k1 k2 k3
 obtain ⟨⟨m0, m1, m2, m3, m4⟩, f0, f1, f2, f3, f4⟩ := five_cells hbN
 have hN := (h2.g0 G4).g0 g4
 have hbl2 := hN.lt
 go_wp2_with fail
 have gN : Gr (fun k => k = pb) W w4 := (G3.trans (G4.any _)).trans (g4.any _)
 have rep : Rep (fun z => b + 1 ≤ z) w4 (.mk 4 e0 0 t.b []) (trv 4 e0 0 (.slice ba t.b.length bc) nl) := ⟨_, nl, [], rfl, rowN.turn (fun z hz hl => ⟨by omega, rfl⟩), .inl ⟨rfl, _, _, rfl⟩, rfl⟩
 obtain ⟨hf, r1, r2, r3⟩ := fin_tree hbN rep hN hbp gN hbb
 clear m0 m1 m2 m3 m4
 obtain ⟨⟨m0, m1, m2, m3, m4⟩, _⟩ := five_cells hf
 exact bodyPost_ret (v := trv 4 e0 0 (.slice ba t.b.length bc) nl) (by simp [results, Tryz.results146, go_sem, m0, m1, m2, m3, m4]) rfl ⟨_, rfl, r1, r2, ⟨rfl, Nat.le_succ _⟩, r3⟩
set_option maxRecDepth 100000 in
set_option maxHeartbeats 1600000 in
theorem prim_var (d : Nat) (ex un : Rule) (hsub : Sub x d ex un) (h : Pz x W pb p) (hd : p.d = d) (q1 : ((pkT x.ts p).k == 1) = false) (q4 : ((pkT x.ts p).k == 4) = false) (q3 : ((pkT x.ts p).k == 3) = true) : Calls Tryz.prog 146 #[pt pb] W fun e w' => EndR x W pb p e w' (varV x.ts p) := by
 have hk0 := fun w hp => gpeek_c (x := x) (W := w) (pb := pb) (p := p) hp
 obtain ⟨va, vn, vc, hv⟩ := h.tokB
 rw [hv] at hk0
 generalize pkT x.ts p = t at hk0 q1 q4 q3
 have hb := h.lt
 have h0 := h.g0 (Gr.alloc W (.cells zc 25) _)
 have hb0 := heap_alloc_new W (.cells zc 25)
 have g0 : Gr (fun _ => False) W (W.alloc (.cells zc 25)) := Gr.alloc _ _ _
 have hz0 : (W.alloc (.cells zc 25)).heap.size = W.heap.size + 1 := by simp
 go_enter Tryz.func146, Tryz.ntmps146
 go_wp2_with fail
 generalize W.alloc (.cells zc 25) = W0 at h0 hb0 g0 hz0 ⊢
 obtain ⟨b, hbb⟩ : ∃ b, W.heap.size = b := ⟨_, rfl⟩
 have hbp : pb < b := by omega
 rw [hbb] at hb0 hz0 ⊢
 refine (hk0 _ h0).mono ?_
 rintro e w1 ⟨rfl, g1⟩
 have h1 := h0.g0 g1
 have hb1 := g1.keep hb0 (fun e => e)
 have hs1 := g1.size
 have hbl := h1.lt
 go_wp2_with fail
 have G2 := Gr.alloc w1 (.cells #[.int .i64 t.k, .string t.s, .int .i64 t.n, .slice va vn vc, .int .i64 t.o] 81) (fun _ => False)
 generalize w1.alloc (.cells #[.int .i64 t.k, .string t.s, .int .i64 t.n, .slice va vn vc, .int .i64 t.o] 81) = w2 at G2 ⊢
 have hs2 := G2.size
 refine ((gvar_c d).2 w2 pb p (h1.g0 G2) hd).mono ?_
 rintro e w4 ⟨v, rfl, rep4, h4, ⟨hd4, hi4⟩, g4⟩
 obtain ⟨tk, tt, tn, a1, n1, c1, a2, n2, c2, rfl⟩ := rep4.agg
 have hbN := g4.keep (G2.keep hb1 (fun e => e)) (by omega)
 obtain ⟨⟨m0, m1, m2, m3, m4⟩, f0, f1, f2, f3, f4⟩ := five_cells hbN
 have hbl2 := h4.lt
 go_wp2_with fail
 have gN : Gr (fun k => k = pb) W w4 := ((g0.any _).trans (g1.any _)).trans ((G2.any _).trans g4)
 have rep := rep4.mono (base' := b + 1) (by omega)
 have hN := h4
 obtain ⟨hf, r1, r2, r3⟩ := fin_tree hbN rep hN hbp gN hbb
 clear m0 m1 m2 m3 m4
 obtain ⟨⟨m0, m1, m2, m3, m4⟩, _⟩ := five_cells hf
 exact bodyPost_ret (v := trv tk tt tn (.slice a1 n1 c1) (.slice a2 n2 c2)) (by simp [results, Tryz.results146, go_sem, m0, m1, m2, m3, m4]) rfl ⟨_, rfl, r1, r2, ⟨hd4, hi4⟩, r3⟩
set_option maxRecDepth 100000 in
set_option maxHeartbeats 1600000 in
theorem prim_atom (d : Nat) (ex un : Rule) (hsub : Sub x d ex un) (h : Pz x W pb p) (hd : p.d = d) (q1 : ((pkT x.ts p).k == 1) = false) (q4 : ((pkT x.ts p).k == 4) = false) (q3 : ((pkT x.ts p).k == 3) = false) (q2 : ((pkT x.ts p).k == 2) = true) : Calls Tryz.prog 146 #[pt pb] W fun e w' => EndR x W pb p e w' (atomV x.ts ex p) := by
 have hk0 := fun w hp => gpeek_c (x := x) (W := w) (pb := pb) (p := p) hp
 obtain ⟨va, vn, vc, hv⟩ := h.tokB
 rw [hv] at hk0
 generalize pkT x.ts p = t at hk0 q1 q4 q3 q2
 have hb := h.lt
 have h0 := h.g0 (Gr.alloc W (.cells zc 25) _)
 have hb0 := heap_alloc_new W (.cells zc 25)
 have g0 : Gr (fun _ => False) W (W.alloc (.cells zc 25)) := Gr.alloc _ _ _
 have hz0 : (W.alloc (.cells zc 25)).heap.size = W.heap.size + 1 := by simp
 go_enter Tryz.func146, Tryz.ntmps146
 go_wp2_with fail
 generalize W.alloc (.cells zc 25) = W0 at h0 hb0 g0 hz0 ⊢
 obtain ⟨b, hbb⟩ : ∃ b, W.heap.size = b := ⟨_, rfl⟩
 have hbp : pb < b := by omega
 rw [hbb] at hb0 hz0 ⊢
 refine (hk0 _ h0).mono ?_
 rintro e w1 ⟨rfl, g1⟩
 have h1 := h0.g0 g1
 have hb1 := g1.keep hb0 (fun e => e)
 have hs1 := g1.size
 have hbl := h1.lt
 go_wp2_with fail
 have G2 := Gr.alloc w1 (.cells #[.int .i64 t.k, .string t.s, .int .i64 t.n, .slice va vn vc, .int .i64 t.o] 81) (fun _ => False)
 generalize w1.alloc (.cells #[.int .i64 t.k, .string t.s, .int .i64 t.n, .slice va vn vc, .int .i64 t.o] 81) = w2 at G2 ⊢
 have hs2 := G2.size
 refine ((atom_c d ex un hsub).2 w2 pb p (h1.g0 G2) hd).mono ?_
 rintro e w4 ⟨v, rfl, rep4, h4, ⟨hd4, hi4⟩, g4⟩
 obtain ⟨tk, tt, tn, a1, n1, c1, a2, n2, c2, rfl⟩ := rep4.agg
 have hbN := g4.keep (G2.keep hb1 (fun e => e)) (by omega)
 obtain ⟨⟨m0, m1, m2, m3, m4⟩, f0, f1, f2, f3, f4⟩ := five_cells hbN
 have hbl2 := h4.lt
 go_wp2_with fail
 have gN : Gr (fun k => k = pb) W w4 := ((g0.any _).trans (g1.any _)).trans ((G2.any _).trans g4)
 have rep := rep4.mono (base' := b + 1) (by omega)
 have hN := h4
 obtain ⟨hf, r1, r2, r3⟩ := fin_tree hbN rep hN hbp gN hbb
 clear m0 m1 m2 m3 m4
 obtain ⟨⟨m0, m1, m2, m3, m4⟩, _⟩ := five_cells hf
 exact bodyPost_ret (v := trv tk tt tn (.slice a1 n1 c1) (.slice a2 n2 c2)) (by simp [results, Tryz.results146, go_sem, m0, m1, m2, m3, m4]) rfl ⟨_, rfl, r1, r2, ⟨hd4, hi4⟩, r3⟩
set_option maxRecDepth 100000 in
set_option maxHeartbeats 1600000 in
theorem prim_nest (d : Nat) (ex un : Rule) (hsub : Sub x d ex un) (h : Pz x W pb p) (hd : p.d = d) (q1 : ((pkT x.ts p).k == 1) = false) (q4 : ((pkT x.ts p).k == 4) = false) (q3 : ((pkT x.ts p).k == 3) = false) (q2 : ((pkT x.ts p).k == 2) = false) : Calls Tryz.prog 146 #[pt pb] W fun e w' => EndR x W pb p e w' (nestV x.ts ex un p) := by
 have hk0 := fun w hp => gpeek_c (x := x) (W := w) (pb := pb) (p := p) hp
 obtain ⟨va, vn, vc, hv⟩ := h.tokB
 rw [hv] at hk0
 generalize pkT x.ts p = t at hk0 q1 q4 q3 q2
 have hb := h.lt
 have h0 := h.g0 (Gr.alloc W (.cells zc 25) _)
 have hb0 := heap_alloc_new W (.cells zc 25)
 have g0 : Gr (fun _ => False) W (W.alloc (.cells zc 25)) := Gr.alloc _ _ _
 have hz0 : (W.alloc (.cells zc 25)).heap.size = W.heap.size + 1 := by simp
 go_enter Tryz.func146, Tryz.ntmps146
 go_wp2_with fail
 generalize W.alloc (.cells zc 25) = W0 at h0 hb0 g0 hz0 ⊢
 obtain ⟨b, hbb⟩ : ∃ b, W.heap.size = b := ⟨_, rfl⟩
 have hbp : pb < b := by omega
 rw [hbb] at hb0 hz0 ⊢
 refine (hk0 _ h0).mono ?_
 rintro e w1 ⟨rfl, g1⟩
 have h1 := h0.g0 g1
 have hb1 := g1.keep hb0 (fun e => e)
 have hs1 := g1.size
 have hbl := h1.lt
 go_wp2_with fail
 have G2 := Gr.alloc w1 (.cells #[.int .i64 t.k, .string t.s, .int .i64 t.n, .slice va vn vc, .int .i64 t.o] 81) (fun _ => False)
 generalize w1.alloc (.cells #[.int .i64 t.k, .string t.s, .int .i64 t.n, .slice va vn vc, .int .i64 t.o] 81) = w2 at G2 ⊢
 have hs2 := G2.size
 refine ((nest_c d ex un hsub).2 w2 pb p (h1.g0 G2) hd).mono ?_
 rintro e w4 ⟨v, rfl, rep4, h4, ⟨hd4, hi4⟩, g4⟩
 obtain ⟨tk, tt, tn, a1, n1, c1, a2, n2, c2, rfl⟩ := rep4.agg
 have hbN := g4.keep (G2.keep hb1 (fun e => e)) (by omega)
 obtain ⟨⟨m0, m1, m2, m3, m4⟩, f0, f1, f2, f3, f4⟩ := five_cells hbN
 have hbl2 := h4.lt
 go_wp2_with fail
 have gN : Gr (fun k => k = pb) W w4 := ((g0.any _).trans (g1.any _)).trans ((G2.any _).trans g4)
 have rep := rep4.mono (base' := b + 1) (by omega)
 have hN := h4
 obtain ⟨hf, r1, r2, r3⟩ := fin_tree hbN rep hN hbp gN hbb
 clear m0 m1 m2 m3 m4
 obtain ⟨⟨m0, m1, m2, m3, m4⟩, _⟩ := five_cells hf
 exact bodyPost_ret (v := trv tk tt tn (.slice a1 n1 c1) (.slice a2 n2 c2)) (by simp [results, Tryz.results146, go_sem, m0, m1, m2, m3, m4]) rfl ⟨_, rfl, r1, r2, ⟨hd4, hi4⟩, r3⟩
theorem prim_c (d : Nat) (ex un : Rule) (hsub : Sub x d ex un) : RuleOk x 146 d (primV x.ts ex un) := by
 refine ⟨ent_of Tryz.func146 (by kernel_rfl) rfl, fun W pb p h hd => ?_⟩
 rw [primV]
 by_cases k1 : (pkT x.ts p).k = 1
 · rw [if_pos k1]; exact prim_int h k1
 rw [if_neg k1]
 by_cases k4 : (pkT x.ts p).k = 4
 · rw [if_pos k4]; exact prim_bytes h k4
 rw [if_neg k4]
 by_cases k3 : (pkT x.ts p).k = 3
 · rw [if_pos k3]; exact prim_var d ex un hsub h hd (by simpa using k1) (by simpa using k4) (by simpa using k3)
 rw [if_neg k3]
 by_cases k2 : (pkT x.ts p).k = 2
 · rw [if_pos k2]; exact prim_atom d ex un hsub h hd (by simpa using k1) (by simpa using k4) (by simpa using k3) (by simpa using k2)
 rw [if_neg k2]
 exact prim_nest d ex un hsub h hd (by simpa using k1) (by simpa using k4) (by simpa using k3) (by simpa using k2)

def unaryV (ts : List Tn) (ex un : Rule) (p : Ps) : Tr × Ps := if isV ts p mns = true then (.mk 7 e0 0 [] [(deeperV un p).1], (deeperV un p).2) else primV ts ex un p
set_option maxRecDepth 100000 in
set_option maxHeartbeats 1600000 in
theorem unary_neg (d : Nat) (ex un : Rule) (hsub : Sub x d ex un) (h : Pz x W pb p) (hd : p.d = d) (q0 : isV x.ts p mns = true) : Calls Tryz.prog 141 #[pt pb] W fun e w' => EndR x W pb p e w' (.mk 7 e0 0 [] [(deeperV un p).1], (deeperV un p).2) := by
 obtain ⟨hlc, he, hl⟩ := isV_lt q0
 have hb := h.lt
 have h0 := h.g0 (Gr.alloc W (.cells zc 25) _)
 have hb0 := heap_alloc_new W (.cells zc 25)
 have g0 : Gr (fun _ => False) W (W.alloc (.cells zc 25)) := Gr.alloc _ _ _
 have hz0 : (W.alloc (.cells zc 25)).heap.size = W.heap.size + 1 := by simp
 go_enter Tryz.func141, Tryz.ntmps141
 go_wp2_with fail
 generalize W.alloc (.cells zc 25) = W0 at h0 hb0 g0 hz0 ⊢
 obtain ⟨b, hbb⟩ : ∃ b, W.heap.size = b := ⟨_, rfl⟩
 have hbp : pb < b := by omega
 rw [hbb] at hb0 hz0 ⊢
 have hk := is_c h0 mns
 rw [q0] at hk
 refine hk.mono ?_
 rintro e w1 ⟨rfl, g1⟩
 have h1 := h0.g0 g1
 have hs1 := g1.size
 have hdp := deeper_c (pb := pb) (p := p) 141 un (ent_of Tryz.func141 (by kernel_rfl) rfl) h1 he hl (fun W' hP hG => by
  have hd2 : p.d + 1 ≤ 40 := hP.hd
  exact (hsub (by omega)).2.2 W' pb p.deep hP (by show p.d + 1 = d + 1; omega))
 go_wp2_with fail
 refine hdp.mono ?_
 rintro e w2 ⟨v, rfl, rep2, h2, ⟨hd2, hi2⟩, g2⟩
 obtain ⟨tk, tt, tn, a1, n1, c1, a2, n2, c2, rfl⟩ := rep2.agg
 have hs2 := g2.size
 have hbl := h2.lt
 have L3 := Lr.lit1 (rep2.mono (base' := b + 1) (by omega)) (by omega)
 have G3 := Gr.alloc w2 (.cells #[.int .i64 tk, .string tt, .int .i64 tn, .slice a1 n1 c1, .slice a2 n2 c2] 25) (fun _ => False)
 go_wp2_with fail
 generalize w2.alloc _ = w3 at L3 G3 ⊢
 refine (node_c w3 7 e0 _ 1 1).mono ?_
 rintro e w4 ⟨rfl, g4⟩
 have hbN := g4.keep (G3.keep (g2.keep (g1.keep hb0 (fun e => e)) (by omega)) (fun e => e)) (fun e => e)
 obtain ⟨⟨m0, m1, m2, m3, m4⟩, f0, f1, f2, f3, f4⟩ := five_cells hbN
 go_wp2_with fail
 have gN : Gr (fun k => k = pb) W w4 := ((((g0.any _).trans (g1.any _)).trans g2).trans (G3.any _)).trans (g4.any _)
 have rep := (L3.g0 g4).tree 7 e0
 have hN := (h2.g0 G3).g0 g4
 obtain ⟨hf, r1, r2, r3⟩ := fin_tree hbN rep hN hbp gN hbb
 clear m0 m1 m2 m3 m4
 obtain ⟨⟨m0, m1, m2, m3, m4⟩, _⟩ := five_cells hf
 exact bodyPost_ret (v := trv 7 e0 0 nl (.slice (some ⟨w2.heap.size, 0, none⟩) 1 1)) (by simp [results, Tryz.results141, go_sem, m0, m1, m2, m3, m4]) rfl ⟨_, rfl, r1, r2, ⟨hd2, hi2⟩, r3⟩
set_option maxRecDepth 100000 in
set_option maxHeartbeats 1600000 in
theorem unary_prim (d : Nat) (ex un : Rule) (hsub : Sub x d ex un) (h : Pz x W pb p) (hd : p.d = d) (q0 : isV x.ts p mns = false) : Calls Tryz.prog 141 #[pt pb] W fun e w' => EndR x W pb p e w' (primV x.ts ex un p) := by
 have hb := h.lt
 have h0 := h.g0 (Gr.alloc W (.cells zc 25) _)
 have hb0 := heap_alloc_new W (.cells zc 25)
 have g0 : Gr (fun _ => False) W (W.alloc (.cells zc 25)) := Gr.alloc _ _ _
 have hz0 : (W.alloc (.cells zc 25)).heap.size = W.heap.size + 1 := by simp
 go_enter Tryz.func141, Tryz.ntmps141
 go_wp2_with fail
 generalize W.alloc (.cells zc 25) = W0 at h0 hb0 g0 hz0 ⊢
 obtain ⟨b, hbb⟩ : ∃ b, W.heap.size = b := ⟨_, rfl⟩
 have hbp : pb < b := by omega
 rw [hbb] at hb0 hz0 ⊢
 have hk := is_c h0 mns
 rw [q0] at hk
 refine hk.mono ?_
 rintro e w1 ⟨rfl, g1⟩
 have h1 := h0.g0 g1
 have hs1 := g1.size
 go_wp2_with fail
 refine ((prim_c d ex un hsub).2 w1 pb p h1 hd).mono ?_
 rintro e w2 ⟨v, rfl, rep2, h2, ⟨hd2, hi2⟩, g2⟩
 obtain ⟨tk, tt, tn, a1, n1, c1, a2, n2, c2, rfl⟩ := rep2.agg
 have hbl := h2.lt
 have hbN := g2.keep (g1.keep hb0 (fun e => e)) (by omega)
 obtain ⟨⟨m0, m1, m2, m3, m4⟩, f0, f1, f2, f3, f4⟩ := five_cells hbN
 go_wp2_with fail
 have gN : Gr (fun k => k = pb) W w2 := ((g0.any _).trans (g1.any _)).trans g2
 have rep := rep2.mono (base' := b + 1) (by omega)
 have hN := h2
 obtain ⟨hf, r1, r2, r3⟩ := fin_tree hbN rep hN hbp gN hbb
 clear m0 m1 m2 m3 m4
 obtain ⟨⟨m0, m1, m2, m3, m4⟩, _⟩ := five_cells hf
 exact bodyPost_ret (v := trv tk tt tn (.slice a1 n1 c1) (.slice a2 n2 c2)) (by simp [results, Tryz.results141, go_sem, m0, m1, m2, m3, m4]) rfl ⟨_, rfl, r1, r2, ⟨hd2, hi2⟩, r3⟩
theorem unary_c (d : Nat) (ex un : Rule) (hsub : Sub x d ex un) : RuleOk x 141 d (unaryV x.ts ex un) := by
 refine ⟨ent_of Tryz.func141 (by kernel_rfl) rfl, fun W pb p h hd => ?_⟩
 rw [unaryV]
 cases q0 : isV x.ts p mns with
 | true => rw [if_pos rfl]; exact unary_neg d ex un hsub h hd q0
 | false => rw [if_neg (by decide)]; exact unary_prim d ex un hsub h hd q0
end Go.Proofs.YtjedbfbolifjjaaGreatDoor
