/-
  A text's tree; the chapter's examples.
-/
import Derived.Test.YtggkjkkbkpnkiaaGreatDoorGN
import Derived.Test.YtggkjkkbkpnkiaaGreatDoorGM
import Derived.Test.YtggkjkkbkpnkiaaGreatDoorJ
set_option linter.unusedVariables false
set_option linter.unusedSimpArgs false
namespace Go.Proofs.YtggkjkkbkpnkiaaGreatDoor
open Go.RowKit Go.Maps
variable {W W' : World}
set_option maxRecDepth 100000 in
set_option maxHeartbeats 1600000 in
theorem text_c (W : World) (s : ByteArray) (hE : Er W) (hS : Sg W) (hL : Lv W) : Calls Tryz.prog 11 #[.string s] W fun e w' => EndP W e w' (textV s) := by
  have h4 : 4 < W.heap.size := by obtain ⟨_, t, f, h⟩ := hL; exact (Array.getElem?_eq_some_iff.1 h).1
  have g0 : Gr (fun _ => False) W (W.alloc (.cells zc 30)) := Gr.alloc _ _ _
  have hb0 := heap_alloc_new W (.cells zc 30)
  have hz0 : (W.alloc (.cells zc 30)).heap.size = W.heap.size + 1 := by simp
  have hsc := scan_c (W.alloc (.cells zc 30)) s (hE.gr g0 (fun e => e)) (hS.gr g0 (fun e => e))
  cases hv : scanV s with
  | error p =>
    obtain ⟨i, c⟩ := p
    have hc := scanV_err hv
    have q : (c != 0) = true := by rw [bne_iff_ne]; exact hc
    rw [hv] at hsc
    rw [textV, hv]
    clear hc
    go_enter Tryz.func11, Tryz.ntmps11
    go_wp2_with fail
    generalize W.alloc (.cells zc 30) = W0 at g0 hb0 hz0 hsc ⊢
    obtain ⟨b, hbb⟩ : ∃ b, W.heap.size = b := ⟨_, rfl⟩
    rw [hbb] at hb0 hz0 ⊢
    refine hsc.mono ?_
    rintro e w1 ⟨rfl, g1⟩
    have hb1 := g1.keep hb0 (fun e => e)
    obtain ⟨⟨m0, m1, m2, m3, m4⟩, f0, f1, f2, f3, f4⟩ := five_cells hb1
    go_wp2_with fail
    have gs := set5_gr w1 b (.int .i64 0) (.string e0) (.int .i64 0) nl nl
    have hf := set5_heap hb1 (.int .i64 0) (.string e0) (.int .i64 0) nl nl
    clear m0 m1 m2 m3 m4
    obtain ⟨⟨m0, m1, m2, m3, m4⟩, _⟩ := five_cells hf
    exact bodyPost_ret (v := .tuple #[tr0v, .int .i64 0, .int .i64 c]) (by simp [results, Tryz.results11, go_sem, m0, m1, m2, m3, m4]) rfl ⟨rfl, (g0.trans g1).trans' gs (fun k hk e => by omega)⟩
  | ok l =>
    rw [hv] at hsc
    rw [textV, hv]
    show Calls Tryz.prog 11 #[.string s] W fun e w' => EndP W e w' (parseV (l.map tnOf))
    have hp := fun w base vs a c h1 h2 h3 => parseT_c w base s l vs a c hv h1 h2 h3
    generalize parseV (l.map tnOf) = r at hp
    go_enter Tryz.func11, Tryz.ntmps11
    go_wp2_with fail
    generalize W.alloc (.cells zc 30) = W0 at g0 hb0 hz0 hsc ⊢
    obtain ⟨b, hbb⟩ : ∃ b, W.heap.size = b := ⟨_, rfl⟩
    rw [hbb] at hb0 hz0 ⊢
    refine hsc.mono ?_
    rintro e w1 ⟨sv, vs, rfl, hT, g1⟩
    have hb1 := g1.keep hb0 (fun e => e)
    obtain ⟨a, c, rfl⟩ := hT.sv
    have G1 := g0.trans g1
    have hcl := hp w1 _ vs a c hT (hL.gr G1 (fun e => e) (fun e => e)) (Nat.lt_of_lt_of_le h4 G1.size)
    go_wp2_with fail
    have hs1 := G1.size
    cases r with
    | error p =>
      obtain ⟨i, c'⟩ := p
      refine hcl.mono ?_
      rintro e w2 ⟨rfl, g2⟩
      have hb2 := g2.keep hb1 (fun e => e)
      obtain ⟨⟨m0, m1, m2, m3, m4⟩, f0, f1, f2, f3, f4⟩ := five_cells hb2
      go_wp2_with fail
      have gs := set5_gr w2 b (.int .i64 0) (.string e0) (.int .i64 0) nl nl
      have hf := set5_heap hb2 (.int .i64 0) (.string e0) (.int .i64 0) nl nl
      clear m0 m1 m2 m3 m4
      obtain ⟨⟨m0, m1, m2, m3, m4⟩, _⟩ := five_cells hf
      exact bodyPost_ret (v := .tuple #[tr0v, .int .i64 (i : Int), .int .i64 c']) (by simp [results, Tryz.results11, go_sem, m0, m1, m2, m3, m4]) rfl ⟨rfl, (G1.trans g2).trans' gs (fun k hk e => by omega)⟩
    | ok T =>
      refine hcl.mono ?_
      rintro e w2 ⟨v, rfl, rep2, g2⟩
      obtain ⟨tk, tt, tn, a1, n1, c1, a2, n2, c2, rfl⟩ := rep2.agg
      have hb2 := g2.keep hb1 (fun e => e)
      obtain ⟨⟨m0, m1, m2, m3, m4⟩, f0, f1, f2, f3, f4⟩ := five_cells hb2
      go_wp2_with fail
      have gs := set5_gr w2 b (.int .i64 tk) (.string tt) (.int .i64 tn) (.slice a1 n1 c1) (.slice a2 n2 c2)
      have hf := set5_heap hb2 (.int .i64 tk) (.string tt) (.int .i64 tn) (.slice a1 n1 c1) (.slice a2 n2 c2)
      clear m0 m1 m2 m3 m4
      obtain ⟨⟨m0, m1, m2, m3, m4⟩, _⟩ := five_cells hf
      have hsg := g1.size
      have rep := ((rep2.mono (base' := b + 1) (by omega)).gr gs (fun k hk e => by omega)).mono (base' := W.heap.size) (by omega)
      exact bodyPost_ret (v := .tuple #[trv tk tt tn (.slice a1 n1 c1) (.slice a2 n2 c2), .int .i64 0, .int .i64 0]) (by simp [results, Tryz.results11, go_sem, m0, m1, m2, m3, m4]) rfl ⟨_, rfl, rep, (G1.trans g2).trans' gs (fun k hk e => by omega)⟩
abbrev ax1 : ByteArray := ⟨#[102, 40, 41, 32, 45, 62, 32, 49, 32, 45, 32, 50, 32, 45, 32, 51, 46]⟩
abbrev ax2 : ByteArray := ⟨#[102, 40, 41, 32, 45, 62, 32, 65, 32, 61, 32, 66, 32, 33, 32, 67, 46]⟩
abbrev ax3 : ByteArray := ⟨#[102, 40, 41, 32, 45, 62, 32, 46]⟩
def is1 : Except (Nat × Int) Tr → Bool
  | .ok (.mk _ _ _ _ [.mk _ _ _ _ [.mk _ _ _ _ [.mk k s _ _ [.mk k1 _ _ _ _, .mk _ _ n2 _ _]]]]) => (k == 8) && (s.toList == [45]) && (k1 == 8) && (n2 == 3)
  | _ => false
def is2 : Except (Nat × Int) Tr → Bool
  | .ok (.mk _ _ _ _ [.mk _ _ _ _ [.mk _ _ _ _ [.mk k s _ _ [_, .mk k1 _ _ _ _]]]]) => (k == 9) && (k1 == 10)
  | _ => false
def is3 : Except (Nat × Int) Tr → Bool
  | .error (i, c) => (i == 4) && (c == 160)
  | _ => false
theorem is1_ok : is1 (textV ax1) = true := by decide +kernel
theorem is2_ok : is2 (textV ax2) = true := by decide +kernel
theorem is3_ok : is3 (textV ax3) = true := by decide +kernel
theorem ex1_c (W : World) (hE : Er W) (hS : Sg W) (hL : Lv W) : Calls Tryz.prog 11 #[.string ax1] W fun e w' => ∃ k s n ba bn bc g c, e = .returned (.tuple #[trv k s n (.slice ba bn bc) (.slice (some ⟨g, 0, none⟩) 1 c), .int .i64 0, .int .i64 0]) ∧ M1 w' g ∧ Gr (fun _ => False) W w' := by
  refine (text_c W ax1 hE hS hL).mono ?_
  intro e w' h
  have ho := is1_ok
  generalize textV ax1 = r at h ho
  match r, ho with
  | .ok (.mk k0 s0 n0 q0 [.mk k1 s1 n1 q1 [.mk k2 s2 n2 q2 [.mk k3 s3 n3 q3 [.mk k4 s4 n4 q4 l4, .mk k5 s5 n5 q5 l5]]]]), ho =>
    simp only [is1, Bool.and_eq_true, beq_iff_eq] at ho
    obtain ⟨⟨⟨rfl, hs⟩, rfl⟩, rfl⟩ := ho
    obtain ⟨v, rfl, hr, hg⟩ := h
    obtain ⟨ba, bc, g, c, rfl, _, _, _, hk⟩ := hr.kids (Nat.succ_pos _)
    obtain ⟨v1, r1, e1⟩ := hk 0 _ rfl
    obtain ⟨_, _, g2, c2, rfl, _, _, _, hk1⟩ := Rep.kids r1 (Nat.succ_pos _)
    obtain ⟨v2, r2, e2⟩ := hk1 0 _ rfl
    obtain ⟨_, _, g3, c3, rfl, _, _, _, hk2⟩ := Rep.kids r2 (Nat.succ_pos _)
    obtain ⟨v3, r3, e3⟩ := hk2 0 _ rfl
    obtain ⟨_, _, g4, c4, rfl, _, _, _, hk3⟩ := Rep.kids r3 (Nat.succ_pos _)
    obtain ⟨v4, r4, e4⟩ := hk3 0 _ rfl
    obtain ⟨v5, r5, e5⟩ := hk3 1 _ rfl
    obtain ⟨_, _, _, rfl, _⟩ := r4
    obtain ⟨_, _, _, rfl, _⟩ := r5
    have hs' : s3 = ⟨#[45]⟩ := list_ba hs
    subst hs'
    exact ⟨_, _, _, _, _, _, g, c, rfl, ⟨g2, c2, g3, c3, n3, _, _, _, g4, c4, ⟨e1 4 _ rfl, e2 4 _ rfl⟩, ⟨e3 0 _ rfl, e3 1 _ rfl, e3 2 _ rfl, e3 3 _ rfl, e3 4 _ rfl⟩, e4 0 _ rfl, e5 2 _ rfl⟩, hg⟩
theorem ex2_c (W : World) (hE : Er W) (hS : Sg W) (hL : Lv W) : Calls Tryz.prog 11 #[.string ax2] W fun e w' => ∃ k s n ba bn bc g c, e = .returned (.tuple #[trv k s n (.slice ba bn bc) (.slice (some ⟨g, 0, none⟩) 1 c), .int .i64 0, .int .i64 0]) ∧ M2 w' g ∧ Gr (fun _ => False) W w' := by
  refine (text_c W ax2 hE hS hL).mono ?_
  intro e w' h
  have ho := is2_ok
  generalize textV ax2 = r at h ho
  match r, ho with
  | .ok (.mk k0 s0 n0 q0 [.mk k1 s1 n1 q1 [.mk k2 s2 n2 q2 [.mk k3 s3 n3 q3 [T4, .mk k5 s5 n5 q5 l5]]]]), ho =>
    simp only [is2, Bool.and_eq_true, beq_iff_eq] at ho
    obtain ⟨rfl, rfl⟩ := ho
    obtain ⟨v, rfl, hr, hg⟩ := h
    obtain ⟨ba, bc, g, c, rfl, _, _, _, hk⟩ := hr.kids (Nat.succ_pos _)
    obtain ⟨v1, r1, e1⟩ := hk 0 _ rfl
    obtain ⟨_, _, g2, c2, rfl, _, _, _, hk1⟩ := Rep.kids r1 (Nat.succ_pos _)
    obtain ⟨v2, r2, e2⟩ := hk1 0 _ rfl
    obtain ⟨_, _, g3, c3, rfl, _, _, _, hk2⟩ := Rep.kids r2 (Nat.succ_pos _)
    obtain ⟨v3, r3, e3⟩ := hk2 0 _ rfl
    obtain ⟨_, _, g4, c4, rfl, _, _, _, hk3⟩ := Rep.kids r3 (Nat.succ_pos _)
    obtain ⟨v5, r5, e5⟩ := hk3 1 _ rfl
    obtain ⟨_, _, _, rfl, _⟩ := r5
    exact ⟨_, _, _, _, _, _, g, c, rfl, ⟨g2, c2, g3, c3, _, n3, _, _, _, g4, c4, ⟨e1 4 _ rfl, e2 4 _ rfl⟩, ⟨e3 0 _ rfl, e3 1 _ rfl, e3 2 _ rfl, e3 3 _ rfl, e3 4 _ rfl⟩, e5 0 _ rfl⟩, hg⟩
theorem ex3_c (W : World) (hE : Er W) (hS : Sg W) (hL : Lv W) : Calls Tryz.prog 11 #[.string ax3] W fun e w' => e = .returned (.tuple #[tr0v, .int .i64 4, .int .i64 160]) ∧ Gr (fun _ => False) W w' := by
  refine (text_c W ax3 hE hS hL).mono ?_
  intro e w' h
  have ho := is3_ok
  generalize textV ax3 = r at h ho
  match r, ho with
  | .error (i, c), ho =>
    simp only [is3, Bool.and_eq_true, beq_iff_eq] at ho
    obtain ⟨rfl, rfl⟩ := ho
    exact h
set_option maxRecDepth 100000 in
set_option maxHeartbeats 4000000 in
theorem alive_c (W : World) (hE : Er W) (hS : Sg W) (hL : Lv W) : Calls Tryz.prog 5 #[] W fun e w' => e = .returned (.bool true) ∧ Gr (fun _ => False) W w' := by
  have h1 := ex1_c W hE hS hL
  have h2 := fun w (g : Gr (fun _ => False) W w) => ex2_c w (hE.gr g (fun e => e)) (hS.gr g (fun e => e)) (hL.gr g (fun e => e) (fun e => e))
  have h3 := fun w (g : Gr (fun _ => False) W w) => ex3_c w (hE.gr g (fun e => e)) (hS.gr g (fun e => e)) (hL.gr g (fun e => e) (fun e => e))
  clear hE hS hL
  replace h2 := Lib.hid h2
  replace h3 := Lib.hid h3
  go_enter Tryz.func5, Tryz.ntmps5
  go_wp2_with fail
  refine h1.mono ?_
  rintro e w1 ⟨k1, s1, n1, ba1, bn1, bc1, g1, c1, rfl, m1, gr1⟩
  have G2 : Gr (fun _ => False) w1 (w1.alloc (.cells #[.int .i64 k1, .string s1, .int .i64 n1, .slice ba1 bn1 bc1, .slice (some ⟨g1, 0, none⟩) 1 c1] 30)) := Gr.alloc _ _ _
  have hl2 := heap_alloc_new w1 (.cells #[.int .i64 k1, .string s1, .int .i64 n1, .slice ba1 bn1 bc1, .slice (some ⟨g1, 0, none⟩) 1 c1] 30)
  go_wp2_with fail
  generalize w1.alloc _ = w2 at G2 hl2 ⊢
  obtain ⟨p1, hp1⟩ : ∃ p, w1.heap.size = p := ⟨_, rfl⟩
  rw [hp1] at hl2 ⊢
  refine (h2.out w2 (gr1.trans G2)).mono ?_
  rintro e w3 ⟨k2, s2, n2, ba2, bn2, bc2, g2, c2, rfl, m2, gr3⟩
  have G4 : Gr (fun _ => False) w3 (w3.alloc (.cells #[.int .i64 k2, .string s2, .int .i64 n2, .slice ba2 bn2 bc2, .slice (some ⟨g2, 0, none⟩) 1 c2] 30)) := Gr.alloc _ _ _
  have hl4 := heap_alloc_new w3 (.cells #[.int .i64 k2, .string s2, .int .i64 n2, .slice ba2 bn2 bc2, .slice (some ⟨g2, 0, none⟩) 1 c2] 30)
  go_wp2_with fail
  generalize w3.alloc _ = w4 at G4 hl4 ⊢
  obtain ⟨p2, hp2⟩ : ∃ p, w3.heap.size = p := ⟨_, rfl⟩
  rw [hp2] at hl4 ⊢
  refine (h3.out w4 (((gr1.trans G2).trans gr3).trans G4)).mono ?_
  rintro e w5 ⟨rfl, gr5⟩
  have G5 : Gr (fun _ => False) W w5 := (((gr1.trans G2).trans gr3).trans G4).trans gr5
  obtain ⟨x2, d2, x3, d3, n4, b1, b2, b3, x4, d4, ⟨q1, q2⟩, ⟨q3, q4, q5, q6, q7⟩, q8, q9⟩ := m1.gr (((G2.trans gr3).trans G4).trans gr5)
  obtain ⟨y2, e2, y3, e3, s4, n4', b1', b2', b3', y4, e4, ⟨r1, r2⟩, ⟨r3, r4, r5, r6, r7⟩, r8⟩ := m2.gr (G4.trans gr5)
  obtain ⟨⟨t0, t1, t2, t3, t4⟩, _⟩ := five_cells (((gr3.trans G4).trans gr5).keep hl2 (fun e => e))
  obtain ⟨⟨v0, v1, v2, v3, v4⟩, _⟩ := five_cells (gr5.keep hl4 (fun e => e))
  have z1 : g1 < w5.heap.size := World.block_lt_of_cell? _ _ q1
  have z2 : x2 < w5.heap.size := World.block_lt_of_cell? _ _ q2
  have z3 : x3 < w5.heap.size := World.block_lt_of_cell? _ _ q3
  have z4 : x4 < w5.heap.size := World.block_lt_of_cell? _ _ q8
  have z5 : g2 < w5.heap.size := World.block_lt_of_cell? _ _ r1
  have z6 : y2 < w5.heap.size := World.block_lt_of_cell? _ _ r2
  have z7 : y3 < w5.heap.size := World.block_lt_of_cell? _ _ r3
  have z8 : y4 < w5.heap.size := World.block_lt_of_cell? _ _ r8
  have z9 : p1 < w5.heap.size := World.block_lt_of_cell? _ _ t0
  have z10 : p2 < w5.heap.size := World.block_lt_of_cell? _ _ v0
  have l0a : g1 < w5.heap.size + 1 := by omega
  have l0b : g1 < w5.heap.size + 1 + 1 := by omega
  have l0c : g1 ≠ w5.heap.size := by omega
  have l0d : g1 ≠ w5.heap.size + 1 := by omega
  have l0e : g1 ≠ w5.heap.size + 1 + 1 := by omega
  have l1a : x2 < w5.heap.size + 1 := by omega
  have l1b : x2 < w5.heap.size + 1 + 1 := by omega
  have l1c : x2 ≠ w5.heap.size := by omega
  have l1d : x2 ≠ w5.heap.size + 1 := by omega
  have l1e : x2 ≠ w5.heap.size + 1 + 1 := by omega
  have l2a : x3 < w5.heap.size + 1 := by omega
  have l2b : x3 < w5.heap.size + 1 + 1 := by omega
  have l2c : x3 ≠ w5.heap.size := by omega
  have l2d : x3 ≠ w5.heap.size + 1 := by omega
  have l2e : x3 ≠ w5.heap.size + 1 + 1 := by omega
  have l3a : x4 < w5.heap.size + 1 := by omega
  have l3b : x4 < w5.heap.size + 1 + 1 := by omega
  have l3c : x4 ≠ w5.heap.size := by omega
  have l3d : x4 ≠ w5.heap.size + 1 := by omega
  have l3e : x4 ≠ w5.heap.size + 1 + 1 := by omega
  have l4a : g2 < w5.heap.size + 1 := by omega
  have l4b : g2 < w5.heap.size + 1 + 1 := by omega
  have l4c : g2 ≠ w5.heap.size := by omega
  have l4d : g2 ≠ w5.heap.size + 1 := by omega
  have l4e : g2 ≠ w5.heap.size + 1 + 1 := by omega
  have l5a : y2 < w5.heap.size + 1 := by omega
  have l5b : y2 < w5.heap.size + 1 + 1 := by omega
  have l5c : y2 ≠ w5.heap.size := by omega
  have l5d : y2 ≠ w5.heap.size + 1 := by omega
  have l5e : y2 ≠ w5.heap.size + 1 + 1 := by omega
  have l6a : y3 < w5.heap.size + 1 := by omega
  have l6b : y3 < w5.heap.size + 1 + 1 := by omega
  have l6c : y3 ≠ w5.heap.size := by omega
  have l6d : y3 ≠ w5.heap.size + 1 := by omega
  have l6e : y3 ≠ w5.heap.size + 1 + 1 := by omega
  have l7a : y4 < w5.heap.size + 1 := by omega
  have l7b : y4 < w5.heap.size + 1 + 1 := by omega
  have l7c : y4 ≠ w5.heap.size := by omega
  have l7d : y4 ≠ w5.heap.size + 1 := by omega
  have l7e : y4 ≠ w5.heap.size + 1 + 1 := by omega
  have l8a : p1 < w5.heap.size + 1 := by omega
  have l8b : p1 < w5.heap.size + 1 + 1 := by omega
  have l8c : p1 ≠ w5.heap.size := by omega
  have l8d : p1 ≠ w5.heap.size + 1 := by omega
  have l8e : p1 ≠ w5.heap.size + 1 + 1 := by omega
  have l9a : p2 < w5.heap.size + 1 := by omega
  have l9b : p2 < w5.heap.size + 1 + 1 := by omega
  have l9c : p2 ≠ w5.heap.size := by omega
  have l9d : p2 ≠ w5.heap.size + 1 := by omega
  have l9e : p2 ≠ w5.heap.size + 1 + 1 := by omega
  clear h1 h2 h3 m1 m2 hl2 hl4 G2 G4 gr1 gr3 gr5
  go_wp2_with fail
  go_ret
  refine ⟨rfl, ?_⟩
  first
    | exact ((G5.trans (Gr.alloc _ _ _)).trans (Gr.alloc _ _ _)).trans (Gr.alloc _ _ _)
    | exact (G5.trans (Gr.alloc _ _ _)).trans (Gr.alloc _ _ _)
end Go.Proofs.YtggkjkkbkpnkiaaGreatDoor
