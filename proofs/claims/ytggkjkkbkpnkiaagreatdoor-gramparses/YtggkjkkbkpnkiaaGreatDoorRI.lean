/-
  The reference's unary.
-/
import Derived.Test.YtggkjkkbkpnkiaaGreatDoorRH
set_option linter.unusedVariables false
set_option linter.unusedSimpArgs false
namespace Go.Proofs.YtggkjkkbkpnkiaaGreatDoor
open Go.RowKit Go.Maps
variable {x : Kx} {W W' : World} {p p' : Ps}
/-- What a region that draws reads while it stores: two states and a tree. -/
def RU (x : Kx) (b wb tb : Nat) (q p : Ps) (k : Int) (s : ByteArray) (n : Int) (bv lv : Value) (w : World) : Prop :=
  w.heap[b]? = some (stb x q) ∧ w.heap[wb]? = some (stb x p) ∧ w.heap[tb]? = some (.cells #[.int .i64 k, .string s, .int .i64 n, bv, lv] 30 (0, 0))
theorem RU.gr {S : Nat → Prop} {b wb tb : Nat} {q p : Ps} {k n : Int} {s : ByteArray} {bv lv : Value} (h : RU x b wb tb q p k s n bv lv W) (g : Gr S W W') (h1 : ¬ S b) (h2 : ¬ S wb) (h3 : ¬ S tb) : RU x b wb tb q p k s n bv lv W' :=
  ⟨g.keep h.1 h1, g.keep h.2.1 h2, g.keep h.2.2 h3⟩
theorem node1_rep {A : Nat → Prop} {w8 : World} {T : Tr} {k : Int} {s : ByteArray} {n : Int} {bv lv : Value} (K : Int) (S : ByteArray) (hT : Rep A w8 T (trv k s n bv lv)) (hA : A w8.heap.size) :
    Rep A (w8.alloc (.cells #[.int .i64 k, .string s, .int .i64 n, bv, lv] 30)) (.mk K S 0 [] [T]) (trv K S 0 nl (.slice (some ⟨w8.heap.size, 0, none⟩) 1 1)) := by
  have hTn : Turn A A w8 (w8.alloc (.cells #[.int .i64 k, .string s, .int .i64 n, bv, lv] 30)) := fun z hz hl => ⟨hz, heap_alloc_old w8 _ hl⟩
  exact ⟨nl, _, [trv k s n bv lv], rfl, .inl ⟨rfl, _, _, rfl⟩, .inr ⟨w8.heap.size, 1, _, rfl, hA, heap_alloc_new w8 _, Nat.le_refl _, rfl⟩, trv k s n bv lv, [], rfl, hT.turn hTn, rfl⟩
set_option maxRecDepth 100000 in
set_option maxHeartbeats 1600000 in
theorem runary_c (d : Nat) (ex un : Rule) (hp : ROk x 84 d (primV x.ts ex un)) (hun : d < 40 → ROk x 74 (d + 1) un) : ROk x 74 d (unaryV x.ts ex un) := by
  intro W p h hd
  obtain ⟨g0, b0, b1, b2, hz0⟩ := open3 (x := x) W p
  obtain ⟨b, hb⟩ : ∃ b, W.heap.size = b := ⟨_, rfl⟩
  have Hd := Lib.hid hd
  have hbW := Lib.hid hb
  have hNb : Hid (x.N ≤ b) := by have := h.hN; show _ ≤ _; omega
  have R0 := Lib.hid (h.g0 g0)
  have hd40 := Lib.hid h.hd
  have hcall := ris_c (h.g0 g0) mns
  obtain ⟨r, hr⟩ : ∃ r, r = unaryV x.ts ex un p := ⟨_, rfl⟩
  rw [← hr]
  have Hr := Lib.hid hr
  clear hd h hr
  go_enter Tryz.func74, Tryz.ntmps74
  go_wp2_with fail
  generalize ((W.alloc _).alloc _).alloc _ = W1 at g0 b0 b1 b2 hz0 hcall R0 ⊢
  rw [hb] at b0 b1 b2 hz0
  refine hcall.mono ?_
  rintro e w2 ⟨rfl, g2⟩
  have C0 := Lib.hid (g2.keep b0 (fun e => e))
  have C1 := Lib.hid (g2.keep b1 (fun e => e))
  have C2 := Lib.hid (g2.keep b2 (fun e => e))
  have R2 := Lib.hid (R0.out.g0 g2)
  have G2' := Lib.hid (g0.trans g2)
  have hs2 : Hid (b + 3 ≤ w2.heap.size) := by have := g2.size; show _ ≤ _; omega
  obtain ⟨⟨k0, k1, k2, k3⟩, f0, f1, f2, f3⟩ := four_cells C0.out
  have hl2 : b < w2.heap.size := by have := hs2.out; omega
  clear R0 g0 g2 b0 b1 b2 hcall hz0
  cases q0 : isV x.ts p mns with
  | false =>
    have Hq2 : Hid (r = ((primV x.ts ex un p).1, (primV x.ts ex un p).2)) := by show r = _; rw [Hr.out, unaryV, if_neg (by simp [q0])]
    have hcall := Lib.hid (hp w2 p R2.out Hd.out)
    clear q0 Hr
    go_wp2_with fail
    refine hcall.out.mono ?_
    rintro e w3 ⟨tk, tt, tn, a1, n1, c1, a2, n2, c2, rfl, rep3, hi3, g3⟩
    generalize (primV x.ts ex un p).2 = q at Hq2 rep3 hi3 ⊢
    generalize (primV x.ts ex un p).1 = T at Hq2 rep3 ⊢
    have D1 := g3.keep C1.out (fun e => e)
    have D2 := g3.keep C2.out (fun e => e)
    have Hi3 := Lib.hid hi3
    obtain ⟨E1, E2, E3, E4⟩ := end3 (x := x) (q := q) (T := T) (k := tk) (s := tt) (n := tn) (bv := .slice a1 n1 c1) (lv := .slice a2 n2 c2) (G2'.out.trans g3) hbW.out D1 D2 (fun he => (rep3 he).turn (fun z hz hl => ⟨by have h9 : w2.heap.size ≤ z := hz; have := hs2.out; show b + 3 ≤ z; omega, rfl⟩))
    obtain ⟨wF, hwF⟩ : ∃ wF, set5 (set4 w3 (b + 1) (.slice x.a x.ts.length x.c) (.int .i64 (q.i : Int)) (.int .i64 (q.d : Int)) (.int .i64 q.e)) (b + 2) (.int .i64 tk) (.string tt) (.int .i64 tn) (.slice a1 n1 c1) (.slice a2 n2 c2) = wF := ⟨_, rfl⟩
    rw [hwF] at E1 E2 E3 E4
    replace E1 := Lib.hid E1
    replace E2 := Lib.hid E2
    replace E3 := Lib.hid E3
    replace E4 := Lib.hid E4
    replace hwF := Lib.hid hwF
    obtain ⟨⟨y0, y1, y2, y3⟩, v0, v1, v2, v3⟩ := four_cells D1
    obtain ⟨⟨m0, m1, m2, m3, m4⟩, o0, o1, o2, o3, o4⟩ := five_cells D2
    have hlz : b + 2 < w3.heap.size := (Array.getElem?_eq_some_iff.1 D2).1
    have hlz' : b + 1 < w3.heap.size := by omega
    clear k0 k1 k2 k3 f0 f1 f2 f3 rep3 hi3 D1 D2 g3 hcall C0 C1 C2 R2 G2'
    go_wp2_with fail
    rw [Hq2.out]
    rw [show ((((((((w3.setCell ⟨b + 1, 0, none⟩ (.slice x.a x.ts.length x.c)).setCell ⟨b + 1, 1, none⟩ (.int .i64 (q.i : Int))).setCell ⟨b + 1, 2, none⟩ (.int .i64 (q.d : Int))).setCell ⟨b + 1, 3, none⟩ (.int .i64 q.e)).setCell ⟨b + 1 + 1, 0, none⟩ (.int .i64 tk)).setCell ⟨b + 1 + 1, 1, none⟩ (.string tt)).setCell ⟨b + 1 + 1, 2, none⟩ (.int .i64 tn)).setCell ⟨b + 1 + 1, 3, none⟩ (.slice a1 n1 c1)).setCell ⟨b + 1 + 1, 4, none⟩ (.slice a2 n2 c2) = wF from hwF.out]
    clear y0 y1 y2 y3 v0 v1 v2 v3 m0 m1 m2 m3 m4 o0 o1 o2 o3 o4
    have E1' := E1.out
    have E2' : wF.heap[b + 1 + 1]? = some (.cells #[.int .i64 tk, .string tt, .int .i64 tn, .slice a1 n1 c1, .slice a2 n2 c2] 30 (0, 0)) := E2.out
    obtain ⟨⟨t0, t1, t2, t3⟩, _⟩ := four_cells E1'
    obtain ⟨⟨s0, s1, s2, s3, s4⟩, _⟩ := five_cells E2'
    refine bodyPost_ret (v := .tuple #[stv x q, trv (tk) (tt) (tn) (.slice a1 n1 c1) (.slice a2 n2 c2)]) (by simp [results, Tryz.results74, go_sem, t0, t1, t2, t3, s0, s1, s2, s3, s4]) rfl ⟨tk, tt, tn, a1, n1, c1, a2, n2, c2, rfl, E3.out, Hi3.out, E4.out⟩
  | true =>
    have hlt := Lib.hid (isV_lt' q0)
    have ga : Hid (Gr (fun _ => False) w2 (w2.alloc (stb x p))) := Gr.alloc w2 (stb x p) (fun _ => False)
    have R3 := Lib.hid (R2.out.g0 ga.out)
    have hnew := Lib.hid (heap_alloc_new w2 (stb x p))
    have hcall3 := Lib.hid (rsink_c R3.out)
    obtain ⟨q, hq⟩ : ∃ q, q = sinkV p := ⟨_, rfl⟩
    rw [← hq] at hcall3
    by_cases h40 : p.d = 40
    · have hs : q = failV 161 p := by rw [hq, sinkV, if_pos hlt.out.1, if_pos h40]
      have Hq2 : Hid (r = (.mk 7 e0 0 [] [tr0], q)) := by show r = _; rw [Hr.out, unaryV, if_pos q0, deeperV, if_pos h40, hs]
      have hqe : Hid (q.e = 161) := by show _ = _; rw [hs]; simp [failV, hlt.out.1]
      have hqb : (q.e == 0) = false := by rw [hqe.out]; rfl
      have hqF : Hid (q.d = p.d ∧ p.i ≤ q.i ∧ q.i ≤ x.ts.length) := by
        have := failV_same 161 p
        have h3 := hlt.out.2
        rw [hs]
        exact ⟨this.2, by omega, by omega⟩
      clear q0 Hr h40 hs hq
      go_wp2_with fail
      refine hcall3.out.mono ?_
      rintro e w4 ⟨rfl, g4⟩
      have D0 := g4.keep (ga.out.keep C0.out (fun e => e)) (fun e => e)
      have D1 := Lib.hid (g4.keep (ga.out.keep C1.out (fun e => e)) (fun e => e))
      have D2 := Lib.hid (g4.keep (ga.out.keep C2.out (fun e => e)) (fun e => e))
      have DW := Lib.hid (g4.keep hnew.out (fun e => e))
      have G4 := Lib.hid ((G2'.out.trans ga.out).trans g4)
      have R4 := Lib.hid (R3.out.g0 g4)
      obtain ⟨⟨z0, z1, z2, z3⟩, w0', w1', w2', w3'⟩ := four_cells D0
      have hl4 : b < w4.heap.size := (Array.getElem?_eq_some_iff.1 D0).1
      have hw4 : Hid (w2.heap.size < w4.heap.size) := (Array.getElem?_eq_some_iff.1 DW.out).1
      replace D0 := Lib.hid D0
      clear C0 C1 C2 R2 R3 G2' hnew ga g4 hcall3 k0 k1 k2 k3 f0 f1 f2 f3
      obtain ⟨wX, hwX⟩ : ∃ wX, set4 w4 b (.slice x.a x.ts.length x.c) (.int .i64 (q.i : Int)) (.int .i64 (q.d : Int)) (.int .i64 q.e) = wX := ⟨_, rfl⟩
      have gx : Gr (fun k => k = b) w4 wX := by rw [← hwX]; exact set4_gr _ _ _ _ _ _
      have DX1 := gx.keep D1.out (by omega)
      have DX2 := gx.keep D2.out (by omega)
      have GX := G4.out.trans' gx (fun k hk e => by have := hbW.out; omega)
      obtain ⟨E1, E2, E3, E4⟩ := end3 (x := x) (q := q) (T := (.mk 7 e0 0 [] [tr0])) (k := 0) (s := e0) (n := 0) (bv := nl) (lv := nl) (GX) hbW.out DX1 DX2 (fun he => absurd (he.symm.trans hqe.out) (by decide))
      obtain ⟨wF, hwF⟩ : ∃ wF, set5 (set4 wX (b + 1) (.slice x.a x.ts.length x.c) (.int .i64 (q.i : Int)) (.int .i64 (q.d : Int)) (.int .i64 q.e)) (b + 2) (.int .i64 0) (.string e0) (.int .i64 0) (nl) (nl) = wF := ⟨_, rfl⟩
      rw [hwF] at E1 E2 E3 E4
      replace E1 := Lib.hid E1
      replace E2 := Lib.hid E2
      replace E3 := Lib.hid E3
      replace E4 := Lib.hid E4
      replace hwF := Lib.hid hwF
      obtain ⟨⟨y0, y1, y2, y3⟩, v0, v1, v2, v3⟩ := four_cells DX1
      obtain ⟨⟨m0, m1, m2, m3, m4⟩, o0, o1, o2, o3, o4⟩ := five_cells DX2
      have hlz : b + 2 < wX.heap.size := (Array.getElem?_eq_some_iff.1 DX2).1
      have hlz' : b + 1 < wX.heap.size := by omega
      clear DX1 DX2 GX gx
      clear y0 y1 y2 y3 v0 v1 v2 v3 m0 m1 m2 m3 m4 o0 o1 o2 o3 o4 hlz hlz'
      obtain ⟨⟨y0, y1, y2, y3⟩, v0, v1, v2, v3⟩ := four_cells D1.out
      obtain ⟨⟨m0, m1, m2, m3, m4⟩, o0, o1, o2, o3, o4⟩ := five_cells D2.out
      have hlz : b + 2 < w4.heap.size := (Array.getElem?_eq_some_iff.1 D2.out).1
      have hlz' : b + 1 < w4.heap.size := by omega
      replace hwX := Lib.hid hwX
      go_wp2_with fail
      rw [Hq2.out]
      rw [show (((w4.setCell ⟨b, 0, none⟩ (.slice x.a x.ts.length x.c)).setCell ⟨b, 1, none⟩ (.int .i64 (q.i : Int))).setCell ⟨b, 2, none⟩ (.int .i64 (q.d : Int))).setCell ⟨b, 3, none⟩ (.int .i64 q.e) = wX from hwX.out]
      rw [show ((((((((wX.setCell ⟨b + 1, 0, none⟩ (.slice x.a x.ts.length x.c)).setCell ⟨b + 1, 1, none⟩ (.int .i64 (q.i : Int))).setCell ⟨b + 1, 2, none⟩ (.int .i64 (q.d : Int))).setCell ⟨b + 1, 3, none⟩ (.int .i64 q.e)).setCell ⟨b + 1 + 1, 0, none⟩ (.int .i64 0)).setCell ⟨b + 1 + 1, 1, none⟩ (.string e0)).setCell ⟨b + 1 + 1, 2, none⟩ (.int .i64 0)).setCell ⟨b + 1 + 1, 3, none⟩ (nl)).setCell ⟨b + 1 + 1, 4, none⟩ (nl) = wF from hwF.out]
      clear y0 y1 y2 y3 v0 v1 v2 v3 m0 m1 m2 m3 m4 o0 o1 o2 o3 o4
      have E1' := E1.out
      have E2' : wF.heap[b + 1 + 1]? = some (.cells #[.int .i64 0, .string e0, .int .i64 0, nl, nl] 30 (0, 0)) := E2.out
      obtain ⟨⟨t0, t1, t2, t3⟩, _⟩ := four_cells E1'
      obtain ⟨⟨s0, s1, s2, s3, s4⟩, _⟩ := five_cells E2'
      refine bodyPost_ret (v := .tuple #[stv x q, trv (0) (e0) (0) (nl) (nl)]) (by simp [results, Tryz.results74, go_sem, t0, t1, t2, t3, s0, s1, s2, s3, s4]) rfl ⟨0, e0, 0, none, 0, 0, none, 0, 0, rfl, E3.out, hqF.out, E4.out⟩
    · have hs : q = p.deep := by rw [hq, sinkV, if_pos hlt.out.1, if_neg h40]
      have Hq2 : Hid (r = (.mk 7 e0 0 [] [(un q).1], (un q).2.back p.d)) := by show r = _; rw [Hr.out, unaryV, if_pos q0, deeperV, if_neg h40, hs]
      have hqe : Hid (q.e = 0) := by show _ = _; rw [hs]; exact hlt.out.1
      have hqb : (q.e == 0) = true := by rw [hqe.out]; rfl
      have hqs : Hid (q.d = p.d + 1 ∧ q.i = p.i + 1) := by rw [hs]; exact ⟨rfl, rfl⟩
      have hun' := Lib.hid (hun (by have := hd40.out; have := Hd.out; omega))
      have hd4 : Hid (p.d < 40) := by have := hd40.out; show _ < _; omega
      clear q0 Hr h40 hs hq
      go_wp2_with fail
      refine hcall3.out.mono ?_
      rintro e w4 ⟨rfl, g4⟩
      have D0 := g4.keep (ga.out.keep C0.out (fun e => e)) (fun e => e)
      have D1 := Lib.hid (g4.keep (ga.out.keep C1.out (fun e => e)) (fun e => e))
      have D2 := Lib.hid (g4.keep (ga.out.keep C2.out (fun e => e)) (fun e => e))
      have DW := Lib.hid (g4.keep hnew.out (fun e => e))
      have G4 := Lib.hid ((G2'.out.trans ga.out).trans g4)
      have R4 := Lib.hid (R3.out.g0 g4)
      obtain ⟨⟨z0, z1, z2, z3⟩, w0', w1', w2', w3'⟩ := four_cells D0
      have hl4 : b < w4.heap.size := (Array.getElem?_eq_some_iff.1 D0).1
      have hw4 : Hid (w2.heap.size < w4.heap.size) := (Array.getElem?_eq_some_iff.1 DW.out).1
      replace D0 := Lib.hid D0
      clear C0 C1 C2 R2 R3 G2' hnew ga g4 hcall3 k0 k1 k2 k3 f0 f1 f2 f3
      have gs : Gr (fun k => k = b) w4 ((((w4.setCell ⟨b, 0, none⟩ (.slice x.a x.ts.length x.c)).setCell ⟨b, 1, none⟩ (.int .i64 (q.i : Int))).setCell ⟨b, 2, none⟩ (.int .i64 (q.d : Int))).setCell ⟨b, 3, none⟩ (.int .i64 q.e)) := set4_gr w4 b (.slice x.a x.ts.length x.c) (.int .i64 (q.i : Int)) (.int .i64 (q.d : Int)) (.int .i64 q.e)
      have F0 : Hid (((((w4.setCell ⟨b, 0, none⟩ (.slice x.a x.ts.length x.c)).setCell ⟨b, 1, none⟩ (.int .i64 (q.i : Int))).setCell ⟨b, 2, none⟩ (.int .i64 (q.d : Int))).setCell ⟨b, 3, none⟩ (.int .i64 q.e)).heap[b]? = some (stb x q)) := set4_heap D0.out (.slice x.a x.ts.length x.c) (.int .i64 (q.i : Int)) (.int .i64 (q.d : Int)) (.int .i64 q.e)
      have F1 := Lib.hid (gs.keep D1.out (by omega))
      have F2 := Lib.hid (gs.keep D2.out (by omega))
      have FW := Lib.hid (gs.keep DW.out (by have := hs2.out; omega))
      have G5 := Lib.hid (G4.out.trans' gs (fun k hk e => by have := hbW.out; omega))
      have R5 := Lib.hid (Rz.to (p' := q) (R4.out.gr gs (fun k hk e => by have := hNb.out; omega)) (by have := hqs.out; have := hlt.out; omega) (by have := hqs.out; have := hd4.out; omega))
      have hcall5 := Lib.hid (hun'.out _ q R5.out (by have := hqs.out; have := Hd.out; omega))
      have hl5 := Lib.hid gs.size
      clear gs D0 D1 D2 DW G4 R4
      go_wp2_with fail
      generalize (((w4.setCell ⟨b, 0, none⟩ (.slice x.a x.ts.length x.c)).setCell ⟨b, 1, none⟩ (.int .i64 (q.i : Int))).setCell ⟨b, 2, none⟩ (.int .i64 (q.d : Int))).setCell ⟨b, 3, none⟩ (.int .i64 q.e) = w6 at F0 F1 F2 FW G5 R5 hcall5 hl5 ⊢
      refine hcall5.out.mono ?_
      rintro e w7 ⟨tk, tt, tn, a1, n1, c1, a2, n2, c2, rfl, rep7, hi7, g7⟩
      generalize (un q).2 = q' at Hq2 rep7 hi7 ⊢
      generalize (un q).1 = T at Hq2 rep7 ⊢
      have H0 := Lib.hid (g7.keep F0.out (fun e => e))
      have H1 := Lib.hid (g7.keep F1.out (fun e => e))
      have H2 := Lib.hid (g7.keep F2.out (fun e => e))
      have HW := Lib.hid (g7.keep FW.out (fun e => e))
      have G7 := Lib.hid (G5.out.trans g7)
      obtain ⟨wb, hwb⟩ : ∃ wb, w2.heap.size = wb := ⟨_, rfl⟩
      have Hi7 := Lib.hid hi7
      have hs7 : b + 3 ≤ w7.heap.size := by have := hs2.out; have := hw4.out; have := hl5.out; have := g7.size; omega
      have hwb7 : Hid (b + 3 ≤ wb) := by have := hs2.out; show _ ≤ _; omega
      rw [hwb] at HW ⊢
      have U7 : Hid (q'.e = 0 → Rep (fun z => b + 3 ≤ z) w7 T (trv tk tt tn (.slice a1 n1 c1) (.slice a2 n2 c2))) := fun he => (rep7 he).turn (fun z hz hl => ⟨by have h9 : w6.heap.size ≤ z := hz; have := hs2.out; have := hw4.out; have := hl5.out; show b + 3 ≤ z; omega, rfl⟩)
      obtain ⟨⟨x0, x1, x2, x3⟩, v0, v1, v2, v3⟩ := four_cells H0.out
      have hl7 : b < w7.heap.size := by omega
      clear F0 F1 F2 FW G5 R5 hcall5 rep7 hi7 g7 hl5
      go_wp2_with fail
      generalize hX : World.alloc (set4 w7 b (.slice x.a x.ts.length x.c) (.int .i64 (q'.i : Int)) (.int .i64 (q'.d : Int)) (.int .i64 q'.e)) _ = X
      obtain ⟨gX, X0, XC, XT⟩ := chain_y (x := x) (T := T) hs7 H0.out U7.out hX
      obtain ⟨tb, htb⟩ : ∃ tb, w7.heap.size = tb := ⟨_, rfl⟩
      clear hX x0 x1 x2 x3 v0 v1 v2 v3
      have XW := gX.keep HW.out (by have := hwb7.out; omega)
      have X1 := gX.keep H1.out (by omega)
      have X2 := gX.keep H2.out (by omega)
      have GX := G7.out.trans' gX (fun k hk e => by have := hbW.out; omega)
      rw [htb] at XC XT ⊢
      obtain ⟨qz, hqz⟩ : ∃ qz, qz = q'.back p.d := ⟨_, rfl⟩
      have hrise : ∀ w, Calls Tryz.prog 53 #[stv x q', stv x p] w fun e w' => e = .returned (stv x qz) ∧ Gr (fun _ => False) w w' := fun w => by rw [hqz]; exact rrise_c w q' p
      have hze : Hid (qz.e = q'.e) := by show _ = _; rw [hqz]; rfl
      have hqF : Hid (qz.d = p.d ∧ p.i ≤ qz.i ∧ qz.i ≤ x.ts.length) := by
        have h6 : q.i ≤ q'.i := Hi7.out.2.1
        have h7 := hqs.out
        have h8 := Hi7.out.2.2
        rw [hqz]
        exact ⟨rfl, by show p.i ≤ q'.i; omega, h8⟩
      rw [← hqz] at Hq2
      have hord : Hid (b + 3 ≤ wb ∧ b + 3 ≤ tb) := ⟨hwb7.out, by omega⟩
      clear hqz
      refine wp_region_L (T := RU x b wb tb q' p tk tt tn (.slice a1 n1 c1) (.slice a2 n2 c2)) (L := 7) (by kernel_rfl) ?_
      have C1 : Hid (X.drew.heap[b + 1]? = some zs) := X1
      have C2 : Hid (X.drew.heap[b + 2]? = some zt) := X2
      have TS : Hid (RU x b wb tb q' p tk tt tn (.slice a1 n1 c1) (.slice a2 n2 c2) X.drew) := ⟨X0, XW, XC⟩
      have BT : Hid (qz.e = 0 → Rep (fun z => b + 3 ≤ z) X.drew T (trv tk tt tn (.slice a1 n1 c1) (.slice a2 n2 c2))) := fun he => (XT (by rw [← hze.out]; exact he)).turn (fun z hz hl => ⟨hz.1, rfl⟩)
      have Gd := Lib.hid (GX.trans (Gr.drew X _))
      have hbs : Hid (b + 3 ≤ X.drew.heap.size) := by
        have := (Array.getElem?_eq_some_iff.1 XC).1
        have h3 := hord.out
        show b + 3 ≤ X.heap.size
        omega
      clear X0 X1 X2 XW XC XT GX gX
      generalize X.drew = wd at TS C1 C2 BT Gd hbs ⊢
      refine wpAnyL_at (i := 0) (v := (.agg #[.slice x.a x.ts.length x.c, .int .i64 (q'.i : Int), .int .i64 (q'.d : Int), .int .i64 q'.e])) (some 26) rfl rfl (by kernel_rfl) (by kernel_rfl) (by kernel_rfl) (by kernel_rfl) (by decide) (fun _ _ _ h => h) (Or.inl ⟨by rfl, ?_⟩) TS.out ?_
      · intro w hSw
        obtain ⟨hs0, hs1, hs2⟩ := hSw
        obtain ⟨⟨e0', e1, e2, e3⟩, _⟩ := four_cells hs0
        obtain ⟨⟨j0, j1, j2, j3⟩, _⟩ := four_cells hs1
        obtain ⟨⟨a0, a1', a2', a3, a4⟩, _⟩ := five_cells hs2
        have hbl := World.block_lt_of_cell? _ _ e0'
        have hal := World.block_lt_of_cell? _ _ a0
        have hjl := World.block_lt_of_cell? _ _ j0
        go_simp
      try simp only [Act.put, List.setIfInBounds_toArray, List.set_cons_zero, List.set_cons_succ]
      refine wpAnyL_at (i := 1) (v := (.agg #[.slice x.a x.ts.length x.c, .int .i64 (p.i : Int), .int .i64 (p.d : Int), .int .i64 p.e])) (some 27) rfl rfl (by kernel_rfl) (by kernel_rfl) (by kernel_rfl) (by kernel_rfl) (by decide) (fun _ _ _ h => h) (Or.inl ⟨by rfl, ?_⟩) TS.out ?_
      · intro w hSw
        obtain ⟨hs0, hs1, hs2⟩ := hSw
        obtain ⟨⟨e0', e1, e2, e3⟩, _⟩ := four_cells hs0
        obtain ⟨⟨j0, j1, j2, j3⟩, _⟩ := four_cells hs1
        obtain ⟨⟨a0, a1', a2', a3, a4⟩, _⟩ := five_cells hs2
        have hbl := World.block_lt_of_cell? _ _ e0'
        have hal := World.block_lt_of_cell? _ _ a0
        have hjl := World.block_lt_of_cell? _ _ j0
        go_simp
      try simp only [Act.put, List.setIfInBounds_toArray, List.set_cons_zero, List.set_cons_succ]
      refine wpAnyL_at (i := 3) (v := (.agg #[.int .i64 tk, .string tt, .int .i64 tn, .slice a1 n1 c1, .slice a2 n2 c2])) (some 29) rfl rfl (by kernel_rfl) (by kernel_rfl) (by kernel_rfl) (by kernel_rfl) (by decide) (fun _ _ _ h => h) (Or.inl ⟨by rfl, ?_⟩) TS.out ?_
      · intro w hSw
        obtain ⟨hs0, hs1, hs2⟩ := hSw
        obtain ⟨⟨e0', e1, e2, e3⟩, _⟩ := four_cells hs0
        obtain ⟨⟨j0, j1, j2, j3⟩, _⟩ := four_cells hs1
        obtain ⟨⟨a0, a1', a2', a3, a4⟩, _⟩ := five_cells hs2
        have hbl := World.block_lt_of_cell? _ _ e0'
        have hal := World.block_lt_of_cell? _ _ a0
        have hjl := World.block_lt_of_cell? _ _ j0
        go_simp
      try simp only [Act.put, List.setIfInBounds_toArray, List.set_cons_zero, List.set_cons_succ]
      refine wpAnyL_two (i := 2) (j := 4) (by kernel_rfl) rfl rfl (fun K hK => ?_) (fun K hK => ?_)
      · go_simp
        refine (hrise wd).mono ?_
        rintro e w5 ⟨rfl, g5⟩
        have U5 : Hid (RU x b wb tb q' p tk tt tn (.slice a1 n1 c1) (.slice a2 n2 c2) w5) := TS.out.gr g5 (fun e => e) (fun e => e) (fun e => e)
        refine hK.out _ _ (fun _ => U5.out) ?_
        clear hK K
        try simp only [Act.put, List.setIfInBounds_toArray, List.set_cons_zero, List.set_cons_succ]
        have D1 := g5.keep C1.out (fun e => e)
        have D2 := g5.keep C2.out (fun e => e)
        have BT' : qz.e = 0 → Rep (fun z => b + 3 ≤ z) w5 T (trv tk tt tn (.slice a1 n1 c1) (.slice a2 n2 c2)) := fun he => (BT.out he).turn (fun z hz hl => ⟨hz, g5.block z hl (fun e => e)⟩)
        have hb5 : b + 3 ≤ w5.heap.size := by have := g5.size; have := hbs.out; omega
        have hN : qz.e = 0 → Rep (fun z => b + 3 ≤ z) (w5.alloc (.cells #[.int .i64 tk, .string tt, .int .i64 tn, .slice a1 n1 c1, .slice a2 n2 c2] 30)) (.mk 7 e0 0 [] [T]) (trv 7 e0 0 nl (.slice (some ⟨w5.heap.size, 0, none⟩) 1 1)) := fun he => node1_rep 7 e0 (BT' he) (hb5)
        obtain ⟨wF, hwF⟩ : ∃ wF, (set5 (set4 w5 (b + 1) (.slice x.a x.ts.length x.c) (.int .i64 (qz.i : Int)) (.int .i64 (qz.d : Int)) (.int .i64 qz.e)) (b + 2) (.int .i64 7) (.string e0) (.int .i64 0) nl (.slice (some ⟨w5.heap.size, 0, none⟩) 1 1)).alloc (.cells #[.int .i64 tk, .string tt, .int .i64 tn, .slice a1 n1 c1, .slice a2 n2 c2] 30) = wF := ⟨_, rfl⟩
        obtain ⟨E1, E2, E3, E4⟩ := end3n (x := x) (Gd.out.trans g5) hbW.out D1 D2 hN hwF
        replace E1 := Lib.hid E1
        replace E2 := Lib.hid E2
        replace E3 := Lib.hid E3
        replace E4 := Lib.hid E4
        replace hwF := Lib.hid hwF
        obtain ⟨⟨y0, y1, y2, y3⟩, v0, v1, v2, v3⟩ := four_cells D1
        obtain ⟨⟨m0, m1, m2, m3, m4⟩, o0, o1, o2, o3, o4⟩ := five_cells D2
        have hlz : b + 2 < w5.heap.size := (Array.getElem?_eq_some_iff.1 D2).1
        have hlz' : b + 1 < w5.heap.size := by omega
        have U4 : Hid (RU x b wb tb q' p tk tt tn (.slice a1 n1 c1) (.slice a2 n2 c2) (set4 w5 (b + 1) (.slice x.a x.ts.length x.c) (.int .i64 (qz.i : Int)) (.int .i64 (qz.d : Int)) (.int .i64 qz.e))) := by
          have h3 := hord.out
          exact U5.out.gr (set4_gr w5 (b + 1) _ _ _ _) (by omega) (by omega) (by omega)
        have UA : Hid (RU x b wb tb q' p tk tt tn (.slice a1 n1 c1) (.slice a2 n2 c2) (w5.alloc (.cells #[.int .i64 tk, .string tt, .int .i64 tn, .slice a1 n1 c1, .slice a2 n2 c2] 30))) := U5.out.gr (Gr.alloc _ _ (fun _ => False)) (fun e => e) (fun e => e) (fun e => e)
        have U6 : Hid (RU x b wb tb q' p tk tt tn (.slice a1 n1 c1) (.slice a2 n2 c2) ((set4 w5 (b + 1) (.slice x.a x.ts.length x.c) (.int .i64 (qz.i : Int)) (.int .i64 (qz.d : Int)) (.int .i64 qz.e)).alloc (.cells #[.int .i64 tk, .string tt, .int .i64 tn, .slice a1 n1 c1, .slice a2 n2 c2] 30))) := U4.out.gr (Gr.alloc _ _ (fun _ => False)) (fun e => e) (fun e => e) (fun e => e)
        clear D1 D2 BT' hb5 hN g5
        refine wpAnyL_two (i := 4) (j := 6) (by kernel_rfl) rfl rfl (fun K hK => ?_) (fun K hK => ?_)
        · go_simp
          refine hK.out _ _ (fun _ => UA.out) ?_
          clear hK K
          try simp only [Act.put, List.setIfInBounds_toArray, List.set_cons_zero, List.set_cons_succ]
          refine wpAnyL_at (i := 5) (v := (.agg #[.int .i64 7, .string e0, .int .i64 0, nl, (.slice (some ⟨w5.heap.size, 0, none⟩) 1 1)])) (some 31) rfl rfl (by kernel_rfl) (by kernel_rfl) (by kernel_rfl) (by kernel_rfl) (by decide) (fun _ _ _ h => h) (Or.inl ⟨by rfl, ?_⟩) UA.out ?_
          · intro w hSw
            go_simp
          try simp only [Act.put, List.setIfInBounds_toArray, List.set_cons_zero, List.set_cons_succ]
          refine wpAnyL_one (i := 6) (by kernel_rfl) rfl (fun K hK => ?_)
          go_simp
          refine hK.out _ _ (fun _ => U6.out) ?_
          clear hK K
          try simp only [Act.put, List.setIfInBounds_toArray, List.set_cons_zero, List.set_cons_succ]
          refine wpAnyL_one (i := 7) (by kernel_rfl) rfl (fun K hK => ?_)
          go_simp
          refine hK.out _ _ (fun h => absurd rfl h) ?_
          clear hK K
          try simp only [Act.put, List.setIfInBounds_toArray, List.set_cons_zero, List.set_cons_succ]
          refine wpAnyL_done (by kernel_rfl) ?_ _
          refine NoPanic.normal ?_
          go_wp2_with fail
          rw [Hq2.out]
          rw [show (((((((((w5.setCell ⟨b + 1, 0, none⟩ (.slice x.a x.ts.length x.c)).setCell ⟨b + 1, 1, none⟩ (.int .i64 (qz.i : Int))).setCell ⟨b + 1, 2, none⟩ (.int .i64 (qz.d : Int))).setCell ⟨b + 1, 3, none⟩ (.int .i64 qz.e)).setCell ⟨b + 1 + 1, 0, none⟩ (.int .i64 7)).setCell ⟨b + 1 + 1, 1, none⟩ (.string e0)).setCell ⟨b + 1 + 1, 2, none⟩ (.int .i64 0)).setCell ⟨b + 1 + 1, 3, none⟩ (nl)).setCell ⟨b + 1 + 1, 4, none⟩ (.slice (some ⟨w5.heap.size, 0, none⟩) 1 1)).alloc (.cells #[.int .i64 tk, .string tt, .int .i64 tn, .slice a1 n1 c1, .slice a2 n2 c2] 30) = wF from hwF.out]
          clear y0 y1 y2 y3 v0 v1 v2 v3 m0 m1 m2 m3 m4 o0 o1 o2 o3 o4
          have E1' := E1.out
          have E2' : wF.heap[b + 1 + 1]? = some (.cells #[.int .i64 7, .string e0, .int .i64 0, nl, (.slice (some ⟨w5.heap.size, 0, none⟩) 1 1)] 30 (0, 0)) := E2.out
          obtain ⟨⟨t0, t1, t2, t3⟩, _⟩ := four_cells E1'
          obtain ⟨⟨s0, s1, s2, s3, s4⟩, _⟩ := five_cells E2'
          refine bodyPost_ret (v := .tuple #[stv x qz, trv 7 e0 0 nl (.slice (some ⟨w5.heap.size, 0, none⟩) 1 1)]) (by simp [results, Tryz.results74, go_sem, t0, t1, t2, t3, s0, s1, s2, s3, s4]) rfl ⟨7, e0, 0, none, 0, 0, some ⟨w5.heap.size, 0, none⟩, 1, 1, rfl, E3.out, hqF.out, E4.out⟩
        · go_simp
          refine hK.out _ _ (fun _ => U4.out) ?_
          clear hK K
          try simp only [Act.put, List.setIfInBounds_toArray, List.set_cons_zero, List.set_cons_succ]
          refine wpAnyL_one (i := 4) (by kernel_rfl) rfl (fun K hK => ?_)
          go_simp
          refine hK.out _ _ (fun _ => U6.out) ?_
          clear hK K
          try simp only [Act.put, List.setIfInBounds_toArray, List.set_cons_zero, List.set_cons_succ]
          refine wpAnyL_one (i := 5) (by kernel_rfl) rfl (fun K hK => ?_)
          go_simp
          refine hK.out _ _ (fun _ => U6.out) ?_
          clear hK K
          try simp only [Act.put, List.setIfInBounds_toArray, List.set_cons_zero, List.set_cons_succ]
          refine wpAnyL_one (i := 7) (by kernel_rfl) rfl (fun K hK => ?_)
          go_simp
          refine hK.out _ _ (fun h => absurd rfl h) ?_
          clear hK K
          try simp only [Act.put, List.setIfInBounds_toArray, List.set_cons_zero, List.set_cons_succ]
          refine wpAnyL_done (by kernel_rfl) ?_ _
          refine NoPanic.normal ?_
          go_wp2_with fail
          rw [Hq2.out]
          rw [show (((((((((w5.setCell ⟨b + 1, 0, none⟩ (.slice x.a x.ts.length x.c)).setCell ⟨b + 1, 1, none⟩ (.int .i64 (qz.i : Int))).setCell ⟨b + 1, 2, none⟩ (.int .i64 (qz.d : Int))).setCell ⟨b + 1, 3, none⟩ (.int .i64 qz.e)).setCell ⟨b + 1 + 1, 0, none⟩ (.int .i64 7)).setCell ⟨b + 1 + 1, 1, none⟩ (.string e0)).setCell ⟨b + 1 + 1, 2, none⟩ (.int .i64 0)).setCell ⟨b + 1 + 1, 3, none⟩ (nl)).setCell ⟨b + 1 + 1, 4, none⟩ (.slice (some ⟨w5.heap.size, 0, none⟩) 1 1)).alloc (.cells #[.int .i64 tk, .string tt, .int .i64 tn, .slice a1 n1 c1, .slice a2 n2 c2] 30) = wF from hwF.out]
          clear y0 y1 y2 y3 v0 v1 v2 v3 m0 m1 m2 m3 m4 o0 o1 o2 o3 o4
          have E1' := E1.out
          have E2' : wF.heap[b + 1 + 1]? = some (.cells #[.int .i64 7, .string e0, .int .i64 0, nl, (.slice (some ⟨w5.heap.size, 0, none⟩) 1 1)] 30 (0, 0)) := E2.out
          obtain ⟨⟨t0, t1, t2, t3⟩, _⟩ := four_cells E1'
          obtain ⟨⟨s0, s1, s2, s3, s4⟩, _⟩ := five_cells E2'
          refine bodyPost_ret (v := .tuple #[stv x qz, trv 7 e0 0 nl (.slice (some ⟨w5.heap.size, 0, none⟩) 1 1)]) (by simp [results, Tryz.results74, go_sem, t0, t1, t2, t3, s0, s1, s2, s3, s4]) rfl ⟨7, e0, 0, none, 0, 0, some ⟨w5.heap.size, 0, none⟩, 1, 1, rfl, E3.out, hqF.out, E4.out⟩
      · have TA : Hid (RU x b wb tb q' p tk tt tn (.slice a1 n1 c1) (.slice a2 n2 c2) (wd.alloc (.cells #[.int .i64 tk, .string tt, .int .i64 tn, .slice a1 n1 c1, .slice a2 n2 c2] 30))) := TS.out.gr (Gr.alloc _ _ (fun _ => False)) (fun e => e) (fun e => e) (fun e => e)
        go_simp
        refine hK.out _ _ (fun _ => TA.out) ?_
        clear hK K
        try simp only [Act.put, List.setIfInBounds_toArray, List.set_cons_zero, List.set_cons_succ]
        refine wpAnyL_at (i := 5) (v := (.agg #[.int .i64 7, .string e0, .int .i64 0, nl, (.slice (some ⟨wd.heap.size, 0, none⟩) 1 1)])) (some 31) rfl rfl (by kernel_rfl) (by kernel_rfl) (by kernel_rfl) (by kernel_rfl) (by decide) (fun _ _ _ h => h) (Or.inl ⟨by rfl, ?_⟩) TA.out ?_
        · intro w hSw
          go_simp
        try simp only [Act.put, List.setIfInBounds_toArray, List.set_cons_zero, List.set_cons_succ]
        refine wpAnyL_one (i := 2) (by kernel_rfl) rfl (fun K hK => ?_)
        go_simp
        refine (hrise (wd.alloc (.cells #[.int .i64 tk, .string tt, .int .i64 tn, .slice a1 n1 c1, .slice a2 n2 c2] 30))).mono ?_
        rintro e w5 ⟨rfl, g5⟩
        have U5 : Hid (RU x b wb tb q' p tk tt tn (.slice a1 n1 c1) (.slice a2 n2 c2) w5) := TA.out.gr g5 (fun e => e) (fun e => e) (fun e => e)
        refine hK.out _ _ (fun _ => U5.out) ?_
        clear hK K
        try simp only [Act.put, List.setIfInBounds_toArray, List.set_cons_zero, List.set_cons_succ]
        have ga := Gr.alloc wd (.cells #[.int .i64 tk, .string tt, .int .i64 tn, .slice a1 n1 c1, .slice a2 n2 c2] 30) (fun _ => False)
        have D1 := g5.keep (ga.keep C1.out (fun e => e)) (fun e => e)
        have D2 := g5.keep (ga.keep C2.out (fun e => e)) (fun e => e)
        have BT' : qz.e = 0 → Rep (fun z => b + 3 ≤ z) wd T (trv tk tt tn (.slice a1 n1 c1) (.slice a2 n2 c2)) := fun he => (BT.out he).turn (fun z hz hl => ⟨hz, rfl⟩)
        have hN0 : qz.e = 0 → Rep (fun z => b + 3 ≤ z) (wd.alloc (.cells #[.int .i64 tk, .string tt, .int .i64 tn, .slice a1 n1 c1, .slice a2 n2 c2] 30)) (.mk 7 e0 0 [] [T]) (trv 7 e0 0 nl (.slice (some ⟨wd.heap.size, 0, none⟩) 1 1)) := fun he => node1_rep 7 e0 (BT' he) (hbs.out)
        have hN : qz.e = 0 → Rep (fun z => b + 3 ≤ z) w5 (.mk 7 e0 0 [] [T]) (trv 7 e0 0 nl (.slice (some ⟨wd.heap.size, 0, none⟩) 1 1)) := fun he => (hN0 he).turn (fun z hz hl => ⟨hz, g5.block z hl (fun e => e)⟩)
        obtain ⟨wF, hwF⟩ : ∃ wF, (set5 (set4 w5 (b + 1) (.slice x.a x.ts.length x.c) (.int .i64 (qz.i : Int)) (.int .i64 (qz.d : Int)) (.int .i64 qz.e)) (b + 2) (.int .i64 7) (.string e0) (.int .i64 0) nl (.slice (some ⟨wd.heap.size, 0, none⟩) 1 1)) = wF := ⟨_, rfl⟩
        obtain ⟨E1, E2, E3, E4⟩ := end3 (x := x) (q := qz) (k := 7) (s := e0) (n := 0) (bv := nl) (lv := (.slice (some ⟨wd.heap.size, 0, none⟩) 1 1)) ((Gd.out.trans ga).trans g5) hbW.out D1 D2 hN
        rw [hwF] at E1 E2 E3 E4
        replace E1 := Lib.hid E1
        replace E2 := Lib.hid E2
        replace E3 := Lib.hid E3
        replace E4 := Lib.hid E4
        replace hwF := Lib.hid hwF
        obtain ⟨⟨y0, y1, y2, y3⟩, v0, v1, v2, v3⟩ := four_cells D1
        obtain ⟨⟨m0, m1, m2, m3, m4⟩, o0, o1, o2, o3, o4⟩ := five_cells D2
        have hlz : b + 2 < w5.heap.size := (Array.getElem?_eq_some_iff.1 D2).1
        have hlz' : b + 1 < w5.heap.size := by omega
        have U4 : Hid (RU x b wb tb q' p tk tt tn (.slice a1 n1 c1) (.slice a2 n2 c2) (set4 w5 (b + 1) (.slice x.a x.ts.length x.c) (.int .i64 (qz.i : Int)) (.int .i64 (qz.d : Int)) (.int .i64 qz.e))) := by
          have h3 := hord.out
          exact U5.out.gr (set4_gr w5 (b + 1) _ _ _ _) (by omega) (by omega) (by omega)
        clear D1 D2 BT' hN hN0 g5 ga
        refine wpAnyL_one (i := 6) (by kernel_rfl) rfl (fun K hK => ?_)
        go_simp
        refine hK.out _ _ (fun _ => U4.out) ?_
        clear hK K
        try simp only [Act.put, List.setIfInBounds_toArray, List.set_cons_zero, List.set_cons_succ]
        refine wpAnyL_one (i := 7) (by kernel_rfl) rfl (fun K hK => ?_)
        go_simp
        refine hK.out _ _ (fun h => absurd rfl h) ?_
        clear hK K
        try simp only [Act.put, List.setIfInBounds_toArray, List.set_cons_zero, List.set_cons_succ]
        refine wpAnyL_done (by kernel_rfl) ?_ _
        refine NoPanic.normal ?_
        go_wp2_with fail
        rw [Hq2.out]
        rw [show ((((((((w5.setCell ⟨b + 1, 0, none⟩ (.slice x.a x.ts.length x.c)).setCell ⟨b + 1, 1, none⟩ (.int .i64 (qz.i : Int))).setCell ⟨b + 1, 2, none⟩ (.int .i64 (qz.d : Int))).setCell ⟨b + 1, 3, none⟩ (.int .i64 qz.e)).setCell ⟨b + 1 + 1, 0, none⟩ (.int .i64 7)).setCell ⟨b + 1 + 1, 1, none⟩ (.string e0)).setCell ⟨b + 1 + 1, 2, none⟩ (.int .i64 0)).setCell ⟨b + 1 + 1, 3, none⟩ (nl)).setCell ⟨b + 1 + 1, 4, none⟩ (.slice (some ⟨wd.heap.size, 0, none⟩) 1 1) = wF from hwF.out]
        clear y0 y1 y2 y3 v0 v1 v2 v3 m0 m1 m2 m3 m4 o0 o1 o2 o3 o4
        have E1' := E1.out
        have E2' : wF.heap[b + 1 + 1]? = some (.cells #[.int .i64 7, .string e0, .int .i64 0, nl, (.slice (some ⟨wd.heap.size, 0, none⟩) 1 1)] 30 (0, 0)) := E2.out
        obtain ⟨⟨t0, t1, t2, t3⟩, _⟩ := four_cells E1'
        obtain ⟨⟨s0, s1, s2, s3, s4⟩, _⟩ := five_cells E2'
        refine bodyPost_ret (v := .tuple #[stv x qz, trv 7 e0 0 nl (.slice (some ⟨wd.heap.size, 0, none⟩) 1 1)]) (by simp [results, Tryz.results74, go_sem, t0, t1, t2, t3, s0, s1, s2, s3, s4]) rfl ⟨7, e0, 0, none, 0, 0, some ⟨wd.heap.size, 0, none⟩, 1, 1, rfl, E3.out, hqF.out, E4.out⟩
end Go.Proofs.YtggkjkkbkpnkiaaGreatDoor
