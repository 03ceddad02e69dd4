/-
  The reference's Expr.
-/
import Derived.Test.YtggkjkkbkpnkiaaGreatDoorRI
import Derived.Test.YtggkjkkbkpnkiaaGreatDoorGM
set_option linter.unusedVariables false
set_option linter.unusedSimpArgs false
namespace Go.Proofs.YtggkjkkbkpnkiaaGreatDoor
open Go.RowKit Go.Maps
variable {x : Kx} {W W' : World} {p p' : Ps}
/-- What a region that draws reads while it stores: two states and two trees. -/
def RV (x : Kx) (b wb tb : Nat) (q p : Ps) (k : Int) (s : ByteArray) (n : Int) (bv lv : Value) (cb : Nat) (k' : Int) (s' : ByteArray) (n' : Int) (bv' lv' : Value) (w : World) : Prop :=
  w.heap[b]? = some (stb x q) ∧ w.heap[wb]? = some (stb x p) ∧ w.heap[tb]? = some (.cells #[.int .i64 k, .string s, .int .i64 n, bv, lv] 30 (0, 0)) ∧ w.heap[cb]? = some (.cells #[.int .i64 k', .string s', .int .i64 n', bv', lv'] 30 (0, 0))
theorem RV.gr {S : Nat → Prop} {b wb tb cb : Nat} {q p : Ps} {k n k' n' : Int} {s s' : ByteArray} {bv lv bv' lv' : Value} (h : RV x b wb tb q p k s n bv lv cb k' s' n' bv' lv' W) (g : Gr S W W') (h1 : ¬ S b) (h2 : ¬ S wb) (h3 : ¬ S tb) (h4 : ¬ S cb) : RV x b wb tb q p k s n bv lv cb k' s' n' bv' lv' W' :=
  ⟨g.keep h.1 h1, g.keep h.2.1 h2, g.keep h.2.2.1 h3, g.keep h.2.2.2 h4⟩
set_option maxRecDepth 100000 in
set_option maxHeartbeats 400000 in
theorem rexpr_e (h : Rz x W p) (he : p.e ≠ 0) (t : Tr) : Calls Tryz.prog 39 #[stv x p] W fun e w' => EndX x W p e w' (t, p) := by
  have q1 : (p.e == 0) = false := by simpa using he
  have he' := Lib.hid he
  have hi := Lib.hid h.hi
  clear he h
  go_enter Tryz.func39, Tryz.ntmps39
  go_wp2_with fail
  exact bodyPost_ret (v := .tuple #[stv x p, trv 0 e0 0 nl nl]) (by simp [results, Tryz.results39, go_sem]) rfl ⟨0, e0, 0, none, 0, 0, none, 0, 0, rfl, fun h => absurd h he'.out, ⟨rfl, Nat.le_refl _, hi.out⟩, (G2 W _ _).trans (Gr.alloc _ _ _)⟩
theorem rdeep_x {d : Nat} {ex : Rule} (hex : d < 40 → ROk x 39 (d + 1) ex) (hd : p.d = d) (h40 : p.d ≤ 40) (hlt : p.e = 0 ∧ p.i < x.ts.length) : ∃ T q', deeperV ex p = (T, q'.back p.d) ∧ (p.i ≤ (sinkV p).i ∧ (sinkV p).i ≤ x.ts.length ∧ (sinkV p).d ≤ 40) ∧
    ∀ w, Rz x w (sinkV p) → Calls Tryz.prog 39 #[stv x (sinkV p)] w fun e w' => EndX x w (sinkV p) e w' (T, q') := by
  by_cases h : p.d = 40
  · have hs : sinkV p = failV 161 p := by rw [sinkV, if_pos hlt.1, if_pos h]
    have hf : failV 161 p = { p with e := 161 } := by rw [failV, if_pos hlt.1]
    refine ⟨tr0, failV 161 p, ?_, ?_, fun w hw => ?_⟩
    · rw [deeperV, if_pos h, hf]; rfl
    · rw [hs, hf]; exact ⟨Nat.le_refl _, Nat.le_of_lt hlt.2, h40⟩
    · rw [hs] at hw ⊢
      exact rexpr_e hw (by rw [hf]; show (161 : Int) ≠ 0; decide) tr0
  · have hs : sinkV p = p.deep := by rw [sinkV, if_pos hlt.1, if_neg h]
    refine ⟨(ex p.deep).1, (ex p.deep).2, ?_, ?_, fun w hw => ?_⟩
    · rw [deeperV, if_neg h]
    · rw [hs]; exact ⟨Nat.le_succ _, hlt.2, by show p.d + 1 ≤ 40; omega⟩
    · rw [hs] at hw ⊢
      exact hex (by omega) w p.deep hw (by show p.d + 1 = d + 1; omega)
theorem eq_bang {ts : List Tn} (h : isV ts p sEq = true) : isV ts p sBang = false := by
  cases hb : isV ts p sBang with
  | false => rfl
  | true =>
    unfold isV at h hb
    simp only [Bool.and_eq_true, beq_iff_eq, decide_eq_true_eq] at h hb
    have := h.2.symm.trans hb.2
    rw [ByteArray.toList_eq, ByteArray.toList_eq] at this
    exact absurd this (by decide)
set_option maxRecDepth 100000 in
set_option maxHeartbeats 3200000 in
theorem rexpr_c (d : Nat) (ex jn : Rule) (hst : Stuck jn) (hj : ROk x 51 d jn) (hex : d < 40 → ROk x 39 (d + 1) ex) : ROk x 39 d (exprV x.ts ex jn) := by
  intro W p0 h hd
  by_cases he0 : p0.e = 0
  case neg =>
    have e : exprV x.ts ex jn p0 = ((jn p0).1, p0) := by
      rw [exprV, hst p0 he0, isV_err he0, if_neg (by decide), isV_err he0, if_neg (by decide)]
      exact Prod.ext rfl (hst p0 he0)
    rw [e]
    exact rexpr_e h he0 _
  obtain ⟨g0, b0, b1, b2, hz0⟩ := open3 (x := x) W p0
  obtain ⟨b, hb⟩ : ∃ b, W.heap.size = b := ⟨_, rfl⟩
  have Hd := Lib.hid hd
  have hbW := Lib.hid hb
  have hNb : Hid (x.N ≤ b) := by have := h.hN; show _ ≤ _; omega
  have R0 := Lib.hid (h.g0 g0)
  have hcall := hj _ p0 (h.g0 g0) hd
  obtain ⟨r, hr⟩ : ∃ r, r = exprV x.ts ex jn p0 := ⟨_, rfl⟩
  rw [← hr]
  have Hr : Hid (r = if isV x.ts (jn p0).2 sEq = true then (.mk 9 e0 0 [] [(jn p0).1, (deeperV ex (jn p0).2).1], (deeperV ex (jn p0).2).2) else if isV x.ts (jn p0).2 sBang = true then (.mk 10 e0 0 [] [(jn p0).1, (deeperV ex (jn p0).2).1], (deeperV ex (jn p0).2).2) else ((jn p0).1, (jn p0).2)) := hr
  have qe : (p0.e == 0) = true := by simp [he0]
  replace he0 := Lib.hid he0
  clear hd h hr
  go_enter Tryz.func39, Tryz.ntmps39
  go_wp2_with fail
  generalize ((W.alloc _).alloc _).alloc _ = W1 at g0 b0 b1 b2 hz0 hcall R0 ⊢
  rw [hb] at b0 b1 b2 hz0
  refine hcall.mono ?_
  rintro e w2 ⟨uk, ut, un, pa, pl, pc, qa, ql, qc, rfl, rep2, hi2, g2⟩
  generalize (jn p0).2 = p at Hr rep2 hi2 ⊢
  generalize (jn p0).1 = U at Hr rep2 ⊢
  have C0 := Lib.hid (g2.keep b0 (fun e => e))
  have C1 := Lib.hid (g2.keep b1 (fun e => e))
  have C2 := Lib.hid (g2.keep b2 (fun e => e))
  have R2 := Lib.hid (R0.out.g0 g2)
  have G2' := Lib.hid (g0.trans g2)
  have Hrep2 := Lib.hid rep2
  have Hi2 := Lib.hid hi2
  have hs2 : b + 3 ≤ w2.heap.size := by have := g2.size; omega
  obtain ⟨⟨c0, c1', c2', c3⟩, v0, v1, v2, v3⟩ := four_cells C0.out
  have hl0 : b < w2.heap.size := by omega
  clear b0 b1 b2 g0 rep2 hi2 hcall g2
  go_wp2_with fail
  generalize hX : World.alloc (set4 w2 b (.slice x.a x.ts.length x.c) (.int .i64 (p.i : Int)) (.int .i64 (p.d : Int)) (.int .i64 p.e)) _ = X
  obtain ⟨gX, X0, XC, XU⟩ := chain_y (x := x) (T := U) hs2 C0.out (fun he => (Hrep2.out he).turn (fun z hz hl => ⟨by have h9 : W1.heap.size ≤ z := hz; show b + 3 ≤ z; omega, rfl⟩)) hX
  obtain ⟨cb, hcb⟩ : ∃ cb, w2.heap.size = cb := ⟨_, rfl⟩
  clear hX c0 c1' c2' c3 v0 v1 v2 v3
  rw [hcb] at XC XU hs2 ⊢
  have RX : Rz x X p := (R2.out.gr gX (fun k hk e => by have := hNb.out; omega)).to Hi2.out.2.2 (by rw [Hi2.out.1]; exact R2.out.hd)
  have X1 := gX.keep C1.out (by omega)
  have X2 := gX.keep C2.out (by omega)
  have GX := Lib.hid (G2'.out.trans' gX (fun k hk e => by have := hbW.out; omega))
  refine (ris_c RX sEq).mono ?_
  rintro e w3 ⟨rfl, g3⟩
  have S0 := Lib.hid (g3.keep X0 (fun e => e))
  have S1 := Lib.hid (g3.keep X1 (fun e => e))
  have S2 := Lib.hid (g3.keep X2 (fun e => e))
  have SC := Lib.hid (g3.keep XC (fun e => e))
  have RS := Lib.hid (RX.g0 g3)
  have GS := Lib.hid (GX.out.trans g3)
  have SU : Hid (p.e = 0 → Rep (fun z => b + 3 ≤ z) w3 U (trv uk ut un (.slice pa pl pc) (.slice qa ql qc))) := fun he => (XU he).turn (fun z hz hl => ⟨hz.1, g3.block z hl (fun e => e)⟩)
  have hcb3 : Hid (b + 3 ≤ cb) := hs2
  have hs3 : Hid (b + 3 ≤ w3.heap.size) := by have := (Array.getElem?_eq_some_iff.1 SC.out).1; show _ ≤ _; omega
  obtain ⟨⟨k0, k1, k2, k3⟩, f0, f1, f2, f3⟩ := four_cells S0.out
  have hl3 : b < w3.heap.size := by have := hs3.out; omega
  clear X0 X1 X2 XC XU RX GX gX g3 C0 C1 C2 hcb hs2 hl0 R0 R2 G2' Hrep2
  cases q1 : isV x.ts p sEq with
  | true =>
    have hbang := eq_bang q1
    go_wp2_with fail
    refine (ris_c RS.out sBang).mono ?_
    rintro e w4 ⟨rfl, g4⟩
    replace S0 := Lib.hid (g4.keep S0.out (fun e => e))
    replace S1 := Lib.hid (g4.keep S1.out (fun e => e))
    replace S2 := Lib.hid (g4.keep S2.out (fun e => e))
    replace SC := Lib.hid (g4.keep SC.out (fun e => e))
    replace SU : Hid (p.e = 0 → Rep (fun z => b + 3 ≤ z) w4 U (trv uk ut un (.slice pa pl pc) (.slice qa ql qc))) := fun he => (SU.out he).turn (fun z hz hl => ⟨hz, g4.block z hl (fun e => e)⟩)
    replace RS := Lib.hid (RS.out.g0 g4)
    replace GS := Lib.hid (GS.out.trans g4)
    have hs4 : Hid (b + 3 ≤ w4.heap.size) := by have := hs3.out; have := g4.size; show _ ≤ _; omega
    clear k0 k1 k2 k3 f0 f1 f2 f3
    obtain ⟨⟨k0, k1, k2, k3⟩, f0, f1, f2, f3⟩ := four_cells S0.out
    have hl3' : b < w4.heap.size := by have := hs4.out; omega
    clear g4 hl3
    rw [hbang]
    clear hbang
    have hlt := Lib.hid (isV_lt' q1)
    obtain ⟨T, q', hdv, hqs0, hex5⟩ := rdeep_x (p := p) hex (by have := Hi2.out; have := Hd.out; omega) RS.out.hd hlt.out
    have Hq2 : Hid (r = (.mk 9 e0 0 [] [U, T], q'.back p.d)) := by
      show r = _
      rw [Hr.out, hdv]
      simp [q1]
    obtain ⟨q, hq⟩ : ∃ q, q = sinkV p := ⟨_, rfl⟩
    have hsink := rsink_c (RS.out.g0 (Gr.alloc w4 (stb x p) (fun _ => False)))
    rw [← hq] at hqs0 hex5 hsink
    have hqs := Lib.hid hqs0
    have hcall3 := Lib.hid hsink
    replace hex5 := Lib.hid hex5
    have ga : Hid (Gr (fun _ => False) w4 (w4.alloc (stb x p))) := Gr.alloc w4 (stb x p) (fun _ => False)
    have hnew := Lib.hid (heap_alloc_new w4 (stb x p))
    clear hqs0 hsink hdv hq Hr q1
    go_wp2_with fail
    refine hcall3.out.mono ?_
    rintro e w5 ⟨rfl, g5⟩
    have D0 := g5.keep (ga.out.keep S0.out (fun e => e)) (fun e => e)
    have D1 := Lib.hid (g5.keep (ga.out.keep S1.out (fun e => e)) (fun e => e))
    have D2 := Lib.hid (g5.keep (ga.out.keep S2.out (fun e => e)) (fun e => e))
    have DC := Lib.hid (g5.keep (ga.out.keep SC.out (fun e => e)) (fun e => e))
    have DW := Lib.hid (g5.keep hnew.out (fun e => e))
    have G4 := Lib.hid ((GS.out.trans ga.out).trans g5)
    have R4 := Lib.hid ((RS.out.g0 ga.out).g0 g5)
    have DU : Hid (Rep (fun z => b + 3 ≤ z) w5 U (trv uk ut un (.slice pa pl pc) (.slice qa ql qc))) := (SU.out hlt.out.1).turn (fun z hz hl => ⟨hz, (g5.block z (by have := ga.out.size; omega) (fun e => e)).trans (ga.out.block z hl (fun e => e))⟩)
    obtain ⟨⟨z0, z1, z2, z3⟩, w0', w1', w2', w3'⟩ := four_cells D0
    have hl4 : b < w5.heap.size := (Array.getElem?_eq_some_iff.1 D0).1
    have hw4 : Hid (w4.heap.size < w5.heap.size) := (Array.getElem?_eq_some_iff.1 DW.out).1
    replace D0 := Lib.hid D0
    have gs : Gr (fun k => k = b) w5 ((((w5.setCell ⟨b, 0, none⟩ (.slice x.a x.ts.length x.c)).setCell ⟨b, 1, none⟩ (.int .i64 (q.i : Int))).setCell ⟨b, 2, none⟩ (.int .i64 (q.d : Int))).setCell ⟨b, 3, none⟩ (.int .i64 q.e)) := set4_gr w5 b (.slice x.a x.ts.length x.c) (.int .i64 (q.i : Int)) (.int .i64 (q.d : Int)) (.int .i64 q.e)
    have F0 : Hid (((((w5.setCell ⟨b, 0, none⟩ (.slice x.a x.ts.length x.c)).setCell ⟨b, 1, none⟩ (.int .i64 (q.i : Int))).setCell ⟨b, 2, none⟩ (.int .i64 (q.d : Int))).setCell ⟨b, 3, none⟩ (.int .i64 q.e)).heap[b]? = some (stb x q)) := set4_heap D0.out (.slice x.a x.ts.length x.c) (.int .i64 (q.i : Int)) (.int .i64 (q.d : Int)) (.int .i64 q.e)
    have F1 := Lib.hid (gs.keep D1.out (by omega))
    have F2 := Lib.hid (gs.keep D2.out (by omega))
    have FC := Lib.hid (gs.keep DC.out (by have := hcb3.out; omega))
    have FW := Lib.hid (gs.keep DW.out (by have := hs4.out; omega))
    have FU : Hid (Rep (fun z => b + 3 ≤ z) ((((w5.setCell ⟨b, 0, none⟩ (.slice x.a x.ts.length x.c)).setCell ⟨b, 1, none⟩ (.int .i64 (q.i : Int))).setCell ⟨b, 2, none⟩ (.int .i64 (q.d : Int))).setCell ⟨b, 3, none⟩ (.int .i64 q.e)) U (trv uk ut un (.slice pa pl pc) (.slice qa ql qc))) := DU.out.turn (fun z hz hl => ⟨hz, gs.block z hl (by have h9 : b + 3 ≤ z := hz; omega)⟩)
    have G5 := Lib.hid (G4.out.trans' gs (fun k hk e => by have := hbW.out; omega))
    have R5 := Lib.hid (Rz.to (p' := q) (R4.out.gr gs (fun k hk e => by have := hNb.out; omega)) hqs.out.2.1 hqs.out.2.2)
    have hcall5 := Lib.hid (hex5.out _ R5.out)
    have hl5 := Lib.hid gs.size
    clear gs D0 D1 D2 DC DW DU G4 R4 S0 S1 S2 SC SU RS GS ga hnew hcall3 g5 k0 k1 k2 k3 f0 f1 f2 f3
    go_wp2_with fail
    generalize (((w5.setCell ⟨b, 0, none⟩ (.slice x.a x.ts.length x.c)).setCell ⟨b, 1, none⟩ (.int .i64 (q.i : Int))).setCell ⟨b, 2, none⟩ (.int .i64 (q.d : Int))).setCell ⟨b, 3, none⟩ (.int .i64 q.e) = w6 at F0 F1 F2 FC FW FU G5 R5 hcall5 hl5 ⊢
    refine hcall5.out.mono ?_
    rintro e w7 ⟨tk, tt, tn, a1, n1, c1, a2, n2, c2, rfl, rep7, hi7, g7⟩
    have H0 := Lib.hid (g7.keep F0.out (fun e => e))
    have H1 := Lib.hid (g7.keep F1.out (fun e => e))
    have H2 := Lib.hid (g7.keep F2.out (fun e => e))
    have HC := Lib.hid (g7.keep FC.out (fun e => e))
    have HW := Lib.hid (g7.keep FW.out (fun e => e))
    have G7 := Lib.hid (G5.out.trans g7)
    obtain ⟨wb, hwb⟩ : ∃ wb, w4.heap.size = wb := ⟨_, rfl⟩
    have Hi7 := Lib.hid hi7
    have hs7 : b + 3 ≤ w7.heap.size := by have := hs4.out; have := hw4.out; have := hl5.out; have := g7.size; omega
    have hwb7 : Hid (b + 3 ≤ wb) := by have := hs4.out; show _ ≤ _; omega
    rw [hwb] at HW ⊢
    have U7 : Hid (q'.e = 0 → Rep (fun z => b + 3 ≤ z) w7 T (trv tk tt tn (.slice a1 n1 c1) (.slice a2 n2 c2))) := fun he => (rep7 he).turn (fun z hz hl => ⟨by have h9 : w6.heap.size ≤ z := hz; have := hs4.out; have := hw4.out; have := hl5.out; show b + 3 ≤ z; omega, rfl⟩)
    have HU : Hid (Rep (fun z => b + 3 ≤ z) w7 U (trv uk ut un (.slice pa pl pc) (.slice qa ql qc))) := FU.out.turn (fun z hz hl => ⟨hz, g7.block z hl (fun e => e)⟩)
    obtain ⟨⟨x0, x1, x2, x3⟩, v0, v1, v2, v3⟩ := four_cells H0.out
    have hl7 : b < w7.heap.size := by omega
    clear F0 F1 F2 FC FW FU G5 R5 hcall5 rep7 hi7 g7 hl5 z0 z1 z2 z3 w0' w1' w2' w3'
    go_wp2_with fail
    generalize hX : World.alloc (set4 w7 b (.slice x.a x.ts.length x.c) (.int .i64 (q'.i : Int)) (.int .i64 (q'.d : Int)) (.int .i64 q'.e)) _ = X
    obtain ⟨gX, X0, XC, XT⟩ := chain_y (x := x) (T := T) hs7 H0.out U7.out hX
    obtain ⟨tb, htb⟩ : ∃ tb, w7.heap.size = tb := ⟨_, rfl⟩
    clear hX x0 x1 x2 x3 v0 v1 v2 v3
    have XW := gX.keep HW.out (by have := hwb7.out; omega)
    have XB := gX.keep HC.out (by have := hcb3.out; omega)
    have X1 := gX.keep H1.out (by omega)
    have X2 := gX.keep H2.out (by omega)
    have XU : Rep (fun z => b + 3 ≤ z) X U (trv uk ut un (.slice pa pl pc) (.slice qa ql qc)) := HU.out.turn (fun z hz hl => ⟨hz, gX.block z hl (by have h9 : b + 3 ≤ z := hz; omega)⟩)
    have GX := G7.out.trans' gX (fun k hk e => by have := hbW.out; omega)
    rw [htb] at XC XT ⊢
    obtain ⟨qz, hqz⟩ : ∃ qz, qz = q'.back p.d := ⟨_, rfl⟩
    have hrise : ∀ w, Calls Tryz.prog 53 #[stv x q', stv x p] w fun e w' => e = .returned (stv x qz) ∧ Gr (fun _ => False) w w' := fun w => by rw [hqz]; exact rrise_c w q' p
    have hze : Hid (qz.e = q'.e) := by show _ = _; rw [hqz]; rfl
    have hqF : Hid (qz.d = p0.d ∧ p0.i ≤ qz.i ∧ qz.i ≤ x.ts.length) := by
      have h6 : q.i ≤ q'.i := Hi7.out.2.1
      have h7 := hqs.out
      have h8 : q'.i ≤ x.ts.length := Hi7.out.2.2
      have h9 := Hi2.out
      rw [hqz]
      exact ⟨h9.1, by show p0.i ≤ q'.i; omega, h8⟩
    rw [← hqz] at Hq2
    have hord : Hid (b + 3 ≤ wb ∧ b + 3 ≤ tb ∧ b + 3 ≤ cb) := ⟨hwb7.out, by omega, hcb3.out⟩
    clear hqz
    refine wp_region_L (T := RV x b wb tb q' p tk tt tn (.slice a1 n1 c1) (.slice a2 n2 c2) cb uk ut un (.slice pa pl pc) (.slice qa ql qc)) (L := 9) (by kernel_rfl) ?_
    have C1 : Hid (X.drew.heap[b + 1]? = some zs) := X1
    have C2 : Hid (X.drew.heap[b + 2]? = some zt) := X2
    have TS : Hid (RV x b wb tb q' p tk tt tn (.slice a1 n1 c1) (.slice a2 n2 c2) cb uk ut un (.slice pa pl pc) (.slice qa ql qc) X.drew) := ⟨X0, XW, XC, XB⟩
    have BT : Hid (qz.e = 0 → Rep (fun z => b + 3 ≤ z) X.drew T (trv tk tt tn (.slice a1 n1 c1) (.slice a2 n2 c2))) := fun he => (XT (by rw [← hze.out]; exact he)).turn (fun z hz hl => ⟨hz.1, rfl⟩)
    have BU : Hid (qz.e = 0 → Rep (fun z => b + 3 ≤ z) X.drew U (trv uk ut un (.slice pa pl pc) (.slice qa ql qc))) := fun he => XU.turn (fun z hz hl => ⟨hz, rfl⟩)
    have Gd := Lib.hid (GX.trans (Gr.drew X _))
    have hbs : Hid (b + 3 ≤ X.drew.heap.size) := by
      have := (Array.getElem?_eq_some_iff.1 XC).1
      have h3 := hord.out
      show b + 3 ≤ X.heap.size
      omega
    clear X0 X1 X2 XW XC XB XT XU GX gX
    generalize X.drew = wd at TS C1 C2 BT BU Gd hbs ⊢
    refine wpAnyL_at (i := 0) (v := (.agg #[.slice x.a x.ts.length x.c, .int .i64 (q'.i : Int), .int .i64 (q'.d : Int), .int .i64 q'.e])) (some 34) rfl rfl (by kernel_rfl) (by kernel_rfl) (by kernel_rfl) (by kernel_rfl) (by decide) (fun _ _ _ h => h) (Or.inl ⟨by rfl, ?_⟩) TS.out ?_
    · intro w hSw
      obtain ⟨hs0, hs1, hs2, hs3⟩ := hSw
      obtain ⟨⟨e0', e1, e2, e3⟩, _⟩ := four_cells hs0
      obtain ⟨⟨j0, j1, j2, j3⟩, _⟩ := four_cells hs1
      obtain ⟨⟨a0, a1', a2', a3, a4⟩, _⟩ := five_cells hs2
      obtain ⟨⟨d0, d1, d2, d3, d4⟩, _⟩ := five_cells hs3
      have hcl := World.block_lt_of_cell? _ _ d0
      have hbl := World.block_lt_of_cell? _ _ e0'
      have hal := World.block_lt_of_cell? _ _ a0
      have hjl := World.block_lt_of_cell? _ _ j0
      go_simp
    try simp only [Act.put, List.setIfInBounds_toArray, List.set_cons_zero, List.set_cons_succ]
    refine wpAnyL_at (i := 1) (v := (.agg #[.slice x.a x.ts.length x.c, .int .i64 (p.i : Int), .int .i64 (p.d : Int), .int .i64 p.e])) (some 35) rfl rfl (by kernel_rfl) (by kernel_rfl) (by kernel_rfl) (by kernel_rfl) (by decide) (fun _ _ _ h => h) (Or.inl ⟨by rfl, ?_⟩) TS.out ?_
    · intro w hSw
      obtain ⟨hs0, hs1, hs2, hs3⟩ := hSw
      obtain ⟨⟨e0', e1, e2, e3⟩, _⟩ := four_cells hs0
      obtain ⟨⟨j0, j1, j2, j3⟩, _⟩ := four_cells hs1
      obtain ⟨⟨a0, a1', a2', a3, a4⟩, _⟩ := five_cells hs2
      obtain ⟨⟨d0, d1, d2, d3, d4⟩, _⟩ := five_cells hs3
      have hcl := World.block_lt_of_cell? _ _ d0
      have hbl := World.block_lt_of_cell? _ _ e0'
      have hal := World.block_lt_of_cell? _ _ a0
      have hjl := World.block_lt_of_cell? _ _ j0
      go_simp
    try simp only [Act.put, List.setIfInBounds_toArray, List.set_cons_zero, List.set_cons_succ]
    refine wpAnyL_at (i := 3) (v := (.int .i64 9)) (some 37) rfl rfl (by kernel_rfl) (by kernel_rfl) (by kernel_rfl) (by kernel_rfl) (by decide) (fun _ _ _ h => h) (Or.inl ⟨by rfl, ?_⟩) TS.out ?_
    · intro w hSw
      go_simp
    try simp only [Act.put, List.setIfInBounds_toArray, List.set_cons_zero, List.set_cons_succ]
    refine wpAnyL_at (i := 4) (v := (.agg #[.int .i64 uk, .string ut, .int .i64 un, .slice pa pl pc, .slice qa ql qc])) (some 38) rfl rfl (by kernel_rfl) (by kernel_rfl) (by kernel_rfl) (by kernel_rfl) (by decide) (fun _ _ _ h => h) (Or.inl ⟨by rfl, ?_⟩) TS.out ?_
    · intro w hSw
      obtain ⟨hs0, hs1, hs2, hs3⟩ := hSw
      obtain ⟨⟨e0', e1, e2, e3⟩, _⟩ := four_cells hs0
      obtain ⟨⟨j0, j1, j2, j3⟩, _⟩ := four_cells hs1
      obtain ⟨⟨a0, a1', a2', a3, a4⟩, _⟩ := five_cells hs2
      obtain ⟨⟨d0, d1, d2, d3, d4⟩, _⟩ := five_cells hs3
      have hcl := World.block_lt_of_cell? _ _ d0
      have hbl := World.block_lt_of_cell? _ _ e0'
      have hal := World.block_lt_of_cell? _ _ a0
      have hjl := World.block_lt_of_cell? _ _ j0
      go_simp
    try simp only [Act.put, List.setIfInBounds_toArray, List.set_cons_zero, List.set_cons_succ]
    refine wpAnyL_at (i := 5) (v := (.agg #[.int .i64 tk, .string tt, .int .i64 tn, .slice a1 n1 c1, .slice a2 n2 c2])) (some 39) rfl rfl (by kernel_rfl) (by kernel_rfl) (by kernel_rfl) (by kernel_rfl) (by decide) (fun _ _ _ h => h) (Or.inl ⟨by rfl, ?_⟩) TS.out ?_
    · intro w hSw
      obtain ⟨hs0, hs1, hs2, hs3⟩ := hSw
      obtain ⟨⟨e0', e1, e2, e3⟩, _⟩ := four_cells hs0
      obtain ⟨⟨j0, j1, j2, j3⟩, _⟩ := four_cells hs1
      obtain ⟨⟨a0, a1', a2', a3, a4⟩, _⟩ := five_cells hs2
      obtain ⟨⟨d0, d1, d2, d3, d4⟩, _⟩ := five_cells hs3
      have hcl := World.block_lt_of_cell? _ _ d0
      have hbl := World.block_lt_of_cell? _ _ e0'
      have hal := World.block_lt_of_cell? _ _ a0
      have hjl := World.block_lt_of_cell? _ _ j0
      go_simp
    try simp only [Act.put, List.setIfInBounds_toArray, List.set_cons_zero, List.set_cons_succ]
    refine wpAnyL_two (i := 2) (j := 6) (by kernel_rfl) rfl rfl (fun K hK => ?_) (fun K hK => ?_)
    · go_simp
      refine (hrise wd).mono ?_
      rintro e w5 ⟨rfl, g5⟩
      have U5 : Hid (RV x b wb tb q' p tk tt tn (.slice a1 n1 c1) (.slice a2 n2 c2) cb uk ut un (.slice pa pl pc) (.slice qa ql qc) w5) := TS.out.gr g5 (fun e => e) (fun e => e) (fun e => e) (fun e => e)
      refine hK.out _ _ (fun _ => U5.out) ?_
      clear hK K
      try simp only [Act.put, List.setIfInBounds_toArray, List.set_cons_zero, List.set_cons_succ]
      have D1 := g5.keep C1.out (fun e => e)
      have D2 := g5.keep C2.out (fun e => e)
      have BT' : qz.e = 0 → Rep (fun z => b + 3 ≤ z) w5 T (trv tk tt tn (.slice a1 n1 c1) (.slice a2 n2 c2)) := fun he => (BT.out he).turn (fun z hz hl => ⟨hz, g5.block z hl (fun e => e)⟩)
      have BU' : qz.e = 0 → Rep (fun z => b + 3 ≤ z) w5 U (trv uk ut un (.slice pa pl pc) (.slice qa ql qc)) := fun he => (BU.out he).turn (fun z hz hl => ⟨hz, g5.block z hl (fun e => e)⟩)
      have hb5 : b + 3 ≤ w5.heap.size := by have := g5.size; have := hbs.out; omega
      have hN : qz.e = 0 → Rep (fun z => b + 3 ≤ z) (w5.alloc (.cells #[.int .i64 uk, .string ut, .int .i64 un, .slice pa pl pc, .slice qa ql qc, .int .i64 tk, .string tt, .int .i64 tn, .slice a1 n1 c1, .slice a2 n2 c2] 30)) (.mk 9 e0 0 [] [U, T]) (trv 9 e0 0 nl (.slice (some ⟨w5.heap.size, 0, none⟩) 2 2)) := fun he => node2_rep 9 e0 (BU' he) (BT' he) (hb5)
      obtain ⟨wF, hwF⟩ : ∃ wF, (set5 (set4 w5 (b + 1) (.slice x.a x.ts.length x.c) (.int .i64 (qz.i : Int)) (.int .i64 (qz.d : Int)) (.int .i64 qz.e)) (b + 2) (.int .i64 9) (.string e0) (.int .i64 0) nl (.slice (some ⟨w5.heap.size, 0, none⟩) 2 2)).alloc (.cells #[.int .i64 uk, .string ut, .int .i64 un, .slice pa pl pc, .slice qa ql qc, .int .i64 tk, .string tt, .int .i64 tn, .slice a1 n1 c1, .slice a2 n2 c2] 30) = wF := ⟨_, rfl⟩
      obtain ⟨E1, E2, E3, E4⟩ := end3n (x := x) (Gd.out.trans g5) hbW.out D1 D2 hN hwF
      replace E1 := Lib.hid E1
      replace E2 := Lib.hid E2
      replace E3 := Lib.hid E3
      replace E4 := Lib.hid E4
      replace hwF := Lib.hid hwF
      obtain ⟨⟨y0, y1, y2, y3⟩, v0, v1, v2, v3⟩ := four_cells D1
      obtain ⟨⟨m0, m1, m2, m3, m4⟩, o0, o1, o2, o3, o4⟩ := five_cells D2
      have hlz : b + 2 < w5.heap.size := (Array.getElem?_eq_some_iff.1 D2).1
      have hlz' : b + 1 < w5.heap.size := by omega
      have U4 : Hid (RV x b wb tb q' p tk tt tn (.slice a1 n1 c1) (.slice a2 n2 c2) cb uk ut un (.slice pa pl pc) (.slice qa ql qc) (set4 w5 (b + 1) (.slice x.a x.ts.length x.c) (.int .i64 (qz.i : Int)) (.int .i64 (qz.d : Int)) (.int .i64 qz.e))) := by
        have h3 := hord.out
        exact U5.out.gr (set4_gr w5 (b + 1) _ _ _ _) (by omega) (by omega) (by omega) (by omega)
      have UA : Hid (RV x b wb tb q' p tk tt tn (.slice a1 n1 c1) (.slice a2 n2 c2) cb uk ut un (.slice pa pl pc) (.slice qa ql qc) (w5.alloc (.cells #[.int .i64 uk, .string ut, .int .i64 un, .slice pa pl pc, .slice qa ql qc, .int .i64 tk, .string tt, .int .i64 tn, .slice a1 n1 c1, .slice a2 n2 c2] 30))) := U5.out.gr (Gr.alloc _ _ (fun _ => False)) (fun e => e) (fun e => e) (fun e => e) (fun e => e)
      have U6 : Hid (RV x b wb tb q' p tk tt tn (.slice a1 n1 c1) (.slice a2 n2 c2) cb uk ut un (.slice pa pl pc) (.slice qa ql qc) ((set4 w5 (b + 1) (.slice x.a x.ts.length x.c) (.int .i64 (qz.i : Int)) (.int .i64 (qz.d : Int)) (.int .i64 qz.e)).alloc (.cells #[.int .i64 uk, .string ut, .int .i64 un, .slice pa pl pc, .slice qa ql qc, .int .i64 tk, .string tt, .int .i64 tn, .slice a1 n1 c1, .slice a2 n2 c2] 30))) := U4.out.gr (Gr.alloc _ _ (fun _ => False)) (fun e => e) (fun e => e) (fun e => e) (fun e => e)
      clear D1 D2 BT' BU' hb5 hN g5
      refine wpAnyL_two (i := 6) (j := 8) (by kernel_rfl) rfl rfl (fun K hK => ?_) (fun K hK => ?_)
      · go_simp
        refine hK.out _ _ (fun _ => UA.out) ?_
        clear hK K
        try simp only [Act.put, List.setIfInBounds_toArray, List.set_cons_zero, List.set_cons_succ]
        refine wpAnyL_at (i := 7) (v := (.agg #[.int .i64 9, .string e0, .int .i64 0, nl, (.slice (some ⟨w5.heap.size, 0, none⟩) 2 2)])) (some 41) rfl rfl (by kernel_rfl) (by kernel_rfl) (by kernel_rfl) (by kernel_rfl) (by decide) (fun _ _ _ h => h) (Or.inl ⟨by rfl, ?_⟩) UA.out ?_
        · intro w hSw
          go_simp
        try simp only [Act.put, List.setIfInBounds_toArray, List.set_cons_zero, List.set_cons_succ]
        refine wpAnyL_one (i := 8) (by kernel_rfl) rfl (fun K hK => ?_)
        go_simp
        refine hK.out _ _ (fun _ => U6.out) ?_
        clear hK K
        try simp only [Act.put, List.setIfInBounds_toArray, List.set_cons_zero, List.set_cons_succ]
        refine wpAnyL_one (i := 9) (by kernel_rfl) rfl (fun K hK => ?_)
        go_simp
        refine hK.out _ _ (fun h => absurd rfl h) ?_
        clear hK K
        try simp only [Act.put, List.setIfInBounds_toArray, List.set_cons_zero, List.set_cons_succ]
        refine wpAnyL_done (by kernel_rfl) ?_ _
        refine NoPanic.normal ?_
        go_wp2_with fail
        rw [Hq2.out]
        rw [show (((((((((w5.setCell ⟨b + 1, 0, none⟩ (.slice x.a x.ts.length x.c)).setCell ⟨b + 1, 1, none⟩ (.int .i64 (qz.i : Int))).setCell ⟨b + 1, 2, none⟩ (.int .i64 (qz.d : Int))).setCell ⟨b + 1, 3, none⟩ (.int .i64 qz.e)).setCell ⟨b + 1 + 1, 0, none⟩ (.int .i64 9)).setCell ⟨b + 1 + 1, 1, none⟩ (.string e0)).setCell ⟨b + 1 + 1, 2, none⟩ (.int .i64 0)).setCell ⟨b + 1 + 1, 3, none⟩ (nl)).setCell ⟨b + 1 + 1, 4, none⟩ (.slice (some ⟨w5.heap.size, 0, none⟩) 2 2)).alloc (.cells #[.int .i64 uk, .string ut, .int .i64 un, .slice pa pl pc, .slice qa ql qc, .int .i64 tk, .string tt, .int .i64 tn, .slice a1 n1 c1, .slice a2 n2 c2] 30) = wF from hwF.out]
        clear y0 y1 y2 y3 v0 v1 v2 v3 m0 m1 m2 m3 m4 o0 o1 o2 o3 o4
        have E1' := E1.out
        have E2' : wF.heap[b + 1 + 1]? = some (.cells #[.int .i64 9, .string e0, .int .i64 0, nl, (.slice (some ⟨w5.heap.size, 0, none⟩) 2 2)] 30 (0, 0)) := E2.out
        obtain ⟨⟨t0, t1, t2, t3⟩, _⟩ := four_cells E1'
        obtain ⟨⟨s0, s1, s2, s3, s4⟩, _⟩ := five_cells E2'
        refine bodyPost_ret (v := .tuple #[stv x qz, trv 9 e0 0 nl (.slice (some ⟨w5.heap.size, 0, none⟩) 2 2)]) (by simp [results, Tryz.results39, go_sem, t0, t1, t2, t3, s0, s1, s2, s3, s4]) rfl ⟨9, e0, 0, none, 0, 0, some ⟨w5.heap.size, 0, none⟩, 2, 2, rfl, E3.out, hqF.out, E4.out⟩
      · go_simp
        refine hK.out _ _ (fun _ => U4.out) ?_
        clear hK K
        try simp only [Act.put, List.setIfInBounds_toArray, List.set_cons_zero, List.set_cons_succ]
        refine wpAnyL_one (i := 6) (by kernel_rfl) rfl (fun K hK => ?_)
        go_simp
        refine hK.out _ _ (fun _ => U6.out) ?_
        clear hK K
        try simp only [Act.put, List.setIfInBounds_toArray, List.set_cons_zero, List.set_cons_succ]
        refine wpAnyL_one (i := 7) (by kernel_rfl) rfl (fun K hK => ?_)
        go_simp
        refine hK.out _ _ (fun _ => U6.out) ?_
        clear hK K
        try simp only [Act.put, List.setIfInBounds_toArray, List.set_cons_zero, List.set_cons_succ]
        refine wpAnyL_one (i := 9) (by kernel_rfl) rfl (fun K hK => ?_)
        go_simp
        refine hK.out _ _ (fun h => absurd rfl h) ?_
        clear hK K
        try simp only [Act.put, List.setIfInBounds_toArray, List.set_cons_zero, List.set_cons_succ]
        refine wpAnyL_done (by kernel_rfl) ?_ _
        refine NoPanic.normal ?_
        go_wp2_with fail
        rw [Hq2.out]
        rw [show (((((((((w5.setCell ⟨b + 1, 0, none⟩ (.slice x.a x.ts.length x.c)).setCell ⟨b + 1, 1, none⟩ (.int .i64 (qz.i : Int))).setCell ⟨b + 1, 2, none⟩ (.int .i64 (qz.d : Int))).setCell ⟨b + 1, 3, none⟩ (.int .i64 qz.e)).setCell ⟨b + 1 + 1, 0, none⟩ (.int .i64 9)).setCell ⟨b + 1 + 1, 1, none⟩ (.string e0)).setCell ⟨b + 1 + 1, 2, none⟩ (.int .i64 0)).setCell ⟨b + 1 + 1, 3, none⟩ (nl)).setCell ⟨b + 1 + 1, 4, none⟩ (.slice (some ⟨w5.heap.size, 0, none⟩) 2 2)).alloc (.cells #[.int .i64 uk, .string ut, .int .i64 un, .slice pa pl pc, .slice qa ql qc, .int .i64 tk, .string tt, .int .i64 tn, .slice a1 n1 c1, .slice a2 n2 c2] 30) = wF from hwF.out]
        clear y0 y1 y2 y3 v0 v1 v2 v3 m0 m1 m2 m3 m4 o0 o1 o2 o3 o4
        have E1' := E1.out
        have E2' : wF.heap[b + 1 + 1]? = some (.cells #[.int .i64 9, .string e0, .int .i64 0, nl, (.slice (some ⟨w5.heap.size, 0, none⟩) 2 2)] 30 (0, 0)) := E2.out
        obtain ⟨⟨t0, t1, t2, t3⟩, _⟩ := four_cells E1'
        obtain ⟨⟨s0, s1, s2, s3, s4⟩, _⟩ := five_cells E2'
        refine bodyPost_ret (v := .tuple #[stv x qz, trv 9 e0 0 nl (.slice (some ⟨w5.heap.size, 0, none⟩) 2 2)]) (by simp [results, Tryz.results39, go_sem, t0, t1, t2, t3, s0, s1, s2, s3, s4]) rfl ⟨9, e0, 0, none, 0, 0, some ⟨w5.heap.size, 0, none⟩, 2, 2, rfl, E3.out, hqF.out, E4.out⟩
    · have TA : Hid (RV x b wb tb q' p tk tt tn (.slice a1 n1 c1) (.slice a2 n2 c2) cb uk ut un (.slice pa pl pc) (.slice qa ql qc) (wd.alloc (.cells #[.int .i64 uk, .string ut, .int .i64 un, .slice pa pl pc, .slice qa ql qc, .int .i64 tk, .string tt, .int .i64 tn, .slice a1 n1 c1, .slice a2 n2 c2] 30))) := TS.out.gr (Gr.alloc _ _ (fun _ => False)) (fun e => e) (fun e => e) (fun e => e) (fun e => e)
      go_simp
      refine hK.out _ _ (fun _ => TA.out) ?_
      clear hK K
      try simp only [Act.put, List.setIfInBounds_toArray, List.set_cons_zero, List.set_cons_succ]
      refine wpAnyL_at (i := 7) (v := (.agg #[.int .i64 9, .string e0, .int .i64 0, nl, (.slice (some ⟨wd.heap.size, 0, none⟩) 2 2)])) (some 41) rfl rfl (by kernel_rfl) (by kernel_rfl) (by kernel_rfl) (by kernel_rfl) (by decide) (fun _ _ _ h => h) (Or.inl ⟨by rfl, ?_⟩) TA.out ?_
      · intro w hSw
        go_simp
      try simp only [Act.put, List.setIfInBounds_toArray, List.set_cons_zero, List.set_cons_succ]
      refine wpAnyL_one (i := 2) (by kernel_rfl) rfl (fun K hK => ?_)
      go_simp
      refine (hrise (wd.alloc (.cells #[.int .i64 uk, .string ut, .int .i64 un, .slice pa pl pc, .slice qa ql qc, .int .i64 tk, .string tt, .int .i64 tn, .slice a1 n1 c1, .slice a2 n2 c2] 30))).mono ?_
      rintro e w5 ⟨rfl, g5⟩
      have U5 : Hid (RV x b wb tb q' p tk tt tn (.slice a1 n1 c1) (.slice a2 n2 c2) cb uk ut un (.slice pa pl pc) (.slice qa ql qc) w5) := TA.out.gr g5 (fun e => e) (fun e => e) (fun e => e) (fun e => e)
      refine hK.out _ _ (fun _ => U5.out) ?_
      clear hK K
      try simp only [Act.put, List.setIfInBounds_toArray, List.set_cons_zero, List.set_cons_succ]
      have ga := Gr.alloc wd (.cells #[.int .i64 uk, .string ut, .int .i64 un, .slice pa pl pc, .slice qa ql qc, .int .i64 tk, .string tt, .int .i64 tn, .slice a1 n1 c1, .slice a2 n2 c2] 30) (fun _ => False)
      have D1 := g5.keep (ga.keep C1.out (fun e => e)) (fun e => e)
      have D2 := g5.keep (ga.keep C2.out (fun e => e)) (fun e => e)
      have BT' : qz.e = 0 → Rep (fun z => b + 3 ≤ z) wd T (trv tk tt tn (.slice a1 n1 c1) (.slice a2 n2 c2)) := fun he => (BT.out he).turn (fun z hz hl => ⟨hz, rfl⟩)
      have BU' : qz.e = 0 → Rep (fun z => b + 3 ≤ z) wd U (trv uk ut un (.slice pa pl pc) (.slice qa ql qc)) := fun he => (BU.out he).turn (fun z hz hl => ⟨hz, rfl⟩)
      have hN0 : qz.e = 0 → Rep (fun z => b + 3 ≤ z) (wd.alloc (.cells #[.int .i64 uk, .string ut, .int .i64 un, .slice pa pl pc, .slice qa ql qc, .int .i64 tk, .string tt, .int .i64 tn, .slice a1 n1 c1, .slice a2 n2 c2] 30)) (.mk 9 e0 0 [] [U, T]) (trv 9 e0 0 nl (.slice (some ⟨wd.heap.size, 0, none⟩) 2 2)) := fun he => node2_rep 9 e0 (BU' he) (BT' he) (hbs.out)
      have hN : qz.e = 0 → Rep (fun z => b + 3 ≤ z) w5 (.mk 9 e0 0 [] [U, T]) (trv 9 e0 0 nl (.slice (some ⟨wd.heap.size, 0, none⟩) 2 2)) := fun he => (hN0 he).turn (fun z hz hl => ⟨hz, g5.block z hl (fun e => e)⟩)
      obtain ⟨wF, hwF⟩ : ∃ wF, (set5 (set4 w5 (b + 1) (.slice x.a x.ts.length x.c) (.int .i64 (qz.i : Int)) (.int .i64 (qz.d : Int)) (.int .i64 qz.e)) (b + 2) (.int .i64 9) (.string e0) (.int .i64 0) nl (.slice (some ⟨wd.heap.size, 0, none⟩) 2 2)) = wF := ⟨_, rfl⟩
      obtain ⟨E1, E2, E3, E4⟩ := end3 (x := x) (q := qz) (k := 9) (s := e0) (n := 0) (bv := nl) (lv := (.slice (some ⟨wd.heap.size, 0, none⟩) 2 2)) ((Gd.out.trans ga).trans g5) hbW.out D1 D2 hN
      rw [hwF] at E1 E2 E3 E4
      replace E1 := Lib.hid E1
      replace E2 := Lib.hid E2
      replace E3 := Lib.hid E3
      replace E4 := Lib.hid E4
      replace hwF := Lib.hid hwF
      obtain ⟨⟨y0, y1, y2, y3⟩, v0, v1, v2, v3⟩ := four_cells D1
      obtain ⟨⟨m0, m1, m2, m3, m4⟩, o0, o1, o2, o3, o4⟩ := five_cells D2
      have hlz : b + 2 < w5.heap.size := (Array.getElem?_eq_some_iff.1 D2).1
      have hlz' : b + 1 < w5.heap.size := by omega
      have U4 : Hid (RV x b wb tb q' p tk tt tn (.slice a1 n1 c1) (.slice a2 n2 c2) cb uk ut un (.slice pa pl pc) (.slice qa ql qc) (set4 w5 (b + 1) (.slice x.a x.ts.length x.c) (.int .i64 (qz.i : Int)) (.int .i64 (qz.d : Int)) (.int .i64 qz.e))) := by
        have h3 := hord.out
        exact U5.out.gr (set4_gr w5 (b + 1) _ _ _ _) (by omega) (by omega) (by omega) (by omega)
      clear D1 D2 BT' BU' hN hN0 g5 ga
      refine wpAnyL_one (i := 8) (by kernel_rfl) rfl (fun K hK => ?_)
      go_simp
      refine hK.out _ _ (fun _ => U4.out) ?_
      clear hK K
      try simp only [Act.put, List.setIfInBounds_toArray, List.set_cons_zero, List.set_cons_succ]
      refine wpAnyL_one (i := 9) (by kernel_rfl) rfl (fun K hK => ?_)
      go_simp
      refine hK.out _ _ (fun h => absurd rfl h) ?_
      clear hK K
      try simp only [Act.put, List.setIfInBounds_toArray, List.set_cons_zero, List.set_cons_succ]
      refine wpAnyL_done (by kernel_rfl) ?_ _
      refine NoPanic.normal ?_
      go_wp2_with fail
      rw [Hq2.out]
      rw [show ((((((((w5.setCell ⟨b + 1, 0, none⟩ (.slice x.a x.ts.length x.c)).setCell ⟨b + 1, 1, none⟩ (.int .i64 (qz.i : Int))).setCell ⟨b + 1, 2, none⟩ (.int .i64 (qz.d : Int))).setCell ⟨b + 1, 3, none⟩ (.int .i64 qz.e)).setCell ⟨b + 1 + 1, 0, none⟩ (.int .i64 9)).setCell ⟨b + 1 + 1, 1, none⟩ (.string e0)).setCell ⟨b + 1 + 1, 2, none⟩ (.int .i64 0)).setCell ⟨b + 1 + 1, 3, none⟩ (nl)).setCell ⟨b + 1 + 1, 4, none⟩ (.slice (some ⟨wd.heap.size, 0, none⟩) 2 2) = wF from hwF.out]
      clear y0 y1 y2 y3 v0 v1 v2 v3 m0 m1 m2 m3 m4 o0 o1 o2 o3 o4
      have E1' := E1.out
      have E2' : wF.heap[b + 1 + 1]? = some (.cells #[.int .i64 9, .string e0, .int .i64 0, nl, (.slice (some ⟨wd.heap.size, 0, none⟩) 2 2)] 30 (0, 0)) := E2.out
      obtain ⟨⟨t0, t1, t2, t3⟩, _⟩ := four_cells E1'
      obtain ⟨⟨s0, s1, s2, s3, s4⟩, _⟩ := five_cells E2'
      refine bodyPost_ret (v := .tuple #[stv x qz, trv 9 e0 0 nl (.slice (some ⟨wd.heap.size, 0, none⟩) 2 2)]) (by simp [results, Tryz.results39, go_sem, t0, t1, t2, t3, s0, s1, s2, s3, s4]) rfl ⟨9, e0, 0, none, 0, 0, some ⟨wd.heap.size, 0, none⟩, 2, 2, rfl, E3.out, hqF.out, E4.out⟩
  | false =>
    go_wp2_with fail
    refine (ris_c RS.out sBang).mono ?_
    rintro e w4 ⟨rfl, g4⟩
    replace S0 := Lib.hid (g4.keep S0.out (fun e => e))
    replace S1 := Lib.hid (g4.keep S1.out (fun e => e))
    replace S2 := Lib.hid (g4.keep S2.out (fun e => e))
    replace SC := Lib.hid (g4.keep SC.out (fun e => e))
    replace SU : Hid (p.e = 0 → Rep (fun z => b + 3 ≤ z) w4 U (trv uk ut un (.slice pa pl pc) (.slice qa ql qc))) := fun he => (SU.out he).turn (fun z hz hl => ⟨hz, g4.block z hl (fun e => e)⟩)
    replace RS := Lib.hid (RS.out.g0 g4)
    replace GS := Lib.hid (GS.out.trans g4)
    have hs4 : Hid (b + 3 ≤ w4.heap.size) := by have := hs3.out; have := g4.size; show _ ≤ _; omega
    clear k0 k1 k2 k3 f0 f1 f2 f3
    obtain ⟨⟨k0, k1, k2, k3⟩, f0, f1, f2, f3⟩ := four_cells S0.out
    have hl3' : b < w4.heap.size := by have := hs4.out; omega
    clear g4 hl3
    cases q2 : isV x.ts p sBang with
    | true =>
      have hlt := Lib.hid (isV_lt' q2)
      obtain ⟨T, q', hdv, hqs0, hex5⟩ := rdeep_x (p := p) hex (by have := Hi2.out; have := Hd.out; omega) RS.out.hd hlt.out
      have Hq2 : Hid (r = (.mk 10 e0 0 [] [U, T], q'.back p.d)) := by
        show r = _
        rw [Hr.out, hdv]
        simp [q1, q2]
      obtain ⟨q, hq⟩ : ∃ q, q = sinkV p := ⟨_, rfl⟩
      have hsink := rsink_c (RS.out.g0 (Gr.alloc w4 (stb x p) (fun _ => False)))
      rw [← hq] at hqs0 hex5 hsink
      have hqs := Lib.hid hqs0
      have hcall3 := Lib.hid hsink
      replace hex5 := Lib.hid hex5
      have ga : Hid (Gr (fun _ => False) w4 (w4.alloc (stb x p))) := Gr.alloc w4 (stb x p) (fun _ => False)
      have hnew := Lib.hid (heap_alloc_new w4 (stb x p))
      clear hqs0 hsink hdv hq Hr q2
      go_wp2_with fail
      refine hcall3.out.mono ?_
      rintro e w5 ⟨rfl, g5⟩
      have D0 := g5.keep (ga.out.keep S0.out (fun e => e)) (fun e => e)
      have D1 := Lib.hid (g5.keep (ga.out.keep S1.out (fun e => e)) (fun e => e))
      have D2 := Lib.hid (g5.keep (ga.out.keep S2.out (fun e => e)) (fun e => e))
      have DC := Lib.hid (g5.keep (ga.out.keep SC.out (fun e => e)) (fun e => e))
      have DW := Lib.hid (g5.keep hnew.out (fun e => e))
      have G4 := Lib.hid ((GS.out.trans ga.out).trans g5)
      have R4 := Lib.hid ((RS.out.g0 ga.out).g0 g5)
      have DU : Hid (Rep (fun z => b + 3 ≤ z) w5 U (trv uk ut un (.slice pa pl pc) (.slice qa ql qc))) := (SU.out hlt.out.1).turn (fun z hz hl => ⟨hz, (g5.block z (by have := ga.out.size; omega) (fun e => e)).trans (ga.out.block z hl (fun e => e))⟩)
      obtain ⟨⟨z0, z1, z2, z3⟩, w0', w1', w2', w3'⟩ := four_cells D0
      have hl4 : b < w5.heap.size := (Array.getElem?_eq_some_iff.1 D0).1
      have hw4 : Hid (w4.heap.size < w5.heap.size) := (Array.getElem?_eq_some_iff.1 DW.out).1
      replace D0 := Lib.hid D0
      have gs : Gr (fun k => k = b) w5 ((((w5.setCell ⟨b, 0, none⟩ (.slice x.a x.ts.length x.c)).setCell ⟨b, 1, none⟩ (.int .i64 (q.i : Int))).setCell ⟨b, 2, none⟩ (.int .i64 (q.d : Int))).setCell ⟨b, 3, none⟩ (.int .i64 q.e)) := set4_gr w5 b (.slice x.a x.ts.length x.c) (.int .i64 (q.i : Int)) (.int .i64 (q.d : Int)) (.int .i64 q.e)
      have F0 : Hid (((((w5.setCell ⟨b, 0, none⟩ (.slice x.a x.ts.length x.c)).setCell ⟨b, 1, none⟩ (.int .i64 (q.i : Int))).setCell ⟨b, 2, none⟩ (.int .i64 (q.d : Int))).setCell ⟨b, 3, none⟩ (.int .i64 q.e)).heap[b]? = some (stb x q)) := set4_heap D0.out (.slice x.a x.ts.length x.c) (.int .i64 (q.i : Int)) (.int .i64 (q.d : Int)) (.int .i64 q.e)
      have F1 := Lib.hid (gs.keep D1.out (by omega))
      have F2 := Lib.hid (gs.keep D2.out (by omega))
      have FC := Lib.hid (gs.keep DC.out (by have := hcb3.out; omega))
      have FW := Lib.hid (gs.keep DW.out (by have := hs4.out; omega))
      have FU : Hid (Rep (fun z => b + 3 ≤ z) ((((w5.setCell ⟨b, 0, none⟩ (.slice x.a x.ts.length x.c)).setCell ⟨b, 1, none⟩ (.int .i64 (q.i : Int))).setCell ⟨b, 2, none⟩ (.int .i64 (q.d : Int))).setCell ⟨b, 3, none⟩ (.int .i64 q.e)) U (trv uk ut un (.slice pa pl pc) (.slice qa ql qc))) := DU.out.turn (fun z hz hl => ⟨hz, gs.block z hl (by have h9 : b + 3 ≤ z := hz; omega)⟩)
      have G5 := Lib.hid (G4.out.trans' gs (fun k hk e => by have := hbW.out; omega))
      have R5 := Lib.hid (Rz.to (p' := q) (R4.out.gr gs (fun k hk e => by have := hNb.out; omega)) hqs.out.2.1 hqs.out.2.2)
      have hcall5 := Lib.hid (hex5.out _ R5.out)
      have hl5 := Lib.hid gs.size
      clear gs D0 D1 D2 DC DW DU G4 R4 S0 S1 S2 SC SU RS GS ga hnew hcall3 g5 k0 k1 k2 k3 f0 f1 f2 f3
      go_wp2_with fail
      generalize (((w5.setCell ⟨b, 0, none⟩ (.slice x.a x.ts.length x.c)).setCell ⟨b, 1, none⟩ (.int .i64 (q.i : Int))).setCell ⟨b, 2, none⟩ (.int .i64 (q.d : Int))).setCell ⟨b, 3, none⟩ (.int .i64 q.e) = w6 at F0 F1 F2 FC FW FU G5 R5 hcall5 hl5 ⊢
      refine hcall5.out.mono ?_
      rintro e w7 ⟨tk, tt, tn, a1, n1, c1, a2, n2, c2, rfl, rep7, hi7, g7⟩
      have H0 := Lib.hid (g7.keep F0.out (fun e => e))
      have H1 := Lib.hid (g7.keep F1.out (fun e => e))
      have H2 := Lib.hid (g7.keep F2.out (fun e => e))
      have HC := Lib.hid (g7.keep FC.out (fun e => e))
      have HW := Lib.hid (g7.keep FW.out (fun e => e))
      have G7 := Lib.hid (G5.out.trans g7)
      obtain ⟨wb, hwb⟩ : ∃ wb, w4.heap.size = wb := ⟨_, rfl⟩
      have Hi7 := Lib.hid hi7
      have hs7 : b + 3 ≤ w7.heap.size := by have := hs4.out; have := hw4.out; have := hl5.out; have := g7.size; omega
      have hwb7 : Hid (b + 3 ≤ wb) := by have := hs4.out; show _ ≤ _; omega
      rw [hwb] at HW ⊢
      have U7 : Hid (q'.e = 0 → Rep (fun z => b + 3 ≤ z) w7 T (trv tk tt tn (.slice a1 n1 c1) (.slice a2 n2 c2))) := fun he => (rep7 he).turn (fun z hz hl => ⟨by have h9 : w6.heap.size ≤ z := hz; have := hs4.out; have := hw4.out; have := hl5.out; show b + 3 ≤ z; omega, rfl⟩)
      have HU : Hid (Rep (fun z => b + 3 ≤ z) w7 U (trv uk ut un (.slice pa pl pc) (.slice qa ql qc))) := FU.out.turn (fun z hz hl => ⟨hz, g7.block z hl (fun e => e)⟩)
      obtain ⟨⟨x0, x1, x2, x3⟩, v0, v1, v2, v3⟩ := four_cells H0.out
      have hl7 : b < w7.heap.size := by omega
      clear F0 F1 F2 FC FW FU G5 R5 hcall5 rep7 hi7 g7 hl5 z0 z1 z2 z3 w0' w1' w2' w3'
      go_wp2_with fail
      generalize hX : World.alloc (set4 w7 b (.slice x.a x.ts.length x.c) (.int .i64 (q'.i : Int)) (.int .i64 (q'.d : Int)) (.int .i64 q'.e)) _ = X
      obtain ⟨gX, X0, XC, XT⟩ := chain_y (x := x) (T := T) hs7 H0.out U7.out hX
      obtain ⟨tb, htb⟩ : ∃ tb, w7.heap.size = tb := ⟨_, rfl⟩
      clear hX x0 x1 x2 x3 v0 v1 v2 v3
      have XW := gX.keep HW.out (by have := hwb7.out; omega)
      have XB := gX.keep HC.out (by have := hcb3.out; omega)
      have X1 := gX.keep H1.out (by omega)
      have X2 := gX.keep H2.out (by omega)
      have XU : Rep (fun z => b + 3 ≤ z) X U (trv uk ut un (.slice pa pl pc) (.slice qa ql qc)) := HU.out.turn (fun z hz hl => ⟨hz, gX.block z hl (by have h9 : b + 3 ≤ z := hz; omega)⟩)
      have GX := G7.out.trans' gX (fun k hk e => by have := hbW.out; omega)
      rw [htb] at XC XT ⊢
      obtain ⟨qz, hqz⟩ : ∃ qz, qz = q'.back p.d := ⟨_, rfl⟩
      have hrise : ∀ w, Calls Tryz.prog 53 #[stv x q', stv x p] w fun e w' => e = .returned (stv x qz) ∧ Gr (fun _ => False) w w' := fun w => by rw [hqz]; exact rrise_c w q' p
      have hze : Hid (qz.e = q'.e) := by show _ = _; rw [hqz]; rfl
      have hqF : Hid (qz.d = p0.d ∧ p0.i ≤ qz.i ∧ qz.i ≤ x.ts.length) := by
        have h6 : q.i ≤ q'.i := Hi7.out.2.1
        have h7 := hqs.out
        have h8 : q'.i ≤ x.ts.length := Hi7.out.2.2
        have h9 := Hi2.out
        rw [hqz]
        exact ⟨h9.1, by show p0.i ≤ q'.i; omega, h8⟩
      rw [← hqz] at Hq2
      have hord : Hid (b + 3 ≤ wb ∧ b + 3 ≤ tb ∧ b + 3 ≤ cb) := ⟨hwb7.out, by omega, hcb3.out⟩
      clear hqz
      refine wp_region_L (T := RV x b wb tb q' p tk tt tn (.slice a1 n1 c1) (.slice a2 n2 c2) cb uk ut un (.slice pa pl pc) (.slice qa ql qc)) (L := 9) (by kernel_rfl) ?_
      have C1 : Hid (X.drew.heap[b + 1]? = some zs) := X1
      have C2 : Hid (X.drew.heap[b + 2]? = some zt) := X2
      have TS : Hid (RV x b wb tb q' p tk tt tn (.slice a1 n1 c1) (.slice a2 n2 c2) cb uk ut un (.slice pa pl pc) (.slice qa ql qc) X.drew) := ⟨X0, XW, XC, XB⟩
      have BT : Hid (qz.e = 0 → Rep (fun z => b + 3 ≤ z) X.drew T (trv tk tt tn (.slice a1 n1 c1) (.slice a2 n2 c2))) := fun he => (XT (by rw [← hze.out]; exact he)).turn (fun z hz hl => ⟨hz.1, rfl⟩)
      have BU : Hid (qz.e = 0 → Rep (fun z => b + 3 ≤ z) X.drew U (trv uk ut un (.slice pa pl pc) (.slice qa ql qc))) := fun he => XU.turn (fun z hz hl => ⟨hz, rfl⟩)
      have Gd := Lib.hid (GX.trans (Gr.drew X _))
      have hbs : Hid (b + 3 ≤ X.drew.heap.size) := by
        have := (Array.getElem?_eq_some_iff.1 XC).1
        have h3 := hord.out
        show b + 3 ≤ X.heap.size
        omega
      clear X0 X1 X2 XW XC XB XT XU GX gX
      generalize X.drew = wd at TS C1 C2 BT BU Gd hbs ⊢
      refine wpAnyL_at (i := 0) (v := (.agg #[.slice x.a x.ts.length x.c, .int .i64 (q'.i : Int), .int .i64 (q'.d : Int), .int .i64 q'.e])) (some 34) rfl rfl (by kernel_rfl) (by kernel_rfl) (by kernel_rfl) (by kernel_rfl) (by decide) (fun _ _ _ h => h) (Or.inl ⟨by rfl, ?_⟩) TS.out ?_
      · intro w hSw
        obtain ⟨hs0, hs1, hs2, hs3⟩ := hSw
        obtain ⟨⟨e0', e1, e2, e3⟩, _⟩ := four_cells hs0
        obtain ⟨⟨j0, j1, j2, j3⟩, _⟩ := four_cells hs1
        obtain ⟨⟨a0, a1', a2', a3, a4⟩, _⟩ := five_cells hs2
        obtain ⟨⟨d0, d1, d2, d3, d4⟩, _⟩ := five_cells hs3
        have hcl := World.block_lt_of_cell? _ _ d0
        have hbl := World.block_lt_of_cell? _ _ e0'
        have hal := World.block_lt_of_cell? _ _ a0
        have hjl := World.block_lt_of_cell? _ _ j0
        go_simp
      try simp only [Act.put, List.setIfInBounds_toArray, List.set_cons_zero, List.set_cons_succ]
      refine wpAnyL_at (i := 1) (v := (.agg #[.slice x.a x.ts.length x.c, .int .i64 (p.i : Int), .int .i64 (p.d : Int), .int .i64 p.e])) (some 35) rfl rfl (by kernel_rfl) (by kernel_rfl) (by kernel_rfl) (by kernel_rfl) (by decide) (fun _ _ _ h => h) (Or.inl ⟨by rfl, ?_⟩) TS.out ?_
      · intro w hSw
        obtain ⟨hs0, hs1, hs2, hs3⟩ := hSw
        obtain ⟨⟨e0', e1, e2, e3⟩, _⟩ := four_cells hs0
        obtain ⟨⟨j0, j1, j2, j3⟩, _⟩ := four_cells hs1
        obtain ⟨⟨a0, a1', a2', a3, a4⟩, _⟩ := five_cells hs2
        obtain ⟨⟨d0, d1, d2, d3, d4⟩, _⟩ := five_cells hs3
        have hcl := World.block_lt_of_cell? _ _ d0
        have hbl := World.block_lt_of_cell? _ _ e0'
        have hal := World.block_lt_of_cell? _ _ a0
        have hjl := World.block_lt_of_cell? _ _ j0
        go_simp
      try simp only [Act.put, List.setIfInBounds_toArray, List.set_cons_zero, List.set_cons_succ]
      refine wpAnyL_at (i := 3) (v := (.int .i64 10)) (some 37) rfl rfl (by kernel_rfl) (by kernel_rfl) (by kernel_rfl) (by kernel_rfl) (by decide) (fun _ _ _ h => h) (Or.inl ⟨by rfl, ?_⟩) TS.out ?_
      · intro w hSw
        go_simp
      try simp only [Act.put, List.setIfInBounds_toArray, List.set_cons_zero, List.set_cons_succ]
      refine wpAnyL_at (i := 4) (v := (.agg #[.int .i64 uk, .string ut, .int .i64 un, .slice pa pl pc, .slice qa ql qc])) (some 38) rfl rfl (by kernel_rfl) (by kernel_rfl) (by kernel_rfl) (by kernel_rfl) (by decide) (fun _ _ _ h => h) (Or.inl ⟨by rfl, ?_⟩) TS.out ?_
      · intro w hSw
        obtain ⟨hs0, hs1, hs2, hs3⟩ := hSw
        obtain ⟨⟨e0', e1, e2, e3⟩, _⟩ := four_cells hs0
        obtain ⟨⟨j0, j1, j2, j3⟩, _⟩ := four_cells hs1
        obtain ⟨⟨a0, a1', a2', a3, a4⟩, _⟩ := five_cells hs2
        obtain ⟨⟨d0, d1, d2, d3, d4⟩, _⟩ := five_cells hs3
        have hcl := World.block_lt_of_cell? _ _ d0
        have hbl := World.block_lt_of_cell? _ _ e0'
        have hal := World.block_lt_of_cell? _ _ a0
        have hjl := World.block_lt_of_cell? _ _ j0
        go_simp
      try simp only [Act.put, List.setIfInBounds_toArray, List.set_cons_zero, List.set_cons_succ]
      refine wpAnyL_at (i := 5) (v := (.agg #[.int .i64 tk, .string tt, .int .i64 tn, .slice a1 n1 c1, .slice a2 n2 c2])) (some 39) rfl rfl (by kernel_rfl) (by kernel_rfl) (by kernel_rfl) (by kernel_rfl) (by decide) (fun _ _ _ h => h) (Or.inl ⟨by rfl, ?_⟩) TS.out ?_
      · intro w hSw
        obtain ⟨hs0, hs1, hs2, hs3⟩ := hSw
        obtain ⟨⟨e0', e1, e2, e3⟩, _⟩ := four_cells hs0
        obtain ⟨⟨j0, j1, j2, j3⟩, _⟩ := four_cells hs1
        obtain ⟨⟨a0, a1', a2', a3, a4⟩, _⟩ := five_cells hs2
        obtain ⟨⟨d0, d1, d2, d3, d4⟩, _⟩ := five_cells hs3
        have hcl := World.block_lt_of_cell? _ _ d0
        have hbl := World.block_lt_of_cell? _ _ e0'
        have hal := World.block_lt_of_cell? _ _ a0
        have hjl := World.block_lt_of_cell? _ _ j0
        go_simp
      try simp only [Act.put, List.setIfInBounds_toArray, List.set_cons_zero, List.set_cons_succ]
      refine wpAnyL_two (i := 2) (j := 6) (by kernel_rfl) rfl rfl (fun K hK => ?_) (fun K hK => ?_)
      · go_simp
        refine (hrise wd).mono ?_
        rintro e w5 ⟨rfl, g5⟩
        have U5 : Hid (RV x b wb tb q' p tk tt tn (.slice a1 n1 c1) (.slice a2 n2 c2) cb uk ut un (.slice pa pl pc) (.slice qa ql qc) w5) := TS.out.gr g5 (fun e => e) (fun e => e) (fun e => e) (fun e => e)
        refine hK.out _ _ (fun _ => U5.out) ?_
        clear hK K
        try simp only [Act.put, List.setIfInBounds_toArray, List.set_cons_zero, List.set_cons_succ]
        have D1 := g5.keep C1.out (fun e => e)
        have D2 := g5.keep C2.out (fun e => e)
        have BT' : qz.e = 0 → Rep (fun z => b + 3 ≤ z) w5 T (trv tk tt tn (.slice a1 n1 c1) (.slice a2 n2 c2)) := fun he => (BT.out he).turn (fun z hz hl => ⟨hz, g5.block z hl (fun e => e)⟩)
        have BU' : qz.e = 0 → Rep (fun z => b + 3 ≤ z) w5 U (trv uk ut un (.slice pa pl pc) (.slice qa ql qc)) := fun he => (BU.out he).turn (fun z hz hl => ⟨hz, g5.block z hl (fun e => e)⟩)
        have hb5 : b + 3 ≤ w5.heap.size := by have := g5.size; have := hbs.out; omega
        have hN : qz.e = 0 → Rep (fun z => b + 3 ≤ z) (w5.alloc (.cells #[.int .i64 uk, .string ut, .int .i64 un, .slice pa pl pc, .slice qa ql qc, .int .i64 tk, .string tt, .int .i64 tn, .slice a1 n1 c1, .slice a2 n2 c2] 30)) (.mk 10 e0 0 [] [U, T]) (trv 10 e0 0 nl (.slice (some ⟨w5.heap.size, 0, none⟩) 2 2)) := fun he => node2_rep 10 e0 (BU' he) (BT' he) (hb5)
        obtain ⟨wF, hwF⟩ : ∃ wF, (set5 (set4 w5 (b + 1) (.slice x.a x.ts.length x.c) (.int .i64 (qz.i : Int)) (.int .i64 (qz.d : Int)) (.int .i64 qz.e)) (b + 2) (.int .i64 10) (.string e0) (.int .i64 0) nl (.slice (some ⟨w5.heap.size, 0, none⟩) 2 2)).alloc (.cells #[.int .i64 uk, .string ut, .int .i64 un, .slice pa pl pc, .slice qa ql qc, .int .i64 tk, .string tt, .int .i64 tn, .slice a1 n1 c1, .slice a2 n2 c2] 30) = wF := ⟨_, rfl⟩
        obtain ⟨E1, E2, E3, E4⟩ := end3n (x := x) (Gd.out.trans g5) hbW.out D1 D2 hN hwF
        replace E1 := Lib.hid E1
        replace E2 := Lib.hid E2
        replace E3 := Lib.hid E3
        replace E4 := Lib.hid E4
        replace hwF := Lib.hid hwF
        obtain ⟨⟨y0, y1, y2, y3⟩, v0, v1, v2, v3⟩ := four_cells D1
        obtain ⟨⟨m0, m1, m2, m3, m4⟩, o0, o1, o2, o3, o4⟩ := five_cells D2
        have hlz : b + 2 < w5.heap.size := (Array.getElem?_eq_some_iff.1 D2).1
        have hlz' : b + 1 < w5.heap.size := by omega
        have U4 : Hid (RV x b wb tb q' p tk tt tn (.slice a1 n1 c1) (.slice a2 n2 c2) cb uk ut un (.slice pa pl pc) (.slice qa ql qc) (set4 w5 (b + 1) (.slice x.a x.ts.length x.c) (.int .i64 (qz.i : Int)) (.int .i64 (qz.d : Int)) (.int .i64 qz.e))) := by
          have h3 := hord.out
          exact U5.out.gr (set4_gr w5 (b + 1) _ _ _ _) (by omega) (by omega) (by omega) (by omega)
        have UA : Hid (RV x b wb tb q' p tk tt tn (.slice a1 n1 c1) (.slice a2 n2 c2) cb uk ut un (.slice pa pl pc) (.slice qa ql qc) (w5.alloc (.cells #[.int .i64 uk, .string ut, .int .i64 un, .slice pa pl pc, .slice qa ql qc, .int .i64 tk, .string tt, .int .i64 tn, .slice a1 n1 c1, .slice a2 n2 c2] 30))) := U5.out.gr (Gr.alloc _ _ (fun _ => False)) (fun e => e) (fun e => e) (fun e => e) (fun e => e)
        have U6 : Hid (RV x b wb tb q' p tk tt tn (.slice a1 n1 c1) (.slice a2 n2 c2) cb uk ut un (.slice pa pl pc) (.slice qa ql qc) ((set4 w5 (b + 1) (.slice x.a x.ts.length x.c) (.int .i64 (qz.i : Int)) (.int .i64 (qz.d : Int)) (.int .i64 qz.e)).alloc (.cells #[.int .i64 uk, .string ut, .int .i64 un, .slice pa pl pc, .slice qa ql qc, .int .i64 tk, .string tt, .int .i64 tn, .slice a1 n1 c1, .slice a2 n2 c2] 30))) := U4.out.gr (Gr.alloc _ _ (fun _ => False)) (fun e => e) (fun e => e) (fun e => e) (fun e => e)
        clear D1 D2 BT' BU' hb5 hN g5
        refine wpAnyL_two (i := 6) (j := 8) (by kernel_rfl) rfl rfl (fun K hK => ?_) (fun K hK => ?_)
        · go_simp
          refine hK.out _ _ (fun _ => UA.out) ?_
          clear hK K
          try simp only [Act.put, List.setIfInBounds_toArray, List.set_cons_zero, List.set_cons_succ]
          refine wpAnyL_at (i := 7) (v := (.agg #[.int .i64 10, .string e0, .int .i64 0, nl, (.slice (some ⟨w5.heap.size, 0, none⟩) 2 2)])) (some 41) rfl rfl (by kernel_rfl) (by kernel_rfl) (by kernel_rfl) (by kernel_rfl) (by decide) (fun _ _ _ h => h) (Or.inl ⟨by rfl, ?_⟩) UA.out ?_
          · intro w hSw
            go_simp
          try simp only [Act.put, List.setIfInBounds_toArray, List.set_cons_zero, List.set_cons_succ]
          refine wpAnyL_one (i := 8) (by kernel_rfl) rfl (fun K hK => ?_)
          go_simp
          refine hK.out _ _ (fun _ => U6.out) ?_
          clear hK K
          try simp only [Act.put, List.setIfInBounds_toArray, List.set_cons_zero, List.set_cons_succ]
          refine wpAnyL_one (i := 9) (by kernel_rfl) rfl (fun K hK => ?_)
          go_simp
          refine hK.out _ _ (fun h => absurd rfl h) ?_
          clear hK K
          try simp only [Act.put, List.setIfInBounds_toArray, List.set_cons_zero, List.set_cons_succ]
          refine wpAnyL_done (by kernel_rfl) ?_ _
          refine NoPanic.normal ?_
          go_wp2_with fail
          rw [Hq2.out]
          rw [show (((((((((w5.setCell ⟨b + 1, 0, none⟩ (.slice x.a x.ts.length x.c)).setCell ⟨b + 1, 1, none⟩ (.int .i64 (qz.i : Int))).setCell ⟨b + 1, 2, none⟩ (.int .i64 (qz.d : Int))).setCell ⟨b + 1, 3, none⟩ (.int .i64 qz.e)).setCell ⟨b + 1 + 1, 0, none⟩ (.int .i64 10)).setCell ⟨b + 1 + 1, 1, none⟩ (.string e0)).setCell ⟨b + 1 + 1, 2, none⟩ (.int .i64 0)).setCell ⟨b + 1 + 1, 3, none⟩ (nl)).setCell ⟨b + 1 + 1, 4, none⟩ (.slice (some ⟨w5.heap.size, 0, none⟩) 2 2)).alloc (.cells #[.int .i64 uk, .string ut, .int .i64 un, .slice pa pl pc, .slice qa ql qc, .int .i64 tk, .string tt, .int .i64 tn, .slice a1 n1 c1, .slice a2 n2 c2] 30) = wF from hwF.out]
          clear y0 y1 y2 y3 v0 v1 v2 v3 m0 m1 m2 m3 m4 o0 o1 o2 o3 o4
          have E1' := E1.out
          have E2' : wF.heap[b + 1 + 1]? = some (.cells #[.int .i64 10, .string e0, .int .i64 0, nl, (.slice (some ⟨w5.heap.size, 0, none⟩) 2 2)] 30 (0, 0)) := E2.out
          obtain ⟨⟨t0, t1, t2, t3⟩, _⟩ := four_cells E1'
          obtain ⟨⟨s0, s1, s2, s3, s4⟩, _⟩ := five_cells E2'
          refine bodyPost_ret (v := .tuple #[stv x qz, trv 10 e0 0 nl (.slice (some ⟨w5.heap.size, 0, none⟩) 2 2)]) (by simp [results, Tryz.results39, go_sem, t0, t1, t2, t3, s0, s1, s2, s3, s4]) rfl ⟨10, e0, 0, none, 0, 0, some ⟨w5.heap.size, 0, none⟩, 2, 2, rfl, E3.out, hqF.out, E4.out⟩
        · go_simp
          refine hK.out _ _ (fun _ => U4.out) ?_
          clear hK K
          try simp only [Act.put, List.setIfInBounds_toArray, List.set_cons_zero, List.set_cons_succ]
          refine wpAnyL_one (i := 6) (by kernel_rfl) rfl (fun K hK => ?_)
          go_simp
          refine hK.out _ _ (fun _ => U6.out) ?_
          clear hK K
          try simp only [Act.put, List.setIfInBounds_toArray, List.set_cons_zero, List.set_cons_succ]
          refine wpAnyL_one (i := 7) (by kernel_rfl) rfl (fun K hK => ?_)
          go_simp
          refine hK.out _ _ (fun _ => U6.out) ?_
          clear hK K
          try simp only [Act.put, List.setIfInBounds_toArray, List.set_cons_zero, List.set_cons_succ]
          refine wpAnyL_one (i := 9) (by kernel_rfl) rfl (fun K hK => ?_)
          go_simp
          refine hK.out _ _ (fun h => absurd rfl h) ?_
          clear hK K
          try simp only [Act.put, List.setIfInBounds_toArray, List.set_cons_zero, List.set_cons_succ]
          refine wpAnyL_done (by kernel_rfl) ?_ _
          refine NoPanic.normal ?_
          go_wp2_with fail
          rw [Hq2.out]
          rw [show (((((((((w5.setCell ⟨b + 1, 0, none⟩ (.slice x.a x.ts.length x.c)).setCell ⟨b + 1, 1, none⟩ (.int .i64 (qz.i : Int))).setCell ⟨b + 1, 2, none⟩ (.int .i64 (qz.d : Int))).setCell ⟨b + 1, 3, none⟩ (.int .i64 qz.e)).setCell ⟨b + 1 + 1, 0, none⟩ (.int .i64 10)).setCell ⟨b + 1 + 1, 1, none⟩ (.string e0)).setCell ⟨b + 1 + 1, 2, none⟩ (.int .i64 0)).setCell ⟨b + 1 + 1, 3, none⟩ (nl)).setCell ⟨b + 1 + 1, 4, none⟩ (.slice (some ⟨w5.heap.size, 0, none⟩) 2 2)).alloc (.cells #[.int .i64 uk, .string ut, .int .i64 un, .slice pa pl pc, .slice qa ql qc, .int .i64 tk, .string tt, .int .i64 tn, .slice a1 n1 c1, .slice a2 n2 c2] 30) = wF from hwF.out]
          clear y0 y1 y2 y3 v0 v1 v2 v3 m0 m1 m2 m3 m4 o0 o1 o2 o3 o4
          have E1' := E1.out
          have E2' : wF.heap[b + 1 + 1]? = some (.cells #[.int .i64 10, .string e0, .int .i64 0, nl, (.slice (some ⟨w5.heap.size, 0, none⟩) 2 2)] 30 (0, 0)) := E2.out
          obtain ⟨⟨t0, t1, t2, t3⟩, _⟩ := four_cells E1'
          obtain ⟨⟨s0, s1, s2, s3, s4⟩, _⟩ := five_cells E2'
          refine bodyPost_ret (v := .tuple #[stv x qz, trv 10 e0 0 nl (.slice (some ⟨w5.heap.size, 0, none⟩) 2 2)]) (by simp [results, Tryz.results39, go_sem, t0, t1, t2, t3, s0, s1, s2, s3, s4]) rfl ⟨10, e0, 0, none, 0, 0, some ⟨w5.heap.size, 0, none⟩, 2, 2, rfl, E3.out, hqF.out, E4.out⟩
      · have TA : Hid (RV x b wb tb q' p tk tt tn (.slice a1 n1 c1) (.slice a2 n2 c2) cb uk ut un (.slice pa pl pc) (.slice qa ql qc) (wd.alloc (.cells #[.int .i64 uk, .string ut, .int .i64 un, .slice pa pl pc, .slice qa ql qc, .int .i64 tk, .string tt, .int .i64 tn, .slice a1 n1 c1, .slice a2 n2 c2] 30))) := TS.out.gr (Gr.alloc _ _ (fun _ => False)) (fun e => e) (fun e => e) (fun e => e) (fun e => e)
        go_simp
        refine hK.out _ _ (fun _ => TA.out) ?_
        clear hK K
        try simp only [Act.put, List.setIfInBounds_toArray, List.set_cons_zero, List.set_cons_succ]
        refine wpAnyL_at (i := 7) (v := (.agg #[.int .i64 10, .string e0, .int .i64 0, nl, (.slice (some ⟨wd.heap.size, 0, none⟩) 2 2)])) (some 41) rfl rfl (by kernel_rfl) (by kernel_rfl) (by kernel_rfl) (by kernel_rfl) (by decide) (fun _ _ _ h => h) (Or.inl ⟨by rfl, ?_⟩) TA.out ?_
        · intro w hSw
          go_simp
        try simp only [Act.put, List.setIfInBounds_toArray, List.set_cons_zero, List.set_cons_succ]
        refine wpAnyL_one (i := 2) (by kernel_rfl) rfl (fun K hK => ?_)
        go_simp
        refine (hrise (wd.alloc (.cells #[.int .i64 uk, .string ut, .int .i64 un, .slice pa pl pc, .slice qa ql qc, .int .i64 tk, .string tt, .int .i64 tn, .slice a1 n1 c1, .slice a2 n2 c2] 30))).mono ?_
        rintro e w5 ⟨rfl, g5⟩
        have U5 : Hid (RV x b wb tb q' p tk tt tn (.slice a1 n1 c1) (.slice a2 n2 c2) cb uk ut un (.slice pa pl pc) (.slice qa ql qc) w5) := TA.out.gr g5 (fun e => e) (fun e => e) (fun e => e) (fun e => e)
        refine hK.out _ _ (fun _ => U5.out) ?_
        clear hK K
        try simp only [Act.put, List.setIfInBounds_toArray, List.set_cons_zero, List.set_cons_succ]
        have ga := Gr.alloc wd (.cells #[.int .i64 uk, .string ut, .int .i64 un, .slice pa pl pc, .slice qa ql qc, .int .i64 tk, .string tt, .int .i64 tn, .slice a1 n1 c1, .slice a2 n2 c2] 30) (fun _ => False)
        have D1 := g5.keep (ga.keep C1.out (fun e => e)) (fun e => e)
        have D2 := g5.keep (ga.keep C2.out (fun e => e)) (fun e => e)
        have BT' : qz.e = 0 → Rep (fun z => b + 3 ≤ z) wd T (trv tk tt tn (.slice a1 n1 c1) (.slice a2 n2 c2)) := fun he => (BT.out he).turn (fun z hz hl => ⟨hz, rfl⟩)
        have BU' : qz.e = 0 → Rep (fun z => b + 3 ≤ z) wd U (trv uk ut un (.slice pa pl pc) (.slice qa ql qc)) := fun he => (BU.out he).turn (fun z hz hl => ⟨hz, rfl⟩)
        have hN0 : qz.e = 0 → Rep (fun z => b + 3 ≤ z) (wd.alloc (.cells #[.int .i64 uk, .string ut, .int .i64 un, .slice pa pl pc, .slice qa ql qc, .int .i64 tk, .string tt, .int .i64 tn, .slice a1 n1 c1, .slice a2 n2 c2] 30)) (.mk 10 e0 0 [] [U, T]) (trv 10 e0 0 nl (.slice (some ⟨wd.heap.size, 0, none⟩) 2 2)) := fun he => node2_rep 10 e0 (BU' he) (BT' he) (hbs.out)
        have hN : qz.e = 0 → Rep (fun z => b + 3 ≤ z) w5 (.mk 10 e0 0 [] [U, T]) (trv 10 e0 0 nl (.slice (some ⟨wd.heap.size, 0, none⟩) 2 2)) := fun he => (hN0 he).turn (fun z hz hl => ⟨hz, g5.block z hl (fun e => e)⟩)
        obtain ⟨wF, hwF⟩ : ∃ wF, (set5 (set4 w5 (b + 1) (.slice x.a x.ts.length x.c) (.int .i64 (qz.i : Int)) (.int .i64 (qz.d : Int)) (.int .i64 qz.e)) (b + 2) (.int .i64 10) (.string e0) (.int .i64 0) nl (.slice (some ⟨wd.heap.size, 0, none⟩) 2 2)) = wF := ⟨_, rfl⟩
        obtain ⟨E1, E2, E3, E4⟩ := end3 (x := x) (q := qz) (k := 10) (s := e0) (n := 0) (bv := nl) (lv := (.slice (some ⟨wd.heap.size, 0, none⟩) 2 2)) ((Gd.out.trans ga).trans g5) hbW.out D1 D2 hN
        rw [hwF] at E1 E2 E3 E4
        replace E1 := Lib.hid E1
        replace E2 := Lib.hid E2
        replace E3 := Lib.hid E3
        replace E4 := Lib.hid E4
        replace hwF := Lib.hid hwF
        obtain ⟨⟨y0, y1, y2, y3⟩, v0, v1, v2, v3⟩ := four_cells D1
        obtain ⟨⟨m0, m1, m2, m3, m4⟩, o0, o1, o2, o3, o4⟩ := five_cells D2
        have hlz : b + 2 < w5.heap.size := (Array.getElem?_eq_some_iff.1 D2).1
        have hlz' : b + 1 < w5.heap.size := by omega
        have U4 : Hid (RV x b wb tb q' p tk tt tn (.slice a1 n1 c1) (.slice a2 n2 c2) cb uk ut un (.slice pa pl pc) (.slice qa ql qc) (set4 w5 (b + 1) (.slice x.a x.ts.length x.c) (.int .i64 (qz.i : Int)) (.int .i64 (qz.d : Int)) (.int .i64 qz.e))) := by
          have h3 := hord.out
          exact U5.out.gr (set4_gr w5 (b + 1) _ _ _ _) (by omega) (by omega) (by omega) (by omega)
        clear D1 D2 BT' BU' hN hN0 g5 ga
        refine wpAnyL_one (i := 8) (by kernel_rfl) rfl (fun K hK => ?_)
        go_simp
        refine hK.out _ _ (fun _ => U4.out) ?_
        clear hK K
        try simp only [Act.put, List.setIfInBounds_toArray, List.set_cons_zero, List.set_cons_succ]
        refine wpAnyL_one (i := 9) (by kernel_rfl) rfl (fun K hK => ?_)
        go_simp
        refine hK.out _ _ (fun h => absurd rfl h) ?_
        clear hK K
        try simp only [Act.put, List.setIfInBounds_toArray, List.set_cons_zero, List.set_cons_succ]
        refine wpAnyL_done (by kernel_rfl) ?_ _
        refine NoPanic.normal ?_
        go_wp2_with fail
        rw [Hq2.out]
        rw [show ((((((((w5.setCell ⟨b + 1, 0, none⟩ (.slice x.a x.ts.length x.c)).setCell ⟨b + 1, 1, none⟩ (.int .i64 (qz.i : Int))).setCell ⟨b + 1, 2, none⟩ (.int .i64 (qz.d : Int))).setCell ⟨b + 1, 3, none⟩ (.int .i64 qz.e)).setCell ⟨b + 1 + 1, 0, none⟩ (.int .i64 10)).setCell ⟨b + 1 + 1, 1, none⟩ (.string e0)).setCell ⟨b + 1 + 1, 2, none⟩ (.int .i64 0)).setCell ⟨b + 1 + 1, 3, none⟩ (nl)).setCell ⟨b + 1 + 1, 4, none⟩ (.slice (some ⟨wd.heap.size, 0, none⟩) 2 2) = wF from hwF.out]
        clear y0 y1 y2 y3 v0 v1 v2 v3 m0 m1 m2 m3 m4 o0 o1 o2 o3 o4
        have E1' := E1.out
        have E2' : wF.heap[b + 1 + 1]? = some (.cells #[.int .i64 10, .string e0, .int .i64 0, nl, (.slice (some ⟨wd.heap.size, 0, none⟩) 2 2)] 30 (0, 0)) := E2.out
        obtain ⟨⟨t0, t1, t2, t3⟩, _⟩ := four_cells E1'
        obtain ⟨⟨s0, s1, s2, s3, s4⟩, _⟩ := five_cells E2'
        refine bodyPost_ret (v := .tuple #[stv x qz, trv 10 e0 0 nl (.slice (some ⟨wd.heap.size, 0, none⟩) 2 2)]) (by simp [results, Tryz.results39, go_sem, t0, t1, t2, t3, s0, s1, s2, s3, s4]) rfl ⟨10, e0, 0, none, 0, 0, some ⟨wd.heap.size, 0, none⟩, 2, 2, rfl, E3.out, hqF.out, E4.out⟩
    | false =>
      have Hq2 : Hid (r = (U, p)) := by
        show r = _
        rw [Hr.out]
        simp [q1, q2]
      have Bd0 : Hid (w4.drew.heap[b]? = some (stb x p)) := S0.out
      have Bd1 : Hid (w4.drew.heap[b + 1]? = some zs) := S1.out
      have Bd2 : Hid (w4.drew.heap[b + 2]? = some zt) := S2.out
      have BdA : Hid (w4.drew.heap[cb]? = some (.cells #[.int .i64 uk, .string ut, .int .i64 un, .slice pa pl pc, .slice qa ql qc] 30 (0, 0))) := SC.out
      have BTd : Hid (p.e = 0 → Rep (fun z => b + 3 ≤ z) w4.drew U (trv uk ut un (.slice pa pl pc) (.slice qa ql qc))) := fun he => (SU.out he).turn (fun z hz hl => ⟨hz, rfl⟩)
      have Gd := Lib.hid (GS.out.trans (Gr.drew w4 _))
      have hab3 := hcb3
      clear q1 q2 Hr S0 S1 S2 SC SU RS GS
      go_wp2_with fail
      refine wp_region_L (T := RT x b cb p uk ut un (.slice pa pl pc) (.slice qa ql qc)) (L := 3) (by kernel_rfl) ?_
      have TS : Hid (RT x b cb p uk ut un (.slice pa pl pc) (.slice qa ql qc) w4.drew) := ⟨Bd0.out, BdA.out⟩
      have C1 := Bd1.out
      have C2 := Bd2.out
      generalize w4.drew = wd at TS C1 C2 BTd Gd ⊢
      clear Bd0 Bd1 Bd2 BdA
      obtain ⟨E1, E2, E3, E4⟩ := end3 (x := x) (q := p) (T := U) (k := uk) (s := ut) (n := un) (bv := .slice pa pl pc) (lv := .slice qa ql qc) (Gd.out) hbW.out C1 C2 (BTd.out)
      obtain ⟨wF, hwF⟩ : ∃ wF, set5 (set4 wd (b + 1) (.slice x.a x.ts.length x.c) (.int .i64 (p.i : Int)) (.int .i64 (p.d : Int)) (.int .i64 p.e)) (b + 2) (.int .i64 uk) (.string ut) (.int .i64 un) (.slice pa pl pc) (.slice qa ql qc) = wF := ⟨_, rfl⟩
      rw [hwF] at E1 E2 E3 E4
      replace E1 := Lib.hid E1
      replace E2 := Lib.hid E2
      replace E3 := Lib.hid E3
      replace E4 := Lib.hid E4
      replace hwF := Lib.hid hwF
      obtain ⟨⟨y0, y1, y2, y3⟩, v0, v1, v2, v3⟩ := four_cells C1
      obtain ⟨⟨m0, m1, m2, m3, m4⟩, o0, o1, o2, o3, o4⟩ := five_cells C2
      have hlz : b + 2 < wd.heap.size := (Array.getElem?_eq_some_iff.1 C2).1
      have hlz' : b + 1 < wd.heap.size := by omega
      have TS4 : Hid (RT x b cb p uk ut un (.slice pa pl pc) (.slice qa ql qc) (set4 wd (b + 1) (.slice x.a x.ts.length x.c) (.int .i64 (p.i : Int)) (.int .i64 (p.d : Int)) (.int .i64 p.e))) := by
        have gs := set4_gr wd (b + 1) (.slice x.a x.ts.length x.c) (.int .i64 (p.i : Int)) (.int .i64 (p.d : Int)) (.int .i64 p.e)
        have h3 := hab3.out
        exact ⟨gs.keep TS.out.1 (by omega), gs.keep TS.out.2 (by omega)⟩
      clear C1 C2
      refine wpAnyL_at (i := 0) (v := (.agg #[.slice x.a x.ts.length x.c, .int .i64 (p.i : Int), .int .i64 (p.d : Int), .int .i64 p.e])) (some 24) rfl rfl (by kernel_rfl) (by kernel_rfl) (by kernel_rfl) (by kernel_rfl) (by decide) (fun _ _ _ h => h) (Or.inl ⟨by rfl, ?_⟩) TS.out ?_
      · intro w hSw
        obtain ⟨hs1, hs2⟩ := hSw
        obtain ⟨⟨e0, e1, e2, e3⟩, _⟩ := four_cells hs1
        obtain ⟨⟨a0, a1, a2, a3, a4⟩, _⟩ := five_cells hs2
        have hbl := World.block_lt_of_cell? _ _ e0
        have hal := World.block_lt_of_cell? _ _ a0
        go_simp
      try simp only [Act.put, List.setIfInBounds_toArray, List.set_cons_zero, List.set_cons_succ]
      refine wpAnyL_at (i := 1) (v := (.agg #[.int .i64 uk, .string ut, .int .i64 un, .slice pa pl pc, .slice qa ql qc])) (some 25) rfl rfl (by kernel_rfl) (by kernel_rfl) (by kernel_rfl) (by kernel_rfl) (by decide) (fun _ _ _ h => h) (Or.inl ⟨by rfl, ?_⟩) TS.out ?_
      · intro w hSw
        obtain ⟨hs1, hs2⟩ := hSw
        obtain ⟨⟨e0, e1, e2, e3⟩, _⟩ := four_cells hs1
        obtain ⟨⟨a0, a1, a2, a3, a4⟩, _⟩ := five_cells hs2
        have hbl := World.block_lt_of_cell? _ _ e0
        have hal := World.block_lt_of_cell? _ _ a0
        go_simp
      try simp only [Act.put, List.setIfInBounds_toArray, List.set_cons_zero, List.set_cons_succ]
      refine wpAnyL_one (i := 2) (by kernel_rfl) rfl (fun K hK => ?_)
      go_simp
      refine hK.out _ _ (fun _ => TS4.out) ?_
      clear hK K
      try simp only [Act.put, List.setIfInBounds_toArray, List.set_cons_zero, List.set_cons_succ]
      refine wpAnyL_one (i := 3) (by kernel_rfl) rfl (fun K hK => ?_)
      go_simp
      refine hK.out _ _ (fun h => absurd rfl h) ?_
      clear hK K
      try simp only [Act.put, List.setIfInBounds_toArray, List.set_cons_zero, List.set_cons_succ]
      refine wpAnyL_done (by kernel_rfl) ?_ _
      refine NoPanic.normal ?_
      go_wp2_with fail
      rw [Hq2.out]
      clear TS4
      rw [show ((((((((wd.setCell ⟨b + 1, 0, none⟩ (.slice x.a x.ts.length x.c)).setCell ⟨b + 1, 1, none⟩ (.int .i64 (p.i : Int))).setCell ⟨b + 1, 2, none⟩ (.int .i64 (p.d : Int))).setCell ⟨b + 1, 3, none⟩ (.int .i64 p.e)).setCell ⟨b + 1 + 1, 0, none⟩ (.int .i64 uk)).setCell ⟨b + 1 + 1, 1, none⟩ (.string ut)).setCell ⟨b + 1 + 1, 2, none⟩ (.int .i64 un)).setCell ⟨b + 1 + 1, 3, none⟩ (.slice pa pl pc)).setCell ⟨b + 1 + 1, 4, none⟩ (.slice qa ql qc) = wF from hwF.out]
      clear y0 y1 y2 y3 v0 v1 v2 v3 m0 m1 m2 m3 m4 o0 o1 o2 o3 o4
      have E1' := E1.out
      have E2' : wF.heap[b + 1 + 1]? = some (.cells #[.int .i64 uk, .string ut, .int .i64 un, .slice pa pl pc, .slice qa ql qc] 30 (0, 0)) := E2.out
      obtain ⟨⟨t0, t1, t2, t3⟩, _⟩ := four_cells E1'
      obtain ⟨⟨s0, s1, s2, s3, s4⟩, _⟩ := five_cells E2'
      refine bodyPost_ret (v := .tuple #[stv x p, trv (uk) (ut) (un) (.slice pa pl pc) (.slice qa ql qc)]) (by simp [results, Tryz.results39, go_sem, t0, t1, t2, t3, s0, s1, s2, s3, s4]) rfl ⟨uk, ut, un, pa, pl, pc, qa, ql, qc, rfl, E3.out, Hi2.out, E4.out⟩
end Go.Proofs.YtggkjkkbkpnkiaaGreatDoor
