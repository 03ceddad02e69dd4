/-
  Carried over from another seat of ours (QR).
-/
import Derived.Test.YtfamepdghememaaQQ
set_option linter.unusedVariables false
set_option linter.unusedSimpArgs false
namespace Go.Proofs.Ytfamepdghememaa
open Go.RowKit Go.Maps Go.WideMaps
attribute [local go_sem] Oper.semAt_some
variable {S S' : Nat → Prop} {W W1 W' : World}
/-- A part without elements is filled so. -/
def FillOk (mb n : Nat) (R : ByteArray → Option Value) (p q : Lf) : Prop := ∀ (w : World), Mo w mb z9 n R → ∀ (a1 : Option Addr) (c1 : Nat) (a2 : Option Addr) (c2 : Nat),
  Calls Try.prog 21 #[.map (some mb), lv p a1 c1 a2 c2] w fun e w' => (∃ b1 d1 b2 d2, e = .returned (.tuple #[lv q b1 d1 b2 d2, .bool true])) ∧ Gr (fun _ => False) w w'
theorem own1 (W : World) (g o : Nat) (v : Value) : Gr (fun k => k = g) W (W.setCell ⟨g, o, none⟩ v) := Gr.set _ _ _ rfl
theorem Gr.own9 (W' : World) (g : Nat) (v0 v1 v2 v3 v4 v5 v6 v7 v8 : Value) :
    Gr (fun k => k = g) W' (((((((((W'.setCell ⟨g, 0, none⟩ v0).setCell ⟨g, 1, none⟩ v1).setCell ⟨g, 2, none⟩ v2).setCell ⟨g, 3, none⟩ v3).setCell ⟨g, 4, none⟩ v4).setCell ⟨g, 5, none⟩ v5).setCell ⟨g, 6, none⟩ v6).setCell ⟨g, 7, none⟩ v7).setCell ⟨g, 8, none⟩ v8) :=
  ((((((((own1 _ _ _ _).trans (own1 _ _ _ _)).trans (own1 _ _ _ _)).trans (own1 _ _ _ _)).trans (own1 _ _ _ _)).trans (own1 _ _ _ _)).trans (own1 _ _ _ _)).trans (own1 _ _ _ _)).trans (own1 _ _ _ _)
theorem rep2 {X : World} {base base' lb : Nat} {q0 q1 : Lf} {x1 x2 x3 x4 a1 : Option Addr} {y1 y2 y3 y4 c1 : Nat} (h : X.ownsRow base' 31 9 (.slice (some ⟨lb, 0, none⟩) 2 2) 2 [.int .i64 q0.k, .int .i64 q0.n, .complex .f64 q0.x q0.y, .string q0.s, .int .i64 q0.a, .int .u32 q0.c, .int .u64 q0.d, .slice x1 0 y1, .slice x2 0 y2, .int .i64 q1.k, .int .i64 q1.n, .complex .f64 q1.x q1.y, .string q1.s, .int .i64 q1.a, .int .u32 q1.c, .int .u64 q1.d, .slice x3 0 y3, .slice x4 0 y4]) (hb : base ≤ base') : Rep (fun i => base ≤ i) X (.mk { k := 6 } [] [.mk q0 [] [], .mk q1 [] []]) (ts 6 0 0 0 e0 0 0 0 a1 0 c1 (some ⟨lb, 0, none⟩) 2 2) := by
  refine ⟨_, _, [lv q0 x1 y1 x2 y2, lv q1 x3 y3 x4 y4], rfl, .inl ⟨rfl, _, _, rfl⟩, rowT_own (n := 2) (ownsRow_mono h hb), ?_⟩
  exact ⟨_, _, rfl, leaf_rep _ _ _ _ _ _ _, _, _, rfl, leaf_rep _ _ _ _ _ _ _, rfl⟩
theorem made18 : (madeCells (lf 0 0 0 0 e0 0 0 0).cells (2 * 9)).toList = [.int .i64 0, .int .i64 0, .complex .f64 0 0, .string e0, .int .i64 0, .int .u32 0, .int .u64 0, nl, nl, .int .i64 0, .int .i64 0, .complex .f64 0 0, .string e0, .int .i64 0, .int .u32 0, .int .u64 0, nl, nl] := by kernel_rfl
set_option maxRecDepth 20000 in
set_option maxHeartbeats 3200000 in
theorem fill_two (A : Nat → Prop) (W : World) (mb n : Nat) (R : ByteArray → Option Value) (hM : Mo W mb z9 n R) (p0 p1 q0 q1 : Lf) (h0 : FillOk mb n R p0 q0) (h1 : FillOk mb n R p1 q1) (v : Value) (hrep : Rep A W (.mk { k := 6 } [] [.mk p0 [] [], .mk p1 [] []]) v) (hA : ∀ i, A i → i < W.heap.size) :
    Calls Try.prog 21 #[.map (some mb), v] W fun e w' => (∃ v', e = .returned (.tuple #[v', .bool true]) ∧ Rep (fun i => W.heap.size ≤ i) w' (.mk { k := 6 } [] [.mk q0 [] [], .mk q1 [] []]) v') ∧ Gr (fun _ => False) W w' := by
  obtain ⟨t, bs, l, a1, c1, a2, c2, e, rfl⟩ := hrep.ts
  cases e
  have hat := hrep.box
  obtain ⟨a, n', c, hc8, hnl, hel⟩ := hat.row
  obtain ⟨b, hb, hcap, hats⟩ := hel (by simp)
  subst hnl
  have gA := Gr.alloc W (.cells #[.int .i64 6, .int .i64 0, .complex .f64 0 0, .string e0, .int .i64 0, .int .u32 0, .int .u64 0, .slice a1 0 c1, .slice a2 2 c2] 31) (fun _ => False)
  have gB := Gr.alloc (W.alloc (.cells #[.int .i64 6, .int .i64 0, .complex .f64 0 0, .string e0, .int .i64 0, .int .u32 0, .int .u64 0, .slice a1 0 c1, .slice a2 2 c2] 31)) (oz9) (fun _ => False)
  have hbp := gB.keep (heap_alloc_new W (.cells #[.int .i64 6, .int .i64 0, .complex .f64 0 0, .string e0, .int .i64 0, .int .u32 0, .int .u64 0, .slice a1 0 c1, .slice a2 2 c2] 31)) (fun e => e)
  have hbt := heap_alloc_new (W.alloc (.cells #[.int .i64 6, .int .i64 0, .complex .f64 0 0, .string e0, .int .i64 0, .int .u32 0, .int .u64 0, .slice a1 0 c1, .slice a2 2 c2] 31)) (oz9)
  rw [World.size_alloc] at hbt
  have e8 : Value.slice a 2 c = Value.slice a2 2 c2 := by
    have h8 : (W.alloc (.cells #[.int .i64 6, .int .i64 0, .complex .f64 0 0, .string e0, .int .i64 0, .int .u32 0, .int .u64 0, .slice a1 0 c1, .slice a2 2 c2] 31)).cell? ⟨W.heap.size, 0 + 8, none⟩ = some (.slice a2 2 c2) := by simp only [World.cell?, heap_alloc_new]; rfl
    have := hc8.symm.trans h8; simpa using this
  cases e8
  subst hb
  have hbW : b < W.heap.size + 1 := by
    obtain ⟨w, hw, hwn⟩ := (hats 0 (.mk p0 [] []) rfl).ns
    obtain ⟨x1, y1, x2, y2, rfl⟩ := leaf_v hw
    have := hwn.lt; rw [World.size_alloc] at this; exact this
  have HP0 : Hid (∃ e1 e2 e3 e4, Ns ((W.alloc (.cells #[.int .i64 6, .int .i64 0, .complex .f64 0 0, .string e0, .int .i64 0, .int .u32 0, .int .u64 0, .slice a1 0 c1, .slice (some ⟨b, 0, none⟩) 2 c2] 31)).alloc oz9) b 0 (lv p0 e1 e2 e3 e4)) := by
    obtain ⟨w, hw, hwn⟩ := (hats 0 (.mk p0 [] []) rfl).ns
    obtain ⟨x1, y1, x2, y2, rfl⟩ := leaf_v hw
    exact Lib.hid ⟨x1, y1, x2, y2, hwn.g gB (fun e => e)⟩
  have HP1 : Hid (∃ e1 e2 e3 e4, Ns ((W.alloc (.cells #[.int .i64 6, .int .i64 0, .complex .f64 0 0, .string e0, .int .i64 0, .int .u32 0, .int .u64 0, .slice a1 0 c1, .slice (some ⟨b, 0, none⟩) 2 c2] 31)).alloc oz9) b 9 (lv p1 e1 e2 e3 e4)) := by
    obtain ⟨w, hw, hwn⟩ := (hats 1 (.mk p1 [] []) rfl).ns
    obtain ⟨x1, y1, x2, y2, rfl⟩ := leaf_v hw
    exact Lib.hid ⟨x1, y1, x2, y2, hwn.g gB (fun e => e)⟩
  have Hbp := Lib.hid hbp
  have Hbt := Lib.hid hbt
  have G0 := Lib.hid (gA.trans gB)
  have Z0 : Hid (((W.alloc (.cells #[.int .i64 6, .int .i64 0, .complex .f64 0 0, .string e0, .int .i64 0, .int .u32 0, .int .u64 0, .slice a1 0 c1, .slice (some ⟨b, 0, none⟩) 2 c2] 31)).alloc oz9).heap.size = W.heap.size + 2) := Lib.hid (by simp)
  have HM := Lib.hid (hM.gr (gA.trans gB) (fun e => e))
  have Hmb : Hid (mb < W.heap.size) := Lib.hid hM.lt
  have HF0 := Lib.hid h0
  have HF1 := Lib.hid h1
  have hcI : (2 : Int) ≤ (c2 : Int) := by simp at hcap; omega
  have HbW := Lib.hid hbW
  clear hrep hat hc8 hel hats hbp hbt gA gB hM h0 h1 hcap hA
  obtain ⟨i0, hi0, hj0, hj1, hj2⟩ := info_parts info31b
  go_enter Try.func21, Try.ntmps21
  go_wp2_with (first
    | (generalize World.alloc (World.alloc W _) _ = X0 at Hbp Hbt G0 Z0 HM HP0 HP1 ⊢; obtain ⟨w1, hmk, hown, hgr⟩ := run_makeSlice_full (P := Try.prog) X0 X0.heap.size 23 31 i0 _ 9 Try.underlying23 hi0 hj0 hj1 .i64 .i64 2 (by decide) (by rw [hj2]; decide) (by unfold maxLen; decide) (Nat.le_refl _); refine wpList_make rfl 23 (.tmp 31) (.tmp 31) rfl hmk ?_; rw [made18] at hown; have g1 : Gr (fun i => X0.heap.size ≤ i) X0 w1 := (Gr.of_grown (S := fun _ => False) hgr (fun k e => by cases e)).mono (fun _ _ e => e.elim); have O1 := Lib.hid hown; have G1 := Lib.hid g1; obtain ⟨⟨u0, u1, u2, u3, u4, u5, u6, u7, u8⟩, uf⟩ := nine (g1.keep Hbp.out (by have := Z0.out; omega)); have lu := (Array.getElem?_eq_some_iff.1 (g1.keep Hbp.out (by have := Z0.out; omega))).1; clear hown hgr g1 hmk)
    | fail)
  have Hb : Hid (b < X0.heap.size) := Lib.hid (by have := Z0.out; have := HbW.out; omega)
  clear u0 u1 u2 u3 u4 u5 u6 u7 u8 uf lu
  go_loopw [36] (fun v wr => Hid (Gr (fun i => X0.heap.size ≤ i) X0 wr) ∧ ((v = .int .i64 0 ∧ Hid (wr.ownsRow X0.heap.size 31 9 (.slice (some ⟨X0.heap.size, 0, none⟩) 2 2) 2 [.int .i64 0, .int .i64 0, .complex .f64 0 0, .string e0, .int .i64 0, .int .u32 0, .int .u64 0, nl, nl, .int .i64 0, .int .i64 0, .complex .f64 0 0, .string e0, .int .i64 0, .int .u32 0, .int .u64 0, nl, nl])) ∨ (v = .int .i64 1 ∧ ∃ x1 y1 x2 y2, Hid (wr.ownsRow X0.heap.size 31 9 (.slice (some ⟨X0.heap.size, 0, none⟩) 2 2) 2 [.int .i64 q0.k, .int .i64 q0.n, .complex .f64 q0.x q0.y, .string q0.s, .int .i64 q0.a, .int .u32 q0.c, .int .u64 q0.d, .slice x1 0 y1, .slice x2 0 y2, .int .i64 0, .int .i64 0, .complex .f64 0 0, .string e0, .int .i64 0, .int .u32 0, .int .u64 0, nl, nl])) ∨ (v = .int .i64 2 ∧ ∃ x1 y1 x2 y2 x3 y3 x4 y4, Hid (wr.ownsRow X0.heap.size 31 9 (.slice (some ⟨X0.heap.size, 0, none⟩) 2 2) 2 [.int .i64 q0.k, .int .i64 q0.n, .complex .f64 q0.x q0.y, .string q0.s, .int .i64 q0.a, .int .u32 q0.c, .int .u64 q0.d, .slice x1 0 y1, .slice x2 0 y2, .int .i64 q1.k, .int .i64 q1.n, .complex .f64 q1.x q1.y, .string q1.s, .int .i64 q1.a, .int .u32 q1.c, .int .u64 q1.d, .slice x3 0 y3, .slice x4 0 y4])))) (fun v _ => 2 - (intOf v).toNat)
  case atStart => exact ⟨G1, .inl ⟨rfl, O1⟩⟩
  case round =>
    obtain ⟨hG, hrel⟩ := hrel
    clear O1 G1
    rcases hrel with ⟨rfl, hO⟩ | ⟨rfl, x1', y1', x2', y2', hO⟩ | ⟨rfl, x1', y1', x2', y2', x3', y3', x4', y4', hO⟩
    · obtain ⟨e1, e2, e3, e4, hn1⟩ := HP0.out
      obtain ⟨f0, f1, f2, f3, f4, f5, f6, f7, f8⟩ := (hn1.g hG.out (by have := Hb.out; omega)).facts
      have hbl := (hn1.g hG.out (by have := Hb.out; omega)).lt
      have hM2 := HM.out.gr hG.out (by have := Hmb.out; have := Z0.out; omega)
      have hcall := Lib.hid (fun w (g : Gr (fun _ => False) wr w) => HF0.out w (hM2.gr g (fun e => e)) e1 e2 e3 e4)
      clear hM2 hn1
      go_wp2_with fail
      refine (hcall.out _ (Gr.alloc _ _ _)).mono ?_
      rintro e w2 ⟨⟨x1, y1, x2, y2, rfl⟩, g2⟩
      have G2 : Hid (Gr (fun _ => False) wr w2) := Lib.hid ((Gr.alloc wr _ _).trans g2)
      have O2 := Lib.hid (ownsRow_gr hO.out G2.out (fun _ _ e => e))
      have lb2 : X0.heap.size < w2.heap.size := (row_cell O2.out (q := 0) rfl).2.1
      have r0 := (row_cell O2.out (q := 0) rfl).1
      have r1 := (row_cell O2.out (q := 1) rfl).1
      have r2 := (row_cell O2.out (q := 2) rfl).1
      have r3 := (row_cell O2.out (q := 3) rfl).1
      have r4 := (row_cell O2.out (q := 4) rfl).1
      have r5 := (row_cell O2.out (q := 5) rfl).1
      have r6 := (row_cell O2.out (q := 6) rfl).1
      have r7 := (row_cell O2.out (q := 7) rfl).1
      have r8 := (row_cell O2.out (q := 8) rfl).1
      have rf := fun o => O2.out.frozenAt o
      have S3 := Lib.hid (row9 (P := []) (Q := [.int .i64 0, .int .i64 0, .complex .f64 0 0, .string e0, .int .i64 0, .int .u32 0, .int .u64 0, nl, nl]) O2.out 0 rfl q0.k q0.n q0.x q0.y q0.s q0.a q0.c q0.d (.slice x1 0 y1) (.slice x2 0 y2))
      clear f0 f1 f2 f3 f4 f5 f6 f7 f8 g2 hcall hO
      go_wp2_with fail
      refine ⟨⟨Lib.hid (((hG.out.trans (G2.out.mono (fun _ _ e => e.elim))).trans (S3.out.2.mono (fun _ _ e => by omega))).trans (Gr.alloc _ _ _)), .inr (.inl ⟨rfl, x1, y1, x2, y2, Lib.hid (S3.out.1.alloc _)⟩)⟩, by simp [intOf]⟩
      
    · obtain ⟨e1, e2, e3, e4, hn1⟩ := HP1.out
      obtain ⟨f0, f1, f2, f3, f4, f5, f6, f7, f8⟩ := (hn1.g hG.out (by have := Hb.out; omega)).facts
      have hbl := (hn1.g hG.out (by have := Hb.out; omega)).lt
      have hM2 := HM.out.gr hG.out (by have := Hmb.out; have := Z0.out; omega)
      have hcall := Lib.hid (fun w (g : Gr (fun _ => False) wr w) => HF1.out w (hM2.gr g (fun e => e)) e1 e2 e3 e4)
      clear hM2 hn1
      go_wp2_with fail
      refine (hcall.out _ (Gr.alloc _ _ _)).mono ?_
      rintro e w2 ⟨⟨x1, y1, x2, y2, rfl⟩, g2⟩
      have G2 : Hid (Gr (fun _ => False) wr w2) := Lib.hid ((Gr.alloc wr _ _).trans g2)
      have O2 := Lib.hid (ownsRow_gr hO.out G2.out (fun _ _ e => e))
      have lb2 : X0.heap.size < w2.heap.size := (row_cell O2.out (q := 0) rfl).2.1
      have r0 := (row_cell O2.out (q := 9) rfl).1
      have r1 := (row_cell O2.out (q := 10) rfl).1
      have r2 := (row_cell O2.out (q := 11) rfl).1
      have r3 := (row_cell O2.out (q := 12) rfl).1
      have r4 := (row_cell O2.out (q := 13) rfl).1
      have r5 := (row_cell O2.out (q := 14) rfl).1
      have r6 := (row_cell O2.out (q := 15) rfl).1
      have r7 := (row_cell O2.out (q := 16) rfl).1
      have r8 := (row_cell O2.out (q := 17) rfl).1
      have rf := fun o => O2.out.frozenAt o
      have S3 := Lib.hid (row9 (P := [.int .i64 q0.k, .int .i64 q0.n, .complex .f64 q0.x q0.y, .string q0.s, .int .i64 q0.a, .int .u32 q0.c, .int .u64 q0.d, .slice x1' 0 y1', .slice x2' 0 y2']) (Q := []) O2.out 9 rfl q1.k q1.n q1.x q1.y q1.s q1.a q1.c q1.d (.slice x1 0 y1) (.slice x2 0 y2))
      clear f0 f1 f2 f3 f4 f5 f6 f7 f8 g2 hcall hO
      go_wp2_with fail
      refine ⟨⟨Lib.hid (((hG.out.trans (G2.out.mono (fun _ _ e => e.elim))).trans (S3.out.2.mono (fun _ _ e => by omega))).trans (Gr.alloc _ _ _)), .inr (.inr ⟨rfl, x1', y1', x2', y2', x1, y1, x2, y2, Lib.hid (S3.out.1.alloc _)⟩)⟩, by simp [intOf]⟩
      
    · have B1 := hG.out.keep Hbp.out (by have := Z0.out; omega)
      have B2 := hG.out.keep Hbt.out (by have := Z0.out; omega)
      obtain ⟨⟨u0, u1, u2, u3, u4, u5, u6, u7, u8⟩, uf⟩ := nine B1
      obtain ⟨⟨z0, z1, z2, z3, z4, z5, z6, z7, z8⟩, zf⟩ := nine B2
      have lu := (Array.getElem?_eq_some_iff.1 B1).1
      have lz := (Array.getElem?_eq_some_iff.1 B2).1
      have G3 := Lib.hid (G0.out.trans' hG.out (fun i hi e => by have := Z0.out; omega))
      have hgg : Hid (Gr (fun i => i = W.heap.size ∨ i = W.heap.size + 1) wr _) := Lib.hid (((own1 wr W.heap.size 8 (.slice (some ⟨X0.heap.size, 0, none⟩) 2 2)).mono (fun _ _ e => .inl e)).trans ((Gr.own9 _ (W.heap.size + 1) (.int .i64 6) (.int .i64 0) (.complex .f64 0 0) (.string e0) (.int .i64 0) (.int .u32 0) (.int .u64 0) (.slice a1 0 c1) (.slice (some ⟨X0.heap.size, 0, none⟩) 2 2)).mono (fun _ _ e => .inr e)))
      clear B1 B2
      go_wp2_with fail
      refine bodyPost_ret (v := .tuple #[ts 6 0 0 0 e0 0 0 0 a1 0 c1 (some ⟨X0.heap.size, 0, none⟩) 2 2, .bool true]) (by simp [results, Try.results21, go_sem, z0, z1, z2, z3, z4, z5, z6, z7, z8, lz]) rfl ⟨⟨_, rfl, ?_⟩, (G3.out.setNew (p := ⟨W.heap.size, 8, none⟩) (Nat.le_refl _)).set9 (g := W.heap.size + 1) (Nat.le_succ _) _ _ _ _ _ _ _ _ _⟩
      have hO4 := ownsRow_gr hO.out hgg.out (fun k h e => by have := Z0.out; omega)
      exact rep2 hO4 (by have := Z0.out; omega)
end Go.Proofs.Ytfamepdghememaa

