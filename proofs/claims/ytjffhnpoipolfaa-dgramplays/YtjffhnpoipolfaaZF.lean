/-
  The reference's Do: a datagram comes where its box is full.
-/
import Derived.Test.YtjffhnpoipolfaaZC
set_option linter.unusedVariables false
set_option linter.unusedSimpArgs false
namespace Go.Proofs.Ytjffhnpoipolfaa
open Go.RowKit Go.Maps Go.WideMaps
variable {S S' Y : Nat → Prop} {W W1 W' : World}

theorem b5_set2 {W0 : World} {nodes : Int} {sent : Nat} {wv bv : Value} {lost : Nat} {k f t i a m : Int} {ob : Value} (h : B5 W0 W nodes sent wv bv lost k f t i a m ob) (v : Value) : B5 W0 (W.setCell ⟨W0.heap.size, 2, none⟩ v) nodes sent v bv lost k f t i a m ob :=
  ⟨heap_setCell_same W W0.heap.size 2 _ 32 _ h.xa, (heap_setCell_other _ _ _ _ (show W0.heap.size + 1 ≠ W0.heap.size by omega)).trans h.xb, (heap_setCell_other _ _ _ _ (show W0.heap.size + 1 + 1 ≠ W0.heap.size by omega)).trans h.xc, (heap_setCell_other _ _ _ _ (show W0.heap.size + 1 + 1 + 1 ≠ W0.heap.size by omega)).trans h.xd, (heap_setCell_other _ _ _ _ (show W0.heap.size + 1 + 1 + 1 + 1 ≠ W0.heap.size by omega)).trans h.xe, h.xg.cell _ _ (.inr (Nat.le_refl _))⟩
theorem keep1 {w : World} {k b j : Nat} (h : k ≠ b) (v : Value) : (w.setCell ⟨b, j, none⟩ v).heap[k]? = w.heap[k]? := heap_setCell_other _ ⟨b, j, none⟩ k v h
set_option maxRecDepth 20000 in
set_option maxHeartbeats 1600000 in
theorem do1_full (W : World) (nodes : Int) (sent : Nat) (wv : Value) (l : List Dx) (ba : Option Addr) (bc : Nat) (lb : List Dx) (lost : Nat) (f t : Int) (i : Nat) (a m : Int) (oa : Option Addr) (ol oc : Nat) (h : Rg Y W wv l) (hY : ∀ k, Y k → k < W.heap.size) (hi : i < l.length) (hl : (l.length : Int) ≤ 1024) (hlo : (lost : Int) ≤ 1000000000) (hb : W.ownsRow 0 39 5 (.slice ba lb.length bc) lb.length (flatX lb)) (hlb : (lb.length : Int) ≤ 1000000) (d : Dx) (hd : l[i]? = some d) (hfull : cnt lb d.t = 64) :
    Calls Try.prog 13 #[rv nodes sent wv (.slice ba lb.length bc) lost, ov 1 f t (i : Int) a m (.slice oa ol oc)] W (EndD W (fun w' nv d ok c => ∃ wv', nv = rv nodes sent wv' (.slice ba lb.length bc) (lost + 1) ∧ d = zdv ∧ ok = false ∧ c = 0 ∧ Rg (fun k => Y k ∨ W.heap.size ≤ k) w' wv' (l.eraseIdx i))) := by
  obtain ⟨g, cap, rfl, hc1, hc2, y0, y1, y2, y3, y4⟩ := rowx_at h.row hd
  have HB := Lib.hid (b5_new W nodes sent (.slice (some ⟨g, 0, none⟩) l.length cap) (.slice ba lb.length bc) lost 1 f t (i : Int) a m (.slice oa ol oc))
  have hgl : g < W.heap.size := hY g (h.own g rfl)
  have hiI : (i : Int) < (l.length : Int) := by omega
  have hgl1 : g < W.heap.size + 1 := by omega
  have hgl2 : g < W.heap.size + 1 + 1 := by omega
  have hgl3 : g < W.heap.size + 1 + 1 + 1 := by omega
  have hgl4 : g < W.heap.size + 1 + 1 + 1 + 1 := by omega
  have Hh := Lib.hid h
  have HY := Lib.hid hY
  have hW : Hid (∀ w, G0 W w → Calls Try.prog 30 #[.slice (some ⟨g, 0, none⟩) l.length cap, .int .i64 (i : Int)] w fun e w' => ∃ v', e = .returned v' ∧ w'.ownsRow 0 39 5 v' (l.eraseIdx i).length (flatX (l.eraseIdx i)) ∧ (∀ k, v'.ownBlock = some k → w.heap.size ≤ k) ∧ G0 w w') := Lib.hid (fun w g => without_r w _ l i hi (ownsRow_g0 h.row g) (by omega) (by omega))
  have hX : Hid (∀ w, G0 W w → ∀ wv', Calls Try.prog 19 #[rv nodes sent wv' (.slice ba lb.length bc) lost, .int .i64 d.t] w fun e w' => e = .returned (.int .i64 64) ∧ G0 w w') := Lib.hid (fun w gw wv' => by have := box_r w nodes sent wv' (.slice ba lb.length bc) lost d.t lb (ownsRow_g0 hb gw) hlb; rw [hfull] at this; exact this)
  clear h hY hd hb hfull
  go_enter Try.func13, Try.ntmps13
  go_wp2_with fail
  generalize hw0 : World.alloc (World.alloc _ _) _ = w0
  have X0 : B5 W w0 nodes sent (.slice (some ⟨g, 0, none⟩) l.length cap) (.slice ba lb.length bc) lost 1 f t (i : Int) a m (.slice oa ol oc) := by rw [← hw0]; exact HB.out.g0 (Gr.alloc _ _ _)
  have F0 : w0.heap[W.heap.size + 1 + 1 + 1 + 1 + 1]? = some (.cells #[.int .i64 d.f, .int .i64 d.t, .int .u64 (d.n : Int), d.bv, .bool d.sp] 39 (0, 0)) := by rw [← hw0]; exact alloc_at _ _ _ (by simp only [size_alloc])
  clear hw0
  refine (hW.out w0 X0.xg).mono ?_
  rintro e w1 ⟨v', rfl, hr1, ho1, hg1⟩
  obtain ⟨a1, cap1, rfl, _, _⟩ := ownsRow_sv hr1
  have hs0 : W.heap.size + 1 + 1 + 1 + 1 < w0.heap.size := lt_of_blk X0.xe
  have X1 := Lib.hid (X0.g0 hg1)
  have R1 := Lib.hid hr1
  have O1 := Lib.hid ho1
  obtain ⟨a0, a1', a2, a3, a4, fa0, fa1, fa2, fa3, fa4⟩ := five X1.out.xa
  obtain ⟨b0, b1, b2, b3, b4, b5, b6⟩ := seven X1.out.xb
  obtain ⟨c0, c1, c2, c3, c4, c5, c6, c7, c8, c9⟩ := five X1.out.xc
  obtain ⟨d0, d1, d2, d3, d4, d5, d6, d7, d8, d9⟩ := five X1.out.xd
  obtain ⟨e0, e1, e2, e3, e4, _⟩ := five X1.out.xe
  have hs01 := hg1.size
  have F1 := (hg1.block _ (lt_of_blk F0) (fun e => e)).trans F0
  have F1l := lt_of_blk F1
  obtain ⟨f0, f1, f2, f3, f4, _⟩ := five F1
  clear hr1 ho1 hg1 X0 F0
  go_wp2_with fail
  have gB := X1.out.xg.cell ⟨W.heap.size, 2, none⟩ (.slice a1 (l.eraseIdx i).length cap1) (.inr (Nat.le_refl _))
  refine (hX.out _ gB _).mono ?_
  rintro e w2 ⟨rfl, hg2⟩
  have X2 := Lib.hid ((b5_set2 X1.out (.slice a1 (l.eraseIdx i).length cap1)).g0 hg2)
  have hs1 : w0.heap.size ≤ w1.heap.size := hs01
  have K2 : Hid (∀ k, w0.heap.size ≤ k → k < w1.heap.size → w2.heap[k]? = w1.heap[k]?) := Lib.hid (fun k h1 h2 => (hg2.block k (by simpa using h2) (fun e => e)).trans (keep1 (by omega) _))
  clear hg2 gB a0 a1' a2 a3 a4 fa0 fa1 fa2 fa3 fa4 b0 b1 b2 b3 b4 b5 b6 c0 c1 c2 c3 c4 c5 c6 c7 c8 c9 d0 d1 d2 d3 d4 d5 d6 d7 d8 d9 e0 e1 e2 e3 e4
  obtain ⟨a0, a1', a2, a3, a4, fa0, fa1, fa2, fa3, fa4⟩ := five X2.out.xa
  obtain ⟨b0, b1, b2, b3, b4, b5, b6⟩ := seven X2.out.xb
  obtain ⟨c0, c1, c2, c3, c4, c5, c6, c7, c8, c9⟩ := five X2.out.xc
  obtain ⟨d0, d1, d2, d3, d4, d5, d6, d7, d8, d9⟩ := five X2.out.xd
  obtain ⟨e0, e1, e2, e3, e4, _⟩ := five X2.out.xe
  go_wp2_with fail
  go_region
  all_goals
    go_wp2
    refine bodyPost_ret (v := .tuple #[rv nodes sent (.slice a1 (l.eraseIdx i).length cap1) (.slice ba lb.length bc) (lost + 1), zdv, .bool false, .int .i64 0]) (by simp [results, Try.results13, go_sem, c0, c1, c2, c3, c4, d0, d1, d2, d3, d4]) rfl ?_
    have gA := X2.out.xg.cell ⟨W.heap.size, 4, none⟩ (.int .i64 ((lost : Int) + 1)) (.inr (Nat.le_refl _))
    have key : ∀ w', G0 W w' → (∀ k, w0.heap.size ≤ k → k < w1.heap.size → w'.heap[k]? = w1.heap[k]?) → Rg (fun k => Y k ∨ W.heap.size ≤ k) w' (.slice a1 (l.eraseIdx i).length cap1) (l.eraseIdx i) := fun w' gw hk =>
      ⟨ownsRow_of_block R1.out (fun k e => hk k (O1.out k e) (R1.out.lt k e).2), fun k e => .inr (by have := O1.out k e; omega), fun x hx => by
        have h1 := (Hh.out.byt x (mem_erase hx)).keep (W' := w') (fun k hk => gw.block k (HY.out k hk) (fun e => e))
        exact ⟨h1.1, fun b off e => (h1.2.1 b off e).imp id .inl, h1.2.2⟩⟩
    refine ⟨_, _, _, _, rfl, ⟨_, rfl, rfl, rfl, rfl, key _ ?_ ?_⟩, ?_⟩
    · exact (fin10 gA _ _ _ _ _ _ _ _ _ _).trans (Gr.drew _ _)
    · intro k hk hk2
      exact (keep10 (by omega) (by omega) _ _ _ _ _ _ _ _ _ _).trans ((keep1 (by omega) _).trans (K2.out k hk hk2))
    · exact (fin10 gA _ _ _ _ _ _ _ _ _ _).trans (Gr.drew _ _)
end Go.Proofs.Ytjffhnpoipolfaa
