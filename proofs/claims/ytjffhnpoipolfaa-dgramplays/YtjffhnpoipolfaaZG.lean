/-
  The reference's Do: a datagram comes into its box.
-/
import Derived.Test.YtjffhnpoipolfaaZF
set_option linter.unusedVariables false
set_option linter.unusedSimpArgs false
namespace Go.Proofs.Ytjffhnpoipolfaa
open Go.RowKit Go.Maps Go.WideMaps
variable {S S' Y : Nat → Prop} {W W1 W' : World}

set_option maxRecDepth 20000 in
set_option maxHeartbeats 10000000 in
theorem do1_room (W : World) (nodes : Int) (sent : Nat) (wv : Value) (l : List Dx) (ba : Option Addr) (bc : Nat) (lb : List Dx) (lost : Nat) (f t : Int) (i : Nat) (a m : Int) (oa : Option Addr) (ol oc : Nat) (h : Rg Y W wv l) (hY : ∀ k, Y k → k < W.heap.size) (hi : i < l.length) (hl : (l.length : Int) ≤ 1024) (hlo : (lost : Int) ≤ 1000000000) (hb : W.ownsRow 0 39 5 (.slice ba lb.length bc) lb.length (flatX lb)) (hlb : (lb.length : Int) ≤ 1000000) (d : Dx) (hd : l[i]? = some d) (hroom : ((cnt lb d.t : Nat) : Int) < 64) (hlb2 : lb.length ≤ 40000) (hbY : ∀ k, (Value.slice ba lb.length bc).ownBlock = some k → Y k) (hbb : ∀ x ∈ lb, SlY Y W x) :
    Calls Try.prog 13 #[rv nodes sent wv (.slice ba lb.length bc) lost, ov 1 f t (i : Int) a m (.slice oa ol oc)] W (EndD W (fun w' nv dd ok c => ∃ wv' bv', nv = rv nodes sent wv' bv' lost ∧ dd = zdv ∧ ok = false ∧ c = 0 ∧ Rg (fun k => Y k ∨ W.heap.size ≤ k) w' wv' (l.eraseIdx i) ∧ Rg (fun k => Y k ∨ W.heap.size ≤ k) w' bv' (lb ++ [d]))) := by
  obtain ⟨g, cap, rfl, hc1, hc2, y0, y1, y2, y3, y4⟩ := rowx_at h.row hd
  have HB := Lib.hid (b5_new W nodes sent (.slice (some ⟨g, 0, none⟩) l.length cap) (.slice ba lb.length bc) lost 1 f t (i : Int) a m (.slice oa ol oc))
  have hgl : g < W.heap.size := hY g (h.own g rfl)
  have hiI : (i : Int) < (l.length : Int) := by omega
  have hgl1 : g < W.heap.size + 1 := by omega
  have hgl2 : g < W.heap.size + 1 + 1 := by omega
  have hgl3 : g < W.heap.size + 1 + 1 + 1 := by omega
  have hgl4 : g < W.heap.size + 1 + 1 + 1 + 1 := by omega
  have Hh := Lib.hid h
  have HY := Lib.hid hY
  have hW : Hid (∀ w, G0 W w → Calls Try.prog 30 #[.slice (some ⟨g, 0, none⟩) l.length cap, .int .i64 (i : Int)] w fun e w' => ∃ v', e = .returned v' ∧ w'.ownsRow 0 39 5 v' (l.eraseIdx i).length (flatX (l.eraseIdx i)) ∧ (∀ k, v'.ownBlock = some k → w.heap.size ≤ k) ∧ G0 w w') := Lib.hid (fun w g => without_r w _ l i hi (ownsRow_g0 h.row g) (by omega) (by omega))
  have hX : Hid (∀ w, G0 W w → ∀ wv', Calls Try.prog 19 #[rv nodes sent wv' (.slice ba lb.length bc) lost, .int .i64 d.t] w fun e w' => e = .returned (.int .i64 ((cnt lb d.t : Nat) : Int)) ∧ G0 w w') := Lib.hid (fun w gw wv' => box_r w nodes sent wv' (.slice ba lb.length bc) lost d.t lb (ownsRow_g0 hb gw) hlb)
  have hdm := Lib.hid (h.byt d (List.mem_of_getElem? hd))
  have Hb := Lib.hid hb
  have HbY := Lib.hid hbY
  have Hbb := Lib.hid hbb
  obtain ⟨cx, hcx⟩ : ∃ cx, cnt lb d.t = cx := ⟨_, rfl⟩
  rw [hcx] at hX hroom
  clear h hY hd hb hbY hbb hcx
  go_enter Try.func13, Try.ntmps13
  go_wp2_with fail
  generalize hw0 : World.alloc (World.alloc _ _) _ = w0
  have X0 : B5 W w0 nodes sent (.slice (some ⟨g, 0, none⟩) l.length cap) (.slice ba lb.length bc) lost 1 f t (i : Int) a m (.slice oa ol oc) := by rw [← hw0]; exact HB.out.g0 (Gr.alloc _ _ _)
  have F0 : w0.heap[W.heap.size + 1 + 1 + 1 + 1 + 1]? = some (.cells #[.int .i64 d.f, .int .i64 d.t, .int .u64 (d.n : Int), d.bv, .bool d.sp] 39 (0, 0)) := by rw [← hw0]; exact alloc_at _ _ _ (by simp only [size_alloc])
  clear hw0
  refine (hW.out w0 X0.xg).mono ?_
  rintro e w1 ⟨v', rfl, hr1, ho1, hg1⟩
  obtain ⟨a1, cap1, rfl, _, _⟩ := ownsRow_sv hr1
  have hs0 : W.heap.size + 1 + 1 + 1 + 1 < w0.heap.size := lt_of_blk X0.xe
  have X1 := Lib.hid (X0.g0 hg1)
  have R1 := Lib.hid hr1
  have O1 := Lib.hid ho1
  obtain ⟨a0, a1', a2, a3, a4, fa0, fa1, fa2, fa3, fa4⟩ := five X1.out.xa
  obtain ⟨b0, b1, b2, b3, b4, b5, b6⟩ := seven X1.out.xb
  obtain ⟨c0, c1, c2, c3, c4, c5, c6, c7, c8, c9⟩ := five X1.out.xc
  obtain ⟨d0, d1, d2, d3, d4, d5, d6, d7, d8, d9⟩ := five X1.out.xd
  obtain ⟨e0, e1, e2, e3, e4, _⟩ := five X1.out.xe
  have hs01 := hg1.size
  have F1 := (hg1.block _ (lt_of_blk F0) (fun e => e)).trans F0
  have F1l := lt_of_blk F1
  obtain ⟨f0, f1, f2, f3, f4, _⟩ := five F1
  clear hr1 ho1 hg1 X0 F0
  go_wp2_with fail
  have gB := X1.out.xg.cell ⟨W.heap.size, 2, none⟩ (.slice a1 (l.eraseIdx i).length cap1) (.inr (Nat.le_refl _))
  refine (hX.out _ gB _).mono ?_
  rintro e w2 ⟨rfl, hg2⟩
  have X2 := Lib.hid ((b5_set2 X1.out (.slice a1 (l.eraseIdx i).length cap1)).g0 hg2)
  have hs1 : w0.heap.size ≤ w1.heap.size := hs01
  have K2 : Hid (∀ k, w0.heap.size ≤ k → k < w1.heap.size → w2.heap[k]? = w1.heap[k]?) := Lib.hid (fun k h1 h2 => (hg2.block k (by simpa using h2) (fun e => e)).trans (keep1 (by omega) _))
  have F2 : w2.heap[W.heap.size + 1 + 1 + 1 + 1 + 1]? = some (.cells #[.int .i64 d.f, .int .i64 d.t, .int .u64 (d.n : Int), d.bv, .bool d.sp] 39 (0, 0)) := (hg2.block _ (by simpa using F1l) (fun e => e)).trans ((keep1 (by omega) _).trans F1)
  have hz12 : w1.heap.size ≤ w2.heap.size := by have := hg2.size; simpa using this
  clear hg2 gB a0 a1' a2 a3 a4 fa0 fa1 fa2 fa3 fa4 b0 b1 b2 b3 b4 b5 b6 c0 c1 c2 c3 c4 c5 c6 c7 c8 c9 d0 d1 d2 d3 d4 d5 d6 d7 d8 d9 e0 e1 e2 e3 e4 f0 f1 f2 f3 f4
  obtain ⟨a0, a1', a2, a3, a4, fa0, fa1, fa2, fa3, fa4⟩ := five X2.out.xa
  obtain ⟨b0, b1, b2, b3, b4, b5, b6⟩ := seven X2.out.xb
  obtain ⟨f0, f1, f2, f3, f4, _⟩ := five F2
  have HF2 := Lib.hid F2
  have hlt6a : W.heap.size < w2.heap.size := lt_of_blk X2.out.xa
  have hlt6b : W.heap.size + 1 + 1 + 1 + 1 + 1 < w2.heap.size := lt_of_blk F2
  go_wp2_with fail
  obtain ⟨E, hE⟩ : ∃ E, Obj.cells #[] 39 = E := ⟨_, rfl⟩
  obtain ⟨D, hD⟩ : ∃ D, Obj.cells #[.int .i64 d.f, .int .i64 d.t, .int .u64 (d.n : Int), d.bv, .bool d.sp] 39 = D := ⟨_, rfl⟩
  have gA : Hid (G0 w2 (w2.alloc E).drew) := Lib.hid ((Gr.alloc _ _ _).trans (Gr.drew _ _))
  have gB : Hid (G0 w2 ((w2.alloc E).alloc D).drew) := Lib.hid (((Gr.alloc _ _ _).trans (Gr.alloc _ _ _)).trans (Gr.drew _ _))
  have gC : Hid (G0 w2 ((w2.alloc D).alloc E).drew) := Lib.hid (((Gr.alloc _ _ _).trans (Gr.alloc _ _ _)).trans (Gr.drew _ _))
  have eA : Hid ((w2.alloc E).drew.heap[w2.heap.size]? = some E) := Lib.hid (heap_alloc_new w2 _)
  have eB : Hid (((w2.alloc E).alloc D).drew.heap[w2.heap.size]? = some E) := Lib.hid ((heap_alloc_old (w2.alloc E) D (by rw [size_alloc]; omega)).trans (heap_alloc_new w2 _))
  have dB : Hid (((w2.alloc E).alloc D).drew.heap[w2.heap.size + 1]? = some D) := Lib.hid (by have := heap_alloc_new (w2.alloc E) D; rw [size_alloc] at this; exact this)
  have eC : Hid (((w2.alloc D).alloc E).drew.heap[w2.heap.size + 1]? = some E) := Lib.hid (by have := heap_alloc_new (w2.alloc D) E; rw [size_alloc] at this; exact this)
  have dC : Hid (((w2.alloc D).alloc E).drew.heap[w2.heap.size]? = some D) := Lib.hid ((heap_alloc_old (w2.alloc D) E (by rw [size_alloc]; omega)).trans (heap_alloc_new w2 _))
  rw [← hE] at gA eA
  rw [← hE, ← hD] at gB gC eB dB eC dC
  clear hE hD
  have Hsrc := Lib.hid ((src_row Hb.out).g0 X2.out.xg)
  -- behind the first append
  have aft : Hid (∀ (w w7 : World) (X : Nat) (v' : Value), G0 w2 w → w2.heap.size ≤ X → Loc (.slice (some ⟨X, 0, none⟩) 0 0) w v' w7 → G0 w2 w7 ∧ ∀ k, k < w.heap.size → k ≠ X → w7.heap[k]? = w.heap[k]?) := Lib.hid (fun w w7 X v' g hX hl => ⟨g.trans' hl.gr (fun i hi e => by have e2 : X = i := (by simpa [Value.ownBlock] using e); omega), fun k hk hne => hl.gr.block k hk (fun e => by cases e; exact hne rfl)⟩)
  have own7 : Hid (∀ (w w7 : World) (X : Nat) (v' : Value), G0 w2 w → w2.heap.size ≤ X → Loc (.slice (some ⟨X, 0, none⟩) 0 0) w v' w7 → ∀ k, v'.ownBlock = some k → w2.heap.size ≤ k) := Lib.hid (fun w w7 X v' g hX hl k e => (hl.at_ k e).elim (fun e => by cases e; exact hX) (fun e => Nat.le_trans g.size e))
  go_region_law (first
    | (refine step_x rfl _ _ rfl 0 lb.length (.slice (some ⟨w2.heap.size, 0, none⟩) 0 0) (.slice ba lb.length bc) [] (flatX lb) rfl rfl (empty_row _ eA.out) (Hsrc.out.g0 gA.out) flatX_one (by omega) ?_; intro a7 cap7 w7 hr7 hl7; have Hr7 : Hid (w7.ownsRow 0 39 5 (.slice a7 lb.length cap7) lb.length (flatX lb)) := Lib.hid (by simpa using hr7); have A7 := aft.out _ _ _ _ gA.out (Nat.le_refl _) hl7; have O7 : Hid (∀ k, (Value.slice a7 lb.length cap7).ownBlock = some k → w2.heap.size ≤ k) := Lib.hid (fun k e => own7.out _ _ _ _ gA.out (Nat.le_refl _) hl7 k (by cases a7 <;> exact e)); have G7 := Lib.hid A7.1; obtain ⟨r07, r17, r27, r37, r47, _, _, _, u37, _⟩ := five ((A7.1.block _ hlt6a (fun e => e)).trans X2.out.xa); obtain ⟨t07, t17, t27, t37, t47, _⟩ := five ((A7.1.block _ hlt6b (fun e => e)).trans HF2.out); have hz7 : w2.heap.size ≤ w7.heap.size := A7.1.size; clear hr7 hl7 A7)
    | (refine step_x rfl _ _ rfl 0 lb.length (.slice (some ⟨w2.heap.size, 0, none⟩) 0 0) (.slice ba lb.length bc) [] (flatX lb) rfl rfl (empty_row _ eB.out) (Hsrc.out.g0 gB.out) flatX_one (by omega) ?_; intro a7 cap7 w7 hr7 hl7; have Hr7 : Hid (w7.ownsRow 0 39 5 (.slice a7 lb.length cap7) lb.length (flatX lb)) := Lib.hid (by simpa using hr7); have A7 := aft.out _ _ _ _ gB.out (Nat.le_refl _) hl7; have O7 : Hid (∀ k, (Value.slice a7 lb.length cap7).ownBlock = some k → w2.heap.size ≤ k) := Lib.hid (fun k e => own7.out _ _ _ _ gB.out (Nat.le_refl _) hl7 k (by cases a7 <;> exact e)); have G7 := Lib.hid A7.1; have D7b := Lib.hid ((A7.2 (w2.heap.size + 1) (lt_of_blk dB.out) (by omega)).trans dB.out); obtain ⟨r07, r17, r27, r37, r47, _, _, _, u37, _⟩ := five ((A7.1.block _ hlt6a (fun e => e)).trans X2.out.xa); have hz7 : w2.heap.size ≤ w7.heap.size := A7.1.size; clear hr7 hl7 A7)
    | (refine step_x rfl _ _ rfl 0 lb.length (.slice (some ⟨w2.heap.size + 1, 0, none⟩) 0 0) (.slice ba lb.length bc) [] (flatX lb) rfl rfl (empty_row _ eC.out) (Hsrc.out.g0 gC.out) flatX_one (by omega) ?_; intro a7 cap7 w7 hr7 hl7; have Hr7 : Hid (w7.ownsRow 0 39 5 (.slice a7 lb.length cap7) lb.length (flatX lb)) := Lib.hid (by simpa using hr7); have A7 := aft.out _ _ _ _ gC.out (Nat.le_succ _) hl7; have O7 : Hid (∀ k, (Value.slice a7 lb.length cap7).ownBlock = some k → w2.heap.size ≤ k) := Lib.hid (fun k e => own7.out _ _ _ _ gC.out (Nat.le_succ _) hl7 k (by cases a7 <;> exact e)); have G7 := Lib.hid A7.1; have D7c := Lib.hid ((A7.2 w2.heap.size (lt_of_blk dC.out) (by omega)).trans dC.out); obtain ⟨r07, r17, r27, r37, r47, _, _, _, u37, _⟩ := five ((A7.1.block _ hlt6a (fun e => e)).trans X2.out.xa); have hz7 : w2.heap.size ≤ w7.heap.size := A7.1.size; clear hr7 hl7 A7)
    | (refine step_dg' rfl _ _ rfl lb.length w7.heap.size (.slice a7 lb.length cap7) (flatX lb) d.f d.t d.n d.a d.by'.length d.c d.sp rfl rfl (Hr7.out.alloc _) (heap_alloc_new w7 _) (by omega) ?_; intro a8 cap8 w8 hr8 hl8; have Hr8 := Lib.hid hr8; have G8 : Hid (Gr (fun k => w2.heap.size ≤ k) w2 w8) := Lib.hid (((G7.out.trans (Gr.alloc w7 _ _)).of0).trans' hl8.gr (fun i hi e => O7.out i e)); have O8 : Hid (∀ k, (Value.slice a8 (lb.length + 1) cap8).ownBlock = some k → w2.heap.size ≤ k) := Lib.hid (fun k e => (hl8.at_ k e).elim (O7.out k) (fun e => Nat.le_trans hz7 (Nat.le_trans (Nat.le_succ _) (by simpa using e)))); obtain ⟨r08, r18, r28, r38, r48, _, _, _, u38, _⟩ := five ((G8.out.block _ hlt6a (by omega)).trans X2.out.xa); clear hr8 hl8)
    | (refine step_dg' rfl _ _ rfl lb.length (w2.heap.size + 1) (.slice a7 lb.length cap7) (flatX lb) d.f d.t d.n d.a d.by'.length d.c d.sp rfl rfl Hr7.out D7b.out (by omega) ?_; intro a8 cap8 w8 hr8 hl8; have Hr8 := Lib.hid hr8; have G8 : Hid (Gr (fun k => w2.heap.size ≤ k) w2 w8) := Lib.hid ((G7.out.of0).trans' hl8.gr (fun i hi e => O7.out i e)); have O8 : Hid (∀ k, (Value.slice a8 (lb.length + 1) cap8).ownBlock = some k → w2.heap.size ≤ k) := Lib.hid (fun k e => (hl8.at_ k e).elim (O7.out k) (fun e => Nat.le_trans hz7 e)); obtain ⟨r08, r18, r28, r38, r48, _, _, _, u38, _⟩ := five ((G8.out.block _ hlt6a (by omega)).trans X2.out.xa); clear hr8 hl8)
    | (refine step_dg' rfl _ _ rfl lb.length w2.heap.size (.slice a7 lb.length cap7) (flatX lb) d.f d.t d.n d.a d.by'.length d.c d.sp rfl rfl Hr7.out D7c.out (by omega) ?_; intro a8 cap8 w8 hr8 hl8; have Hr8 := Lib.hid hr8; have G8 : Hid (Gr (fun k => w2.heap.size ≤ k) w2 w8) := Lib.hid ((G7.out.of0).trans' hl8.gr (fun i hi e => O7.out i e)); have O8 : Hid (∀ k, (Value.slice a8 (lb.length + 1) cap8).ownBlock = some k → w2.heap.size ≤ k) := Lib.hid (fun k e => (hl8.at_ k e).elim (O7.out k) (fun e => Nat.le_trans hz7 e)); obtain ⟨r08, r18, r28, r38, r48, _, _, _, u38, _⟩ := five ((G8.out.block _ hlt6a (by omega)).trans X2.out.xa); clear hr8 hl8)
    | fail)
  all_goals
    have q9 : ∀ k, k < w2.heap.size → k ≠ W.heap.size → (w8.setCell ⟨W.heap.size, 3, none⟩ (.slice a8 (lb.length + 1) cap8)).heap[k]? = w2.heap[k]? := fun k h1 h2 => (keep1 h2 _).trans (G8.out.block k h1 (by omega))
    have X9 : B5 W (w8.setCell ⟨W.heap.size, 3, none⟩ (.slice a8 (lb.length + 1) cap8)) nodes sent (.slice a1 (l.eraseIdx i).length cap1) (.slice a8 (lb.length + 1) cap8) lost 1 f t (i : Int) a m (.slice oa ol oc) :=
      ⟨heap_setCell_same w8 W.heap.size 3 _ 32 _ ((G8.out.block _ hlt6a (by omega)).trans X2.out.xa), (q9 _ (lt_of_blk X2.out.xb) (by omega)).trans X2.out.xb, (q9 _ (lt_of_blk X2.out.xc) (by omega)).trans X2.out.xc, (q9 _ (lt_of_blk X2.out.xd) (by omega)).trans X2.out.xd, (q9 _ (lt_of_blk X2.out.xe) (by omega)).trans X2.out.xe, (X2.out.xg.trans' G8.out (fun i hi e => by omega)).cell _ _ (.inr (Nat.le_refl _))⟩
    have r9 : (w8.setCell ⟨W.heap.size, 3, none⟩ (.slice a8 (lb.length + 1) cap8)).ownsRow 0 39 5 (.slice a8 (lb.length + 1) cap8) (lb.length + 1) (flatX lb ++ [.int .i64 d.f, .int .i64 d.t, .int .u64 (d.n : Int), d.bv, .bool d.sp]) := ownsRow_of_block Hr8.out (fun k e => keep1 (by have := O8.out k e; omega) _)
    generalize World.setCell w8 ⟨W.heap.size, 3, none⟩ (.slice a8 (lb.length + 1) cap8) = w9 at q9 X9 r9 ⊢
    have HX9 := Lib.hid X9
    have R9 := Lib.hid r9
    have Q9 := Lib.hid q9
    obtain ⟨a09, a19, a29, a39, a49, _⟩ := five X9.xa
    obtain ⟨c0, c1, c2, c3, c4, c5, c6, c7, c8, c9⟩ := five X9.xc
    obtain ⟨d0, d1, d2, d3, d4, d5, d6, d7, d8, d9⟩ := five X9.xd
    obtain ⟨e0, e1, e2, e3, e4, _⟩ := five X9.xe
    clear X9 r9 q9
    go_wp2_with fail
    go_region
    all_goals
      go_wp2
      refine bodyPost_ret (v := .tuple #[rv nodes sent (.slice a1 (l.eraseIdx i).length cap1) (.slice a8 (lb.length + 1) cap8) lost, zdv, .bool false, .int .i64 0]) (by simp [results, Try.results13, go_sem, c0, c1, c2, c3, c4, d0, d1, d2, d3, d4]) rfl ?_
      have keyW : ∀ w', G0 W w' → (∀ k, w0.heap.size ≤ k → w'.heap[k]? = w9.heap[k]?) → Rg (fun k => Y k ∨ W.heap.size ≤ k) w' (.slice a1 (l.eraseIdx i).length cap1) (l.eraseIdx i) ∧ Rg (fun k => Y k ∨ W.heap.size ≤ k) w' (.slice a8 (lb.length + 1) cap8) (lb ++ [d]) := fun w' gw hk => by
        have kb : ∀ x, SlY Y W x → SlY (fun k => Y k ∨ W.heap.size ≤ k) w' x := fun x hx => by
          have h1 := hx.keep (W' := w') (fun k hk => gw.block k (HY.out k hk) (fun e => e))
          exact ⟨h1.1, fun b off e => (h1.2.1 b off e).imp id .inl, h1.2.2⟩
        refine ⟨⟨ownsRow_of_block R1.out (fun k e => ?_), fun k e => .inr (by have := O1.out k e; omega), fun x hx => kb x (Hh.out.byt x (mem_erase hx))⟩, ⟨?_, fun k e => .inr (by have := O8.out k e; omega), fun x hx => ?_⟩⟩
        · have h1 := O1.out k e
          have h2 := (R1.out.lt k e).2
          exact (hk k h1).trans ((Q9.out k (by omega) (by omega)).trans (K2.out k h1 h2))
        · rw [flatX_append, List.length_append]
          exact ownsRow_of_block R9.out (fun k e => hk k (by have := O8.out k e; omega))
        · rcases List.mem_append.1 hx with hx | hx
          · exact kb x (Hbb.out x hx)
          · rw [List.mem_singleton] at hx; subst hx; exact kb _ hdm.out
      refine ⟨_, _, _, _, rfl, ⟨_, _, rfl, rfl, rfl, rfl, keyW _ ?_ ?_⟩, ?_⟩
      · exact (fin10 HX9.out.xg _ _ _ _ _ _ _ _ _ _).trans (Gr.drew _ _)
      · intro k hk
        exact keep10 (by omega) (by omega) _ _ _ _ _ _ _ _ _ _
      · exact (fin10 HX9.out.xg _ _ _ _ _ _ _ _ _ _).trans (Gr.drew _ _)
end Go.Proofs.Ytjffhnpoipolfaa
