/-
  The reference's Do: a datagram is dropped.
-/
import Derived.Test.YtjffhnpoipolfaaZA
set_option linter.unusedVariables false
set_option linter.unusedSimpArgs false
namespace Go.Proofs.Ytjffhnpoipolfaa
open Go.RowKit Go.Maps Go.WideMaps
variable {S S' Y : Nat → Prop} {W W1 W' : World}

theorem drew_heap (w : World) : w.drew.heap = w.heap := rfl
theorem keep10 {w : World} {k : Nat} (h1 : k ≠ W.heap.size + 1 + 1) (h2 : k ≠ W.heap.size + 1 + 1 + 1) (v0 v1 v2 v3 v4 u0 u1 u2 u3 u4 : Value) : ((((((((((w.setCell ⟨W.heap.size + 1 + 1, 0, none⟩ v0).setCell ⟨W.heap.size + 1 + 1, 1, none⟩ v1).setCell ⟨W.heap.size + 1 + 1, 2, none⟩ v2).setCell ⟨W.heap.size + 1 + 1, 3, none⟩ v3).setCell ⟨W.heap.size + 1 + 1, 4, none⟩ v4).setCell ⟨W.heap.size + 1 + 1 + 1, 0, none⟩ u0).setCell ⟨W.heap.size + 1 + 1 + 1, 1, none⟩ u1).setCell ⟨W.heap.size + 1 + 1 + 1, 2, none⟩ u2).setCell ⟨W.heap.size + 1 + 1 + 1, 3, none⟩ u3).setCell ⟨W.heap.size + 1 + 1 + 1, 4, none⟩ u4).drew.heap[k]? = w.heap[k]? :=
  by rw [drew_heap]; exact (five_old _ u0 u1 u2 u3 u4 h2).trans (five_old w v0 v1 v2 v3 v4 h1)
theorem keep2 {w : World} {k b : Nat} (h : k ≠ b) (v u : Value) : ((w.setCell ⟨b, 2, none⟩ v).setCell ⟨b, 4, none⟩ u).heap[k]? = w.heap[k]? := (heap_setCell_other _ ⟨b, 4, none⟩ k u h).trans (heap_setCell_other _ ⟨b, 2, none⟩ k v h)
theorem mem_erase {l : List Dx} {i : Nat} {d : Dx} (h : d ∈ l.eraseIdx i) : d ∈ l := (List.eraseIdx_sublist l i).subset h
set_option maxRecDepth 20000 in
set_option maxHeartbeats 1600000 in
theorem do2_ok (W : World) (nodes : Int) (sent : Nat) (wv : Value) (l : List Dx) (ba : Option Addr) (bl bc : Nat) (lost : Nat) (f t : Int) (i : Nat) (a m : Int) (oa : Option Addr) (ol oc : Nat) (h : Rg Y W wv l) (hY : ∀ k, Y k → k < W.heap.size) (hi : i < l.length) (hl : (l.length : Int) ≤ 1024) (hlo : (lost : Int) ≤ 1000000000) :
    Calls Try.prog 13 #[rv nodes sent wv (.slice ba bl bc) lost, ov 2 f t (i : Int) a m (.slice oa ol oc)] W (EndD W (fun w' nv d ok c => ∃ wv', nv = rv nodes sent wv' (.slice ba bl bc) (lost + 1) ∧ d = zdv ∧ ok = false ∧ c = 0 ∧ Rg (fun k => Y k ∨ W.heap.size ≤ k) w' wv' (l.eraseIdx i))) := by
  obtain ⟨d, hd⟩ : ∃ d, l[i]? = some d := ⟨_, List.getElem?_eq_getElem hi⟩
  obtain ⟨g, cap, rfl, hc1, hc2, y0, y1, y2, y3, y4⟩ := rowx_at h.row hd
  have HB := Lib.hid (b5_new W nodes sent (.slice (some ⟨g, 0, none⟩) l.length cap) (.slice ba bl bc) lost 2 f t (i : Int) a m (.slice oa ol oc))
  have hgl : g < W.heap.size := hY g (h.own g rfl)
  have hiI : (i : Int) < (l.length : Int) := by omega
  have hgl1 : g < W.heap.size + 1 := by omega
  have hgl2 : g < W.heap.size + 1 + 1 := by omega
  have hgl3 : g < W.heap.size + 1 + 1 + 1 := by omega
  have hgl4 : g < W.heap.size + 1 + 1 + 1 + 1 := by omega
  have Hh := Lib.hid h
  have HY := Lib.hid hY
  have hW : Hid (∀ w, G0 W w → Calls Try.prog 30 #[.slice (some ⟨g, 0, none⟩) l.length cap, .int .i64 (i : Int)] w fun e w' => ∃ v', e = .returned v' ∧ w'.ownsRow 0 39 5 v' (l.eraseIdx i).length (flatX (l.eraseIdx i)) ∧ (∀ k, v'.ownBlock = some k → w.heap.size ≤ k) ∧ G0 w w') := Lib.hid (fun w g => without_r w _ l i hi (ownsRow_g0 h.row g) (by omega) (by omega))
  clear h hY hd
  go_enter Try.func13, Try.ntmps13
  go_wp2_with fail
  generalize hw0 : World.alloc (World.alloc _ _) _ = w0
  have X0 : B5 W w0 nodes sent (.slice (some ⟨g, 0, none⟩) l.length cap) (.slice ba bl bc) lost 2 f t (i : Int) a m (.slice oa ol oc) := by rw [← hw0]; exact HB.out.g0 (Gr.alloc _ _ _)
  clear hw0
  refine (hW.out w0 X0.xg).mono ?_
  rintro e w1 ⟨v', rfl, hr1, ho1, hg1⟩
  obtain ⟨a1, cap1, rfl, _, _⟩ := ownsRow_sv hr1
  have hs0 : W.heap.size + 1 + 1 + 1 + 1 < w0.heap.size := lt_of_blk X0.xe
  have X1 := Lib.hid (X0.g0 hg1)
  have R1 := Lib.hid hr1
  have O1 := Lib.hid ho1
  obtain ⟨a0, a1', a2, a3, a4, fa0, fa1, fa2, fa3, fa4⟩ := five X1.out.xa
  obtain ⟨b0, b1, b2, b3, b4, b5, b6⟩ := seven X1.out.xb
  obtain ⟨c0, c1, c2, c3, c4, c5, c6, c7, c8, c9⟩ := five X1.out.xc
  obtain ⟨d0, d1, d2, d3, d4, d5, d6, d7, d8, d9⟩ := five X1.out.xd
  obtain ⟨e0, e1, e2, e3, e4, _⟩ := five X1.out.xe
  clear hr1 ho1 hg1 X0
  go_wp2_with fail
  go_region
  all_goals
    go_wp2
    refine bodyPost_ret (v := .tuple #[rv nodes sent (.slice a1 (l.eraseIdx i).length cap1) (.slice ba bl bc) (lost + 1), zdv, .bool false, .int .i64 0]) (by simp [results, Try.results13, go_sem, c0, c1, c2, c3, c4, d0, d1, d2, d3, d4]) rfl ?_
    have gA := (X1.out.xg.cell ⟨W.heap.size, 2, none⟩ (.slice a1 (l.eraseIdx i).length cap1) (.inr (Nat.le_refl _))).cell ⟨W.heap.size, 4, none⟩ (.int .i64 ((lost : Int) + 1)) (.inr (Nat.le_refl _))
    have key : ∀ w', G0 W w' → (∀ k, w0.heap.size ≤ k → w'.heap[k]? = w1.heap[k]?) → Rg (fun k => Y k ∨ W.heap.size ≤ k) w' (.slice a1 (l.eraseIdx i).length cap1) (l.eraseIdx i) := fun w' gw hk =>
      ⟨ownsRow_of_block R1.out (fun k e => hk k (O1.out k e)), fun k e => .inr (by have := O1.out k e; omega), fun x hx => by
        have h1 := (Hh.out.byt x (mem_erase hx)).keep (W' := w') (fun k hk => gw.block k (HY.out k hk) (fun e => e))
        exact ⟨h1.1, fun b off e => (h1.2.1 b off e).imp id .inl, h1.2.2⟩⟩
    refine ⟨_, _, _, _, rfl, ⟨_, rfl, rfl, rfl, rfl, key _ ?_ ?_⟩, ?_⟩
    · exact (fin10 gA _ _ _ _ _ _ _ _ _ _).trans (Gr.drew _ _)
    · intro k hk
      exact (keep10 (by omega) (by omega) _ _ _ _ _ _ _ _ _ _).trans (keep2 (by omega) _ _)
    · exact (fin10 gA _ _ _ _ _ _ _ _ _ _).trans (Gr.drew _ _)
end Go.Proofs.Ytjffhnpoipolfaa
