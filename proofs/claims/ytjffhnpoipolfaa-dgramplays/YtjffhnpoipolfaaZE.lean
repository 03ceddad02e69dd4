/-
  The reference's Do: a datagram is sent.
-/
import Derived.Test.YtjffhnpoipolfaaZD
import Derived.Deep.RegionHeld3
set_option linter.unusedVariables false
set_option linter.unusedSimpArgs false
namespace Go.Proofs.Ytjffhnpoipolfaa
open Go.RowKit Go.Maps Go.WideMaps
variable {S S' Y : Nat → Prop} {W W1 W' : World}
theorem b5_set1 {W0 : World} {nodes : Int} {sent : Nat} {wv bv : Value} {lost : Nat} {k f t i a m : Int} {ob : Value} (h : B5 W0 W nodes sent wv bv lost k f t i a m ob) : B5 W0 (W.setCell ⟨W0.heap.size, 1, none⟩ (.int .u64 (((sent + 1 : Nat)) : Int))) nodes (sent + 1) wv bv lost k f t i a m ob :=
  ⟨heap_setCell_same W W0.heap.size 1 _ 32 _ h.xa, (heap_setCell_other _ _ _ _ (show W0.heap.size + 1 ≠ W0.heap.size by omega)).trans h.xb, (heap_setCell_other _ _ _ _ (show W0.heap.size + 1 + 1 ≠ W0.heap.size by omega)).trans h.xc, (heap_setCell_other _ _ _ _ (show W0.heap.size + 1 + 1 + 1 ≠ W0.heap.size by omega)).trans h.xd, (heap_setCell_other _ _ _ _ (show W0.heap.size + 1 + 1 + 1 + 1 ≠ W0.heap.size by omega)).trans h.xe, h.xg.cell _ _ (.inr (Nat.le_refl _))⟩
theorem keep10n {w : World} {k : Nat} (h1 : k ≠ W.heap.size + 1 + 1) (h2 : k ≠ W.heap.size + 1 + 1 + 1) (v0 v1 v2 v3 v4 u0 u1 u2 u3 u4 : Value) : ((((((((((w.setCell ⟨W.heap.size + 1 + 1, 0, none⟩ v0).setCell ⟨W.heap.size + 1 + 1, 1, none⟩ v1).setCell ⟨W.heap.size + 1 + 1, 2, none⟩ v2).setCell ⟨W.heap.size + 1 + 1, 3, none⟩ v3).setCell ⟨W.heap.size + 1 + 1, 4, none⟩ v4).setCell ⟨W.heap.size + 1 + 1 + 1, 0, none⟩ u0).setCell ⟨W.heap.size + 1 + 1 + 1, 1, none⟩ u1).setCell ⟨W.heap.size + 1 + 1 + 1, 2, none⟩ u2).setCell ⟨W.heap.size + 1 + 1 + 1, 3, none⟩ u3).setCell ⟨W.heap.size + 1 + 1 + 1, 4, none⟩ u4).heap[k]? = w.heap[k]? := (five_old _ u0 u1 u2 u3 u4 h2).trans (five_old w v0 v1 v2 v3 v4 h1)
theorem keep10n' {w : World} {k : Nat} (h1 : k ≠ W.heap.size + 1 + 1) (h2 : k ≠ W.heap.size + 1 + 1 + 1) (v0 v1 v2 v3 v4 u0 u1 u2 u3 u4 : Value) : ((((((((((w.setCell ⟨W.heap.size + 1 + 1 + 1, 0, none⟩ v0).setCell ⟨W.heap.size + 1 + 1 + 1, 1, none⟩ v1).setCell ⟨W.heap.size + 1 + 1 + 1, 2, none⟩ v2).setCell ⟨W.heap.size + 1 + 1 + 1, 3, none⟩ v3).setCell ⟨W.heap.size + 1 + 1 + 1, 4, none⟩ v4).setCell ⟨W.heap.size + 1 + 1, 0, none⟩ u0).setCell ⟨W.heap.size + 1 + 1, 1, none⟩ u1).setCell ⟨W.heap.size + 1 + 1, 2, none⟩ u2).setCell ⟨W.heap.size + 1 + 1, 3, none⟩ u3).setCell ⟨W.heap.size + 1 + 1, 4, none⟩ u4).heap[k]? = w.heap[k]? := (five_old _ u0 u1 u2 u3 u4 h1).trans (five_old w v0 v1 v2 v3 v4 h2)
theorem b5_setd {W0 : World} {nodes : Int} {sent : Nat} {wv bv : Value} {lost : Nat} {k f t i a m : Int} {ob : Value} (h : B5 W0 W nodes sent wv bv lost k f t i a m ob) : B5 W0 (((((W.setCell ⟨W0.heap.size + 1 + 1 + 1, 0, none⟩ (.int .i64 0)).setCell ⟨W0.heap.size + 1 + 1 + 1, 1, none⟩ (.int .i64 0)).setCell ⟨W0.heap.size + 1 + 1 + 1, 2, none⟩ (.int .u64 0)).setCell ⟨W0.heap.size + 1 + 1 + 1, 3, none⟩ nl).setCell ⟨W0.heap.size + 1 + 1 + 1, 4, none⟩ (.bool false)) nodes sent wv bv lost k f t i a m ob := by
  refine ⟨(five_old W _ _ _ _ _ (by omega)).trans h.xa, (five_old W _ _ _ _ _ (by omega)).trans h.xb, (five_old W _ _ _ _ _ (by omega)).trans h.xc, ?_, (five_old W _ _ _ _ _ (by omega)).trans h.xe, h.xg.cell5 _ _ _ _ _ _ (.inr (by omega))⟩
  have e0 := heap_setCell_same W (W0.heap.size + 1 + 1 + 1) 0 _ 39 (.int .i64 0) h.xd
  have e1 := heap_setCell_same _ (W0.heap.size + 1 + 1 + 1) 1 _ 39 (.int .i64 0) e0
  have e2 := heap_setCell_same _ (W0.heap.size + 1 + 1 + 1) 2 _ 39 (.int .u64 0) e1
  have e3 := heap_setCell_same _ (W0.heap.size + 1 + 1 + 1) 3 _ 39 nl e2
  have e4 := heap_setCell_same _ (W0.heap.size + 1 + 1 + 1) 4 _ 39 (.bool false) e3
  exact e4
/-- What region 9 reads. -/
abbrev S9 (W : World) (nodes : Int) (sent : Nat) (wv bv : Value) (lost : Nat) (f t : Int) (ob : Value) (w' : World) : Prop :=
  w'.cell? ⟨W.heap.size, 0, none⟩ = some (.int .i64 nodes) ∧ w'.cell? ⟨W.heap.size, 1, none⟩ = some (.int .u64 (sent : Int)) ∧ w'.cell? ⟨W.heap.size, 2, none⟩ = some wv ∧ w'.cell? ⟨W.heap.size, 3, none⟩ = some bv ∧ w'.cell? ⟨W.heap.size, 4, none⟩ = some (.int .i64 (lost : Int)) ∧
  w'.cell? ⟨W.heap.size + 1, 1, none⟩ = some (.int .i64 f) ∧ w'.cell? ⟨W.heap.size + 1, 2, none⟩ = some (.int .i64 t) ∧ w'.cell? ⟨W.heap.size + 1, 6, none⟩ = some ob ∧
  w'.cell? ⟨W.heap.size + 1 + 1 + 1 + 1, 0, none⟩ = some (.int .i64 0) ∧ w'.cell? ⟨W.heap.size + 1 + 1 + 1 + 1, 1, none⟩ = some (.int .i64 0) ∧ w'.cell? ⟨W.heap.size + 1 + 1 + 1 + 1, 2, none⟩ = some (.int .u64 0) ∧ w'.cell? ⟨W.heap.size + 1 + 1 + 1 + 1, 3, none⟩ = some nl ∧ w'.cell? ⟨W.heap.size + 1 + 1 + 1 + 1, 4, none⟩ = some (.bool false)
theorem s9_of {W0 : World} {nodes : Int} {sent : Nat} {wv bv : Value} {lost : Nat} {k f t i a m : Int} {ob : Value} (h : B5 W0 W nodes sent wv bv lost k f t i a m ob) : S9 W0 nodes sent wv bv lost f t ob W := by
  obtain ⟨a0, a1, a2, a3, a4, _⟩ := five h.xa
  obtain ⟨b0, b1, b2, b3, b4, b5, b6⟩ := seven h.xb
  obtain ⟨e0, e1, e2, e3, e4, _⟩ := five h.xe
  exact ⟨a0, a1, a2, a3, a4, b1, b2, b6, e0, e1, e2, e3, e4⟩
theorem cell_of_heap {w w' : World} {b i : Nat} {v : Value} (h : w.cell? ⟨b, i, none⟩ = some v) (e : w'.heap[b]? = w.heap[b]?) : w'.cell? ⟨b, i, none⟩ = some v := (World.cell?_of_block (a := ⟨b, i, none⟩) e).trans h
theorem S9.keep {w w' : World} {W0 : World} {nodes : Int} {sent : Nat} {wv bv : Value} {lost : Nat} {f t : Int} {ob : Value} (h : S9 W0 nodes sent wv bv lost f t ob w) (hk : ∀ k, k ≠ W0.heap.size + 1 + 1 → k ≠ W0.heap.size + 1 + 1 + 1 → w'.heap[k]? = w.heap[k]?) : S9 W0 nodes sent wv bv lost f t ob w' := by
  obtain ⟨a0, a1, a2, a3, a4, b1, b2, b6, e0, e1, e2, e3, e4⟩ := h
  have ka := hk W0.heap.size (by omega) (by omega)
  have kb := hk (W0.heap.size + 1) (by omega) (by omega)
  have ke := hk (W0.heap.size + 1 + 1 + 1 + 1) (by omega) (by omega)
  exact ⟨cell_of_heap a0 ka, cell_of_heap a1 ka, cell_of_heap a2 ka, cell_of_heap a3 ka, cell_of_heap a4 ka, cell_of_heap b1 kb, cell_of_heap b2 kb, cell_of_heap b6 kb, cell_of_heap e0 ke, cell_of_heap e1 ke, cell_of_heap e2 ke, cell_of_heap e3 ke, cell_of_heap e4 ke⟩
theorem S9.c5 {w : World} {W0 : World} {nodes : Int} {sent : Nat} {wv bv : Value} {lost : Nat} {f t : Int} {ob : Value} (h : S9 W0 nodes sent wv bv lost f t ob w) (v0 v1 v2 v3 v4 : Value) : S9 W0 nodes sent wv bv lost f t ob (((((w.setCell ⟨W0.heap.size + 1 + 1, 0, none⟩ v0).setCell ⟨W0.heap.size + 1 + 1, 1, none⟩ v1).setCell ⟨W0.heap.size + 1 + 1, 2, none⟩ v2).setCell ⟨W0.heap.size + 1 + 1, 3, none⟩ v3).setCell ⟨W0.heap.size + 1 + 1, 4, none⟩ v4) := h.keep (fun k h1 h2 => five_old w v0 v1 v2 v3 v4 h1)
theorem S9.d5 {w : World} {W0 : World} {nodes : Int} {sent : Nat} {wv bv : Value} {lost : Nat} {f t : Int} {ob : Value} (h : S9 W0 nodes sent wv bv lost f t ob w) (v0 v1 v2 v3 v4 : Value) : S9 W0 nodes sent wv bv lost f t ob (((((w.setCell ⟨W0.heap.size + 1 + 1 + 1, 0, none⟩ v0).setCell ⟨W0.heap.size + 1 + 1 + 1, 1, none⟩ v1).setCell ⟨W0.heap.size + 1 + 1 + 1, 2, none⟩ v2).setCell ⟨W0.heap.size + 1 + 1 + 1, 3, none⟩ v3).setCell ⟨W0.heap.size + 1 + 1 + 1, 4, none⟩ v4) := h.keep (fun k h1 h2 => five_old w v0 v1 v2 v3 v4 h2)
section
variable {w : World} {ops : Array Oper} {o : Oper} {a : Act} {Q : Exit → Act → World → Prop} {K : Act → World → Prop} {E : Prop}
theorem step_put (x y : Operand) (u u' : Value) {M : World → Value → Prop} (hgd : o.guard = none) (ho : o.op = .call { callee := .value (.func 29), args := #[x, y], argTypes := #[32, 39] }) (hx : a.eval x = u) (hy : a.eval y = u')
    (hc : Calls Try.prog 29 #[u, u'] w fun e w' => ∃ nv, e = .returned nv ∧ M w' nv) (h : ∀ nv w', M w' nv → K (a.put o.dst nv) w') :
    if Region.wanted o (yielded ops a.tmps) = true then Oper.wp Try.prog o a w K Q else E :=
  step_fn2 x y u u' hgd ho hx hy (enters_of Try.func29 (by kernel_rfl) rfl) hc (fun e w' hm => by obtain ⟨nv, rfl, hm⟩ := hm; exact h nv w' hm)
end
set_option maxRecDepth 20000 in
set_option maxHeartbeats 4000000 in
theorem do0_ok (W : World) (nodes : Int) (sent : Nat) (wv : Value) (l : List Dx) (ba : Option Addr) (bl bc : Nat) (lost : Nat) (f t i a m : Int) (ob : Value) (by' : List Nat) (h : Rg Y W wv l) (hY : ∀ k, Y k → k < W.heap.size) (hl : (l.length : Int) ≤ 1024) (hlo : (lost : Int) ≤ 1000000000) (hse : (sent : Int) ≤ 1000000000) (hm : may f t nodes = true) (hs : Sl W ob by') (hb : (by'.length : Int) ≤ 1212) :
    Calls Try.prog 13 #[rv nodes sent wv (.slice ba bl bc) lost, ov 0 f t i a m ob] W (EndD W (fun w' nv dd ok c => ∃ wv' l' lost', nv = rv nodes (sent + 1) wv' (.slice ba bl bc) lost' ∧ dd = zdv ∧ ok = false ∧ c = 0 ∧ Rg (fun k => Y k ∨ W.heap.size ≤ k) w' wv' l' ∧ PutX l l' lost lost' (f, t, sent + 1, by', false))) := by
  obtain ⟨va, vc, rfl, hc1, hc2⟩ := ownsRow_sv h.row
  obtain ⟨oa, oc, rfl⟩ : ∃ a cap, ob = .slice a by'.length cap := by
    rcases hs.at' with ⟨rfl, rfl⟩ | ⟨a, cap, rfl, h1, h2, h3⟩
    · exact ⟨_, _, rfl⟩
    · exact ⟨_, _, rfl⟩
  have HB := Lib.hid (b5_new W nodes sent (.slice va l.length vc) (.slice ba bl bc) lost 0 f t i a m (.slice oa by'.length oc))
  unfold may at hm
  simp only [Bool.and_eq_true, Bool.not_eq_true'] at hm
  obtain ⟨⟨hf, ht⟩, hft⟩ := hm
  have hn1 := fun w => node_r w nodes sent (.slice va l.length vc) (.slice ba bl bc) lost f
  rw [hf] at hn1
  have hn2 := fun w => node_r w nodes sent (.slice va l.length vc) (.slice ba bl bc) lost t
  rw [ht] at hn2
  have HY := Lib.hid hY
  have hP : Hid (∀ w, G0 W w → Calls Try.prog 29 #[rv nodes (sent + 1) (.slice va l.length vc) (.slice ba bl bc) lost, dv f t (sent + 1) (.slice oa by'.length oc) false] w fun e w' => ∃ nv, e = .returned nv ∧ ∃ wa wl wc l' lost', nv = rv nodes (sent + 1) (.slice wa wl wc) (.slice ba bl bc) lost' ∧ Rg (fun k => Y k ∨ w.heap.size ≤ k) w' (.slice wa wl wc) l' ∧ PutX l l' lost lost' (f, t, sent + 1, by', false) ∧ G0 w w') := Lib.hid (fun w gw => (put_r w nodes (sent + 1) _ l ba bl bc lost f t (sent + 1) (.slice oa by'.length oc) by' false (h.keep (fun k hk => gw.block k (hY k hk) (fun e => e))) (by omega) (hs.g0 gw) (by omega) (fun k hk => Nat.lt_of_lt_of_le (hY k hk) gw.size) hlo).mono (fun e w' ⟨wa, wl, wc, l', lost', he, h2⟩ => ⟨_, he, wa, wl, wc, l', lost', rfl, h2⟩))
  clear h hY hs
  go_enter Try.func13, Try.ntmps13
  go_wp2_with fail
  refine (hn1 _).mono ?_
  rintro e w1 ⟨rfl, hg1⟩
  have X1 := Lib.hid (HB.out.g0 hg1)
  clear hg1
  obtain ⟨a01, a11, a21, a31, a41, _, fa11, _, _, _⟩ := five X1.out.xa
  obtain ⟨b01, b11, b21, b31, b41, b51, b61⟩ := seven X1.out.xb
  go_wp2_with fail
  refine (hn2 _).mono ?_
  rintro e w2 ⟨rfl, hg2⟩
  have X2 := Lib.hid (X1.out.g0 hg2)
  clear hg2 a01 a11 a21 a31 a41 fa11 b01 b11 b21 b31 b41 b51 b61
  obtain ⟨a02, a12, a22, a32, a42, _, fa12, _, _, _⟩ := five X2.out.xa
  obtain ⟨b02, b12, b22, b32, b42, b52, b62⟩ := seven X2.out.xb
  go_wp2_with fail
  obtain ⟨n1, hn1⟩ : ∃ n1 : Nat, n1 = sent + 1 := ⟨_, rfl⟩
  have hcast : (sent : Int) + 1 = (n1 : Int) := by omega
  rw [hcast]
  generalize hw3 : World.setCell w2 _ _ = w3
  have X3 : B5 W w3 nodes n1 (.slice va l.length vc) (.slice ba bl bc) lost 0 f t i a m (.slice oa by'.length oc) := by rw [← hw3, hn1]; exact b5_set1 X2.out
  clear hw3
  have hs3 : W.heap.size + 1 + 1 + 1 + 1 < w3.heap.size := lt_of_blk X3.xe
  have HX3 := Lib.hid X3
  obtain ⟨a03, a13, a23, a33, a43, _⟩ := five X3.xa
  obtain ⟨b03, b13, b23, b33, b43, b53, b63⟩ := seven X3.xb
  obtain ⟨e03, e13, e23, e33, e43, _⟩ := five X3.xe
  obtain ⟨c03, c13, c23, c33, c43, c53, c63, c73, c83, c93⟩ := five X3.xc
  obtain ⟨d03, d13, d23, d33, d43, d53, d63, d73, d83, d93⟩ := five X3.xd
  have XA := Lib.hid (X3.g0 (Gr.drew w3 _))
  have XB := Lib.hid (b5_setd XA.out)
  have S3 := s9_of XA.out
  have hcall := Lib.hid (hP.out _ XA.out.xg)
  have hcallB := Lib.hid (hP.out _ XB.out.xg)
  rw [← hn1] at hcall hcallB
  have Hn1 := Lib.hid hn1
  clear hn1 hcast
  clear X3 a02 a12 a22 a32 a42 fa12 b02 b12 b22 b32 b42 b52 b62 HB hn2 X1 X2
  go_region_held3 (S9 W nodes n1 (.slice va l.length vc) (.slice ba bl bc) lost f t (.slice oa by'.length oc)) (first | with_reducible assumption | (with_reducible refine S9.c5 ?_ _ _ _ _ _; with_reducible assumption) | (with_reducible refine S9.d5 ?_ _ _ _ _ _; with_reducible assumption) | (with_reducible refine S9.d5 (S9.c5 ?_ _ _ _ _ _) _ _ _ _ _; with_reducible assumption))
    (first
      | (go_at_call 29; with_reducible refine hcall.out.mono ?_; rintro e w4 ⟨nv, rfl, wa, wl, wc, l', lost', rfl, hR4, hp4, hg4⟩; have X4 := Lib.hid (XA.out.g0 hg4); have S4 := s9_of X4.out; have R4 := Lib.hid hR4; have P4 := Lib.hid hp4; obtain ⟨c0, c1, c2, c3, c4, c5, c6, c7, c8, c9⟩ := five X4.out.xc; obtain ⟨d0, d1, d2, d3, d4, d5, d6, d7, d8, d9⟩ := five X4.out.xd; clear hR4 hp4 hg4)
      | (go_at_call 29; with_reducible refine hcallB.out.mono ?_; rintro e w4 ⟨nv, rfl, wa, wl, wc, l', lost', rfl, hR4, hp4, hg4⟩; have X4 := Lib.hid (XB.out.g0 hg4); have S4 := s9_of X4.out; have R4 := Lib.hid hR4; have P4 := Lib.hid hp4; obtain ⟨c0, c1, c2, c3, c4, c5, c6, c7, c8, c9⟩ := five X4.out.xc; obtain ⟨d0, d1, d2, d3, d4, d5, d6, d7, d8, d9⟩ := five X4.out.xd; clear hR4 hp4 hg4)
      | fail)
  go_wp2
  refine bodyPost_ret (v := .tuple #[rv nodes n1 (.slice wa wl wc) (.slice ba bl bc) lost', zdv, .bool false, .int .i64 0]) (by simp [results, Try.results13, go_sem, c0, c1, c2, c3, c4, d0, d1, d2, d3, d4]) rfl ?_
  have key : ∀ w', (∀ k, (Y k ∨ w3.heap.size ≤ k) → w'.heap[k]? = w4.heap[k]?) → Rg (fun k => Y k ∨ W.heap.size ≤ k) w' (.slice wa wl wc) l' := fun w' hk => (Rg.keep R4.out hk).wide (fun k e => e.imp id (fun e => by have : w3.heap.size ≤ k := e; omega))
  refine ⟨_, _, _, _, rfl, ⟨_, l', lost', by rw [Hn1.out], rfl, rfl, rfl, key _ ?_, by rw [← Hn1.out]; exact P4.out⟩, ?_⟩
  · intro k hk
    have hk' : k < W.heap.size ∨ w3.heap.size ≤ k := hk.imp (HY.out k) id
    exact keep10n (by omega) (by omega) _ _ _ _ _ _ _ _ _ _
  · exact fin10 X4.out.xg _ _ _ _ _ _ _ _ _ _
end Go.Proofs.Ytjffhnpoipolfaa
