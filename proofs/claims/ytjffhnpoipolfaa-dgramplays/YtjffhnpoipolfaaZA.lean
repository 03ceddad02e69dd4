/-
  The reference's Do: refusals.
-/
import Derived.Test.YtjffhnpoipolfaaZ
set_option linter.unusedVariables false
set_option linter.unusedSimpArgs false
namespace Go.Proofs.Ytjffhnpoipolfaa
open Go.RowKit Go.Maps Go.WideMaps
variable {S S' Y : Nat → Prop} {W W1 W' : World}

/-- The five blocks of Do. -/
structure B5 (W0 W : World) (nodes : Int) (sent : Nat) (wv bv : Value) (lost : Nat) (k f t i a : Int) (m : Int) (ob : Value) : Prop where
  xa : W.heap[W0.heap.size]? = some (.cells #[.int .i64 nodes, .int .u64 (sent : Int), wv, bv, .int .i64 (lost : Int)] 32 (0, 0))
  xb : W.heap[W0.heap.size + 1]? = some (.cells #[.int .i64 k, .int .i64 f, .int .i64 t, .int .i64 i, .int .i64 a, .int .u32 m, ob] 36 (0, 0))
  xc : W.heap[W0.heap.size + 1 + 1]? = some (.cells #[.int .i64 0, .int .u64 0, nl, nl, .int .i64 0] 32 (0, 0))
  xd : W.heap[W0.heap.size + 1 + 1 + 1]? = some (.cells #[.int .i64 0, .int .i64 0, .int .u64 0, nl, .bool false] 39 (0, 0))
  xe : W.heap[W0.heap.size + 1 + 1 + 1 + 1]? = some (.cells #[.int .i64 0, .int .i64 0, .int .u64 0, nl, .bool false] 39 (0, 0))
  xg : G0 W0 W
abbrev W5 (W : World) (nodes : Int) (sent : Nat) (wv bv : Value) (lost : Nat) (k f t i a : Int) (m : Int) (ob : Value) : World :=
  ((((W.alloc (.cells #[.int .i64 nodes, .int .u64 (sent : Int), wv, bv, .int .i64 (lost : Int)] 32)).alloc (.cells #[.int .i64 k, .int .i64 f, .int .i64 t, .int .i64 i, .int .i64 a, .int .u32 m, ob] 36)).alloc (.cells #[.int .i64 0, .int .u64 0, nl, nl, .int .i64 0] 32)).alloc (.cells #[.int .i64 0, .int .i64 0, .int .u64 0, nl, .bool false] 39)).alloc (.cells #[.int .i64 0, .int .i64 0, .int .u64 0, nl, .bool false] 39)
theorem alloc_at (W : World) (o : Obj) (k : Nat) (h : k = W.heap.size) : (W.alloc o).heap[k]? = some o := by rw [h]; exact heap_alloc_new _ _
theorem b5_new (W : World) (nodes : Int) (sent : Nat) (wv bv : Value) (lost : Nat) (k f t i a : Int) (m : Int) (ob : Value) : B5 W (W5 W nodes sent wv bv lost k f t i a m ob) nodes sent wv bv lost k f t i a m ob := by
  refine ⟨?_, ?_, ?_, ?_, ?_, (Gr.alloc _ _ _).trans ((Gr.alloc _ _ _).trans ((Gr.alloc _ _ _).trans ((Gr.alloc _ _ _).trans (Gr.alloc _ _ _))))⟩
  · rw [W5, heap_alloc_old _ _ (by simp only [size_alloc]; omega), heap_alloc_old _ _ (by simp only [size_alloc]; omega), heap_alloc_old _ _ (by simp only [size_alloc]; omega), heap_alloc_old _ _ (by simp only [size_alloc]; omega), heap_alloc_new]
  · rw [W5, heap_alloc_old _ _ (by simp only [size_alloc]; omega), heap_alloc_old _ _ (by simp only [size_alloc]; omega), heap_alloc_old _ _ (by simp only [size_alloc]; omega), alloc_at _ _ _ (by simp only [size_alloc])]
  · rw [W5, heap_alloc_old _ _ (by simp only [size_alloc]; omega), heap_alloc_old _ _ (by simp only [size_alloc]; omega), alloc_at _ _ _ (by simp only [size_alloc])]
  · rw [W5, heap_alloc_old _ _ (by simp only [size_alloc]; omega), alloc_at _ _ _ (by simp only [size_alloc])]
  · rw [W5, alloc_at _ _ _ (by simp only [size_alloc])]
theorem B5.g0 {W0 : World} {nodes : Int} {sent : Nat} {wv bv : Value} {lost : Nat} {k f t i a m : Int} {ob : Value} (h : B5 W0 W nodes sent wv bv lost k f t i a m ob) (g : G0 W W') : B5 W0 W' nodes sent wv bv lost k f t i a m ob :=
  ⟨(g.block _ (lt_of_blk h.xa) (fun e => e)).trans h.xa, (g.block _ (lt_of_blk h.xb) (fun e => e)).trans h.xb, (g.block _ (lt_of_blk h.xc) (fun e => e)).trans h.xc, (g.block _ (lt_of_blk h.xd) (fun e => e)).trans h.xd, (g.block _ (lt_of_blk h.xe) (fun e => e)).trans h.xe, h.xg.trans g⟩
/-- How Do ends: its net, its datagram, whether one was taken, the error. -/
def EndD (W : World) (P : World → Value → Value → Bool → Int → Prop) (e : Ending) (w' : World) : Prop := ∃ nv dvv ok c, e = .returned (.tuple #[nv, dvv, .bool ok, .int .i64 c]) ∧ P w' nv dvv ok c ∧ G0 W w'
theorem fin10 {w : World} (g : G0 W w) (v0 v1 v2 v3 v4 u0 u1 u2 u3 u4 : Value) : G0 W ((((((((((w.setCell ⟨W.heap.size + 1 + 1, 0, none⟩ v0).setCell ⟨W.heap.size + 1 + 1, 1, none⟩ v1).setCell ⟨W.heap.size + 1 + 1, 2, none⟩ v2).setCell ⟨W.heap.size + 1 + 1, 3, none⟩ v3).setCell ⟨W.heap.size + 1 + 1, 4, none⟩ v4).setCell ⟨W.heap.size + 1 + 1 + 1, 0, none⟩ u0).setCell ⟨W.heap.size + 1 + 1 + 1, 1, none⟩ u1).setCell ⟨W.heap.size + 1 + 1 + 1, 2, none⟩ u2).setCell ⟨W.heap.size + 1 + 1 + 1, 3, none⟩ u3).setCell ⟨W.heap.size + 1 + 1 + 1, 4, none⟩ u4) :=
  (g.cell5 _ _ _ _ _ _ (.inr (by omega))).cell5 _ _ _ _ _ _ (.inr (by omega))
theorem fin10' {w : World} (g : G0 W w) (v0 v1 v2 v3 v4 u0 u1 u2 u3 u4 : Value) : G0 W ((((((((((w.setCell ⟨W.heap.size + 1 + 1 + 1, 0, none⟩ v0).setCell ⟨W.heap.size + 1 + 1 + 1, 1, none⟩ v1).setCell ⟨W.heap.size + 1 + 1 + 1, 2, none⟩ v2).setCell ⟨W.heap.size + 1 + 1 + 1, 3, none⟩ v3).setCell ⟨W.heap.size + 1 + 1 + 1, 4, none⟩ v4).setCell ⟨W.heap.size + 1 + 1, 0, none⟩ u0).setCell ⟨W.heap.size + 1 + 1, 1, none⟩ u1).setCell ⟨W.heap.size + 1 + 1, 2, none⟩ u2).setCell ⟨W.heap.size + 1 + 1, 3, none⟩ u3).setCell ⟨W.heap.size + 1 + 1, 4, none⟩ u4) :=
  (g.cell5 _ _ _ _ _ _ (.inr (by omega))).cell5 _ _ _ _ _ _ (.inr (by omega))
/-- Refused: the net as it was, nothing, the error. -/
abbrev No (nv : Value) (c : Int) : World → Value → Value → Bool → Int → Prop := fun _ nv' d ok c' => nv' = nv ∧ d = zdv ∧ ok = false ∧ c' = c
set_option maxRecDepth 20000 in
set_option maxHeartbeats 1600000 in
theorem do0_node (W : World) (nodes : Int) (sent : Nat) (wa : Option Addr) (wl wc : Nat) (ba : Option Addr) (bl bc : Nat) (lost : Nat) (f t i a m : Int) (oa : Option Addr) (ol oc : Nat) (hm : may f t nodes = false) :
    Calls Try.prog 13 #[rv nodes sent (.slice wa wl wc) (.slice ba bl bc) lost, ov 0 f t i a m (.slice oa ol oc)] W (EndD W (No (rv nodes sent (.slice wa wl wc) (.slice ba bl bc) lost) 90)) := by
  have HB := Lib.hid (b5_new W nodes sent (.slice wa wl wc) (.slice ba bl bc) lost 0 f t i a m (.slice oa ol oc))
  unfold may at hm
  rcases hf : nod f nodes with _ | _
  ·
    have hn1 := fun w => node_r w nodes sent (.slice wa wl wc) (.slice ba bl bc) lost f
    rw [hf] at hn1
    go_enter Try.func13, Try.ntmps13
    go_wp2_with fail
    refine (hn1 _).mono ?_
    rintro e w1 ⟨rfl, hg1⟩
    have X1 := Lib.hid (HB.out.g0 hg1)
    clear hg1
    obtain ⟨a01, a11, a21, a31, a41, fa01, fa11, fa21, fa31, fa41⟩ := five X1.out.xa
    obtain ⟨b01, b11, b21, b31, b41, b51, b61⟩ := seven X1.out.xb
    obtain ⟨c01, c11, c21, c31, c41, c51, c61, c71, c81, c91⟩ := five X1.out.xc
    obtain ⟨d01, d11, d21, d31, d41, d51, d61, d71, d81, d91⟩ := five X1.out.xd
    obtain ⟨e01, e11, e21, e31, e41, _⟩ := five X1.out.xe
    go_wp2_with fail
    go_region
    all_goals
      go_wp2
      refine bodyPost_ret (v := .tuple #[rv nodes sent (.slice wa wl wc) (.slice ba bl bc) lost, zdv, .bool false, .int .i64 90]) (by simp [results, Try.results13, go_sem, c01, c11, c21, c31, c41, d01, d11, d21, d31, d41]) rfl ?_
      exact ⟨_, _, _, _, rfl, ⟨rfl, rfl, rfl, rfl⟩, by first | exact (fin10 X1.out.xg _ _ _ _ _ _ _ _ _ _).trans (Gr.drew _ _) | exact (fin10' X1.out.xg _ _ _ _ _ _ _ _ _ _).trans (Gr.drew _ _) | exact fin10 (X1.out.xg.trans (Gr.drew _ _)) _ _ _ _ _ _ _ _ _ _⟩
  rcases ht : nod t nodes with _ | _
  ·
    have hn1 := fun w => node_r w nodes sent (.slice wa wl wc) (.slice ba bl bc) lost f
    rw [hf] at hn1
    have hn2 := fun w => node_r w nodes sent (.slice wa wl wc) (.slice ba bl bc) lost t
    rw [ht] at hn2
    go_enter Try.func13, Try.ntmps13
    go_wp2_with fail
    refine (hn1 _).mono ?_
    rintro e w1 ⟨rfl, hg1⟩
    have X1 := Lib.hid (HB.out.g0 hg1)
    clear hg1
    obtain ⟨a01, a11, a21, a31, a41, fa01, fa11, fa21, fa31, fa41⟩ := five X1.out.xa
    obtain ⟨b01, b11, b21, b31, b41, b51, b61⟩ := seven X1.out.xb
    obtain ⟨c01, c11, c21, c31, c41, c51, c61, c71, c81, c91⟩ := five X1.out.xc
    obtain ⟨d01, d11, d21, d31, d41, d51, d61, d71, d81, d91⟩ := five X1.out.xd
    obtain ⟨e01, e11, e21, e31, e41, _⟩ := five X1.out.xe
    go_wp2_with fail
    refine (hn2 _).mono ?_
    rintro e w2 ⟨rfl, hg2⟩
    have X2 := Lib.hid (X1.out.g0 hg2)
    clear hg2
    obtain ⟨a02, a12, a22, a32, a42, fa02, fa12, fa22, fa32, fa42⟩ := five X2.out.xa
    obtain ⟨b02, b12, b22, b32, b42, b52, b62⟩ := seven X2.out.xb
    obtain ⟨c02, c12, c22, c32, c42, c52, c62, c72, c82, c92⟩ := five X2.out.xc
    obtain ⟨d02, d12, d22, d32, d42, d52, d62, d72, d82, d92⟩ := five X2.out.xd
    obtain ⟨e02, e12, e22, e32, e42, _⟩ := five X2.out.xe
    go_wp2_with fail
    go_region
    all_goals
      go_wp2
      refine bodyPost_ret (v := .tuple #[rv nodes sent (.slice wa wl wc) (.slice ba bl bc) lost, zdv, .bool false, .int .i64 90]) (by simp [results, Try.results13, go_sem, c02, c12, c22, c32, c42, d02, d12, d22, d32, d42]) rfl ?_
      exact ⟨_, _, _, _, rfl, ⟨rfl, rfl, rfl, rfl⟩, by first | exact (fin10 X2.out.xg _ _ _ _ _ _ _ _ _ _).trans (Gr.drew _ _) | exact (fin10' X2.out.xg _ _ _ _ _ _ _ _ _ _).trans (Gr.drew _ _) | exact fin10 (X2.out.xg.trans (Gr.drew _ _)) _ _ _ _ _ _ _ _ _ _⟩
  have hft : (f == t) = true := by simpa [hf, ht] using hm
  have hn1 := fun w => node_r w nodes sent (.slice wa wl wc) (.slice ba bl bc) lost f
  rw [hf] at hn1
  have hn2 := fun w => node_r w nodes sent (.slice wa wl wc) (.slice ba bl bc) lost t
  rw [ht] at hn2
  go_enter Try.func13, Try.ntmps13
  go_wp2_with fail
  refine (hn1 _).mono ?_
  rintro e w1 ⟨rfl, hg1⟩
  have X1 := Lib.hid (HB.out.g0 hg1)
  clear hg1
  obtain ⟨a01, a11, a21, a31, a41, fa01, fa11, fa21, fa31, fa41⟩ := five X1.out.xa
  obtain ⟨b01, b11, b21, b31, b41, b51, b61⟩ := seven X1.out.xb
  obtain ⟨c01, c11, c21, c31, c41, c51, c61, c71, c81, c91⟩ := five X1.out.xc
  obtain ⟨d01, d11, d21, d31, d41, d51, d61, d71, d81, d91⟩ := five X1.out.xd
  obtain ⟨e01, e11, e21, e31, e41, _⟩ := five X1.out.xe
  go_wp2_with fail
  refine (hn2 _).mono ?_
  rintro e w2 ⟨rfl, hg2⟩
  have X2 := Lib.hid (X1.out.g0 hg2)
  clear hg2
  obtain ⟨a02, a12, a22, a32, a42, fa02, fa12, fa22, fa32, fa42⟩ := five X2.out.xa
  obtain ⟨b02, b12, b22, b32, b42, b52, b62⟩ := seven X2.out.xb
  obtain ⟨c02, c12, c22, c32, c42, c52, c62, c72, c82, c92⟩ := five X2.out.xc
  obtain ⟨d02, d12, d22, d32, d42, d52, d62, d72, d82, d92⟩ := five X2.out.xd
  obtain ⟨e02, e12, e22, e32, e42, _⟩ := five X2.out.xe
  go_wp2_with fail
  go_region
  all_goals
    go_wp2
    refine bodyPost_ret (v := .tuple #[rv nodes sent (.slice wa wl wc) (.slice ba bl bc) lost, zdv, .bool false, .int .i64 90]) (by simp [results, Try.results13, go_sem, c02, c12, c22, c32, c42, d02, d12, d22, d32, d42]) rfl ?_
    exact ⟨_, _, _, _, rfl, ⟨rfl, rfl, rfl, rfl⟩, by first | exact (fin10 X2.out.xg _ _ _ _ _ _ _ _ _ _).trans (Gr.drew _ _) | exact (fin10' X2.out.xg _ _ _ _ _ _ _ _ _ _).trans (Gr.drew _ _) | exact fin10 (X2.out.xg.trans (Gr.drew _ _)) _ _ _ _ _ _ _ _ _ _⟩
set_option maxRecDepth 20000 in
set_option maxHeartbeats 1600000 in
theorem do0_long (W : World) (nodes : Int) (sent : Nat) (wa : Option Addr) (wl wc : Nat) (ba : Option Addr) (bl bc : Nat) (lost : Nat) (f t i a m : Int) (oa : Option Addr) (ol oc : Nat) (hm : may f t nodes = true) (hl : (1212 : Int) < (ol : Int)) (hl2 : (ol : Int) ≤ 9223372036854775807) :
    Calls Try.prog 13 #[rv nodes sent (.slice wa wl wc) (.slice ba bl bc) lost, ov 0 f t i a m (.slice oa ol oc)] W (EndD W (No (rv nodes sent (.slice wa wl wc) (.slice ba bl bc) lost) 91)) := by
  have HB := Lib.hid (b5_new W nodes sent (.slice wa wl wc) (.slice ba bl bc) lost 0 f t i a m (.slice oa ol oc))
  unfold may at hm
  simp only [Bool.and_eq_true, Bool.not_eq_true'] at hm
  obtain ⟨⟨hf, ht⟩, hft⟩ := hm
  have hn1 := fun w => node_r w nodes sent (.slice wa wl wc) (.slice ba bl bc) lost f
  rw [hf] at hn1
  have hn2 := fun w => node_r w nodes sent (.slice wa wl wc) (.slice ba bl bc) lost t
  rw [ht] at hn2
  go_enter Try.func13, Try.ntmps13
  go_wp2_with fail
  refine (hn1 _).mono ?_
  rintro e w1 ⟨rfl, hg1⟩
  have X1 := Lib.hid (HB.out.g0 hg1)
  clear hg1
  obtain ⟨a01, a11, a21, a31, a41, fa01, fa11, fa21, fa31, fa41⟩ := five X1.out.xa
  obtain ⟨b01, b11, b21, b31, b41, b51, b61⟩ := seven X1.out.xb
  obtain ⟨c01, c11, c21, c31, c41, c51, c61, c71, c81, c91⟩ := five X1.out.xc
  obtain ⟨d01, d11, d21, d31, d41, d51, d61, d71, d81, d91⟩ := five X1.out.xd
  obtain ⟨e01, e11, e21, e31, e41, _⟩ := five X1.out.xe
  go_wp2_with fail
  refine (hn2 _).mono ?_
  rintro e w2 ⟨rfl, hg2⟩
  have X2 := Lib.hid (X1.out.g0 hg2)
  clear hg2
  obtain ⟨a02, a12, a22, a32, a42, fa02, fa12, fa22, fa32, fa42⟩ := five X2.out.xa
  obtain ⟨b02, b12, b22, b32, b42, b52, b62⟩ := seven X2.out.xb
  obtain ⟨c02, c12, c22, c32, c42, c52, c62, c72, c82, c92⟩ := five X2.out.xc
  obtain ⟨d02, d12, d22, d32, d42, d52, d62, d72, d82, d92⟩ := five X2.out.xd
  obtain ⟨e02, e12, e22, e32, e42, _⟩ := five X2.out.xe
  go_wp2_with fail
  go_region
  all_goals
    go_wp2
    refine bodyPost_ret (v := .tuple #[rv nodes sent (.slice wa wl wc) (.slice ba bl bc) lost, zdv, .bool false, .int .i64 91]) (by simp [results, Try.results13, go_sem, c02, c12, c22, c32, c42, d02, d12, d22, d32, d42]) rfl ?_
    exact ⟨_, _, _, _, rfl, ⟨rfl, rfl, rfl, rfl⟩, by first | exact (fin10 X2.out.xg _ _ _ _ _ _ _ _ _ _).trans (Gr.drew _ _) | exact (fin10' X2.out.xg _ _ _ _ _ _ _ _ _ _).trans (Gr.drew _ _) | exact fin10 (X2.out.xg.trans (Gr.drew _ _)) _ _ _ _ _ _ _ _ _ _⟩
set_option maxRecDepth 20000 in
set_option maxHeartbeats 1600000 in
theorem do5_node (W : World) (nodes : Int) (sent : Nat) (wa : Option Addr) (wl wc : Nat) (ba : Option Addr) (bl bc : Nat) (lost : Nat) (f t i a m : Int) (oa : Option Addr) (ol oc : Nat) (hf : nod f nodes = false) :
    Calls Try.prog 13 #[rv nodes sent (.slice wa wl wc) (.slice ba bl bc) lost, ov 5 f t i a m (.slice oa ol oc)] W (EndD W (No (rv nodes sent (.slice wa wl wc) (.slice ba bl bc) lost) 90)) := by
  have HB := Lib.hid (b5_new W nodes sent (.slice wa wl wc) (.slice ba bl bc) lost 5 f t i a m (.slice oa ol oc))
  have hn1 := fun w => node_r w nodes sent (.slice wa wl wc) (.slice ba bl bc) lost f
  rw [hf] at hn1
  go_enter Try.func13, Try.ntmps13
  go_wp2_with fail
  refine (hn1 _).mono ?_
  rintro e w1 ⟨rfl, hg1⟩
  have X1 := Lib.hid (HB.out.g0 hg1)
  clear hg1
  obtain ⟨a01, a11, a21, a31, a41, fa01, fa11, fa21, fa31, fa41⟩ := five X1.out.xa
  obtain ⟨b01, b11, b21, b31, b41, b51, b61⟩ := seven X1.out.xb
  obtain ⟨c01, c11, c21, c31, c41, c51, c61, c71, c81, c91⟩ := five X1.out.xc
  obtain ⟨d01, d11, d21, d31, d41, d51, d61, d71, d81, d91⟩ := five X1.out.xd
  obtain ⟨e01, e11, e21, e31, e41, _⟩ := five X1.out.xe
  go_wp2_with fail
  go_region
  all_goals
    go_wp2
    refine bodyPost_ret (v := .tuple #[rv nodes sent (.slice wa wl wc) (.slice ba bl bc) lost, zdv, .bool false, .int .i64 90]) (by simp [results, Try.results13, go_sem, c01, c11, c21, c31, c41, d01, d11, d21, d31, d41]) rfl ?_
    exact ⟨_, _, _, _, rfl, ⟨rfl, rfl, rfl, rfl⟩, by first | exact (fin10 X1.out.xg _ _ _ _ _ _ _ _ _ _).trans (Gr.drew _ _) | exact (fin10' X1.out.xg _ _ _ _ _ _ _ _ _ _).trans (Gr.drew _ _) | exact fin10 (X1.out.xg.trans (Gr.drew _ _)) _ _ _ _ _ _ _ _ _ _⟩
set_option maxRecDepth 20000 in
set_option maxHeartbeats 1600000 in
theorem do6_node (W : World) (nodes : Int) (sent : Nat) (wa : Option Addr) (wl wc : Nat) (ba : Option Addr) (bl bc : Nat) (lost : Nat) (f t i a m : Int) (oa : Option Addr) (ol oc : Nat) (hf : nod f nodes = false) :
    Calls Try.prog 13 #[rv nodes sent (.slice wa wl wc) (.slice ba bl bc) lost, ov 6 f t i a m (.slice oa ol oc)] W (EndD W (No (rv nodes sent (.slice wa wl wc) (.slice ba bl bc) lost) 90)) := by
  have HB := Lib.hid (b5_new W nodes sent (.slice wa wl wc) (.slice ba bl bc) lost 6 f t i a m (.slice oa ol oc))
  have hn1 := fun w => node_r w nodes sent (.slice wa wl wc) (.slice ba bl bc) lost f
  rw [hf] at hn1
  go_enter Try.func13, Try.ntmps13
  go_wp2_with fail
  refine (hn1 _).mono ?_
  rintro e w1 ⟨rfl, hg1⟩
  have X1 := Lib.hid (HB.out.g0 hg1)
  clear hg1
  obtain ⟨a01, a11, a21, a31, a41, fa01, fa11, fa21, fa31, fa41⟩ := five X1.out.xa
  obtain ⟨b01, b11, b21, b31, b41, b51, b61⟩ := seven X1.out.xb
  obtain ⟨c01, c11, c21, c31, c41, c51, c61, c71, c81, c91⟩ := five X1.out.xc
  obtain ⟨d01, d11, d21, d31, d41, d51, d61, d71, d81, d91⟩ := five X1.out.xd
  obtain ⟨e01, e11, e21, e31, e41, _⟩ := five X1.out.xe
  go_wp2_with fail
  go_region
  all_goals
    go_wp2
    refine bodyPost_ret (v := .tuple #[rv nodes sent (.slice wa wl wc) (.slice ba bl bc) lost, zdv, .bool false, .int .i64 90]) (by simp [results, Try.results13, go_sem, c01, c11, c21, c31, c41, d01, d11, d21, d31, d41]) rfl ?_
    exact ⟨_, _, _, _, rfl, ⟨rfl, rfl, rfl, rfl⟩, by first | exact (fin10 X1.out.xg _ _ _ _ _ _ _ _ _ _).trans (Gr.drew _ _) | exact (fin10' X1.out.xg _ _ _ _ _ _ _ _ _ _).trans (Gr.drew _ _) | exact fin10 (X1.out.xg.trans (Gr.drew _ _)) _ _ _ _ _ _ _ _ _ _⟩
end Go.Proofs.Ytjffhnpoipolfaa
