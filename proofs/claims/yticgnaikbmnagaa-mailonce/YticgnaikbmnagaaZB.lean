/-
  The queue: its first item, and passing it over; none passed over.
-/
import Derived.Test.YticgnaikbmnagaaZA
set_option linter.unusedVariables false
set_option linter.unusedSimpArgs false
namespace Go.Proofs.Yticgnaikbmnagaa
open Go.RowKit Go.Maps
attribute [local go_sem] Oper.semAt_some
variable {S S' : Nat → Prop} {W W1 W' : World}
set_option maxRecDepth 20000 in
set_option maxHeartbeats 1600000 in
theorem first_none (W : World) (b : Nat) (l : List Int) (h : Mb W b l l.length) (hl : l.length ≤ 1000) : Calls Try.prog 20 #[pt b] W fun e w' => e = .returned (.tuple #[zt, .bool false]) ∧ Gr (fun _ => False) W w' := by
  obtain ⟨⟨v, vs, h1, h2, h3⟩, h4⟩ := h
  obtain ⟨a, c, rfl⟩ := ownsRow_sv h2
  have hb0 := (Array.getElem?_eq_some_iff.1 h1).1
  have ga := Gr.alloc W oz9 (fun _ => False)
  have h0 := Lib.hid (heap_alloc_new W oz9)
  have G0 := Lib.hid ga
  have H1 := Lib.hid (ga.keep h1 (fun e => e))
  obtain ⟨⟨c0, c1⟩, cf⟩ := two_cells H1.out
  have hlt := (Array.getElem?_eq_some_iff.1 H1.out).1
  have hn : (l.length : Int) ≤ 1000 := by omega
  clear h1 h2 h3 h4 ga hl
  go_enter Try.func20, Try.ntmps20
  go_wp2_with fail
  generalize World.alloc W _ = X0 at h0 G0 H1 c0 c1 cf hlt ⊢
  go_quiet (fail)
  obtain ⟨⟨t0, t1, t2, t3, t4, t5, t6, t7, t8⟩, tf⟩ := nine h0.out
  have l0 := (Array.getElem?_eq_some_iff.1 h0.out).1
  go_wp2_with fail
  refine bodyPost_ret (v := .tuple #[zt, .bool false]) (by simp [results, Try.results20, go_sem, t0, t1, t2, t3, t4, t5, t6, t7, t8, l0]) rfl ⟨rfl, ?_⟩
  exact (G0.out.trans (Gr.drewN X0 _ _)).set9 (g := W.heap.size) (Nat.le_refl _) _ _ _ _ _ _ _ _ _
theorem Mb.row {b p : Nat} {l : List Int} (h : Mb W b l p) (hp : 0 < l.length) : ∃ g c vs cur, W.heap[b]? = some (.cells #[.slice (some ⟨g, 0, none⟩) l.length c, .int .i64 (p : Int)] 49 (0, 0)) ∧ W.heap[g]? = some (.cells cur 35 (0, 0)) ∧ l.length ≤ c ∧ c ≤ maxLen ∧ cur.size = c * 9 ∧ cur.toList.take (l.length * 9) = vs.flatMap cellsOf ∧ Ivs l vs ∧ W.ownsRow 0 35 9 (.slice (some ⟨g, 0, none⟩) l.length c) l.length (vs.flatMap cellsOf) := by
  obtain ⟨⟨v, vs, h1, h2, h3⟩, h4⟩ := h
  rcases h2.2 with ⟨e, h0⟩ | ⟨g, cap, cur, rfl, _, k1, k2, k3, k4, k5⟩
  · omega
  · exact ⟨g, cap, vs, cur, h1, k1, k2, k3, k4, k5, h3, h2⟩
theorem Mb.item {b p : Nat} {l : List Int} {z : Int} (h : Mb W b l p) (hz : l[p]? = some z) : ∃ g c a1 c1 a2 c2, W.heap[b]? = some (.cells #[.slice (some ⟨g, 0, none⟩) l.length c, .int .i64 (p : Int)] 49 (0, 0)) ∧ l.length ≤ c ∧ g < W.heap.size ∧ ∀ q u, (cellsOf (iv z a1 c1 a2 c2))[q]? = some u → W.cell? ⟨g, p * 9 + q, none⟩ = some u := by
  have hp := (List.getElem?_eq_some_iff.1 hz).1
  obtain ⟨g, c, vs, cur, h1, h2, h3, h4, h5, h6, h7, h8⟩ := h.row (by omega)
  obtain ⟨a1, c1, a2, c2, hc⟩ := h7.at_ hz
  exact ⟨g, c, a1, c1, a2, c2, h1, h3, (Array.getElem?_eq_some_iff.1 h2).1, fun q u hu => (row_cell h8 (hc q u hu)).1⟩
set_option maxRecDepth 20000 in
set_option maxHeartbeats 1600000 in
theorem first_some (W : World) (b : Nat) (l : List Int) (p : Nat) (z : Int) (h : Mb W b l p) (hl : l.length ≤ 1000) (hz : l[p]? = some z) : Calls Try.prog 20 #[pt b] W fun e w' => (∃ a1 c1 a2 c2, e = .returned (.tuple #[iv z a1 c1 a2 c2, .bool true])) ∧ Gr (fun _ => False) W w' := by
  obtain ⟨g, c, a1, d1, a2, d2, h1, h3, hg, hc⟩ := h.item hz
  have hp := (List.getElem?_eq_some_iff.1 hz).1
  have hb0 := (Array.getElem?_eq_some_iff.1 h1).1
  have ga := Gr.alloc W oz9 (fun _ => False)
  have h0 := Lib.hid (heap_alloc_new W oz9)
  have G0 := Lib.hid ga
  have H1 := Lib.hid (ga.keep h1 (fun e => e))
  have HC : Hid (∀ q u, (cellsOf (iv z a1 d1 a2 d2))[q]? = some u → (W.alloc oz9).cell? ⟨g, p * 9 + q, none⟩ = some u) := Lib.hid (fun q u hu => by
    rw [World.cell?_of_block (w' := W.alloc oz9) (w := W) (a := ⟨g, p * 9 + q, none⟩) (ga.block g hg (fun e => e))]; exact hc q u hu)
  have hgW : g < (W.alloc oz9).heap.size := Nat.lt_of_lt_of_le hg ga.size
  obtain ⟨⟨c0, c1⟩, cf⟩ := two_cells H1.out
  have hlt := (Array.getElem?_eq_some_iff.1 H1.out).1
  have hn : (l.length : Int) ≤ 1000 := by omega
  have hpI : (p : Int) < (l.length : Int) := by omega
  have hpN : decide (p < l.length) = true := by simp; omega
  have hp0 : (0 : Int) ≤ (p : Int) := by omega
  have hne : ((p : Int) == (l.length : Int)) = false := by simp; omega
  have hcI : (l.length : Int) ≤ (c : Int) := by omega
  have hgN : Hid (g ≠ W.heap.size) := Lib.hid (by omega)
  clear h1 hc ga hl h h3 hp hz hg
  go_enter Try.func20, Try.ntmps20
  go_wp2_with fail
  generalize World.alloc W _ = X0 at h0 G0 H1 HC c0 c1 cf hlt hgW ⊢
  go_quiet (fail)
  obtain ⟨⟨t0, t1, t2, t3, t4, t5, t6, t7, t8⟩, tf⟩ := nine h0.out
  have l0 := (Array.getElem?_eq_some_iff.1 h0.out).1
  have k0 : X0.cell? ⟨g, p * 9, none⟩ = some (.int .i64 1) := HC.out 0 _ rfl
  have k1 := HC.out 1 _ rfl
  have k2 := HC.out 2 _ rfl
  have k3 := HC.out 3 _ rfl
  have k4 := HC.out 4 _ rfl
  have k5 := HC.out 5 _ rfl
  have k6 := HC.out 6 _ rfl
  have k7 := HC.out 7 _ rfl
  have k8 := HC.out 8 _ rfl
  go_wp2_with fail
  go_region
  all_goals
    go_wp2_with fail
    refine bodyPost_ret (v := .tuple #[iv z a1 d1 a2 d2, .bool true]) (by simp [results, Try.results20, go_sem, t0, t1, t2, t3, t4, t5, t6, t7, t8, l0]) rfl ⟨⟨_, _, _, _, rfl⟩, ?_⟩
    exact (G0.out.trans (Gr.drewN X0 _ _)).set9 (g := W.heap.size) (Nat.le_refl _) _ _ _ _ _ _ _ _ _
end Go.Proofs.Yticgnaikbmnagaa
