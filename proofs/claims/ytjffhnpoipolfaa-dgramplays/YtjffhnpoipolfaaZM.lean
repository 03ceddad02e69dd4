/-
  The reference's Do: a datagram that is spoilt already; a place that is none.
-/
import Derived.Test.YtjffhnpoipolfaaZL
set_option linter.unusedVariables false
set_option linter.unusedSimpArgs false
namespace Go.Proofs.Ytjffhnpoipolfaa
open Go.RowKit Go.Maps Go.WideMaps
variable {S S' Y : Nat → Prop} {W W1 W' : World}
set_option maxRecDepth 20000 in
set_option maxHeartbeats 1600000 in
theorem do4_twice (W : World) (nodes : Int) (sent : Nat) (wv : Value) (l : List Dx) (ba : Option Addr) (bl bc : Nat) (lost : Nat) (f t : Int) (i : Nat) (a m : Int) (oa : Option Addr) (ol oc : Nat) (h : Rg Y W wv l) (hY : ∀ k, Y k → k < W.heap.size) (hl : (l.length : Int) ≤ 1024) (d : Dx) (hd : l[i]? = some d) (hsp : d.sp = true) :
    Calls Try.prog 13 #[rv nodes sent wv (.slice ba bl bc) lost, ov 4 f t (i : Int) a m (.slice oa ol oc)] W (EndD W (No (rv nodes sent wv (.slice ba bl bc) lost) 94)) := by
  obtain ⟨g, cap, rfl, hc1, hc2, y0, y1, y2, y3, y4⟩ := rowx_at h.row hd
  have hi : i < l.length := (List.getElem?_eq_some_iff.1 hd).1
  have HB := Lib.hid (b5_new W nodes sent (.slice (some ⟨g, 0, none⟩) l.length cap) (.slice ba bl bc) lost 4 f t (i : Int) a m (.slice oa ol oc))
  have hgl : g < W.heap.size := hY g (h.own g rfl)
  have hiI : (i : Int) < (l.length : Int) := by omega
  have hgl1 : g < W.heap.size + 1 := by omega
  have hgl2 : g < W.heap.size + 1 + 1 := by omega
  have hgl3 : g < W.heap.size + 1 + 1 + 1 := by omega
  have hgl4 : g < W.heap.size + 1 + 1 + 1 + 1 := by omega
  rw [hsp] at y4
  clear h hY hd hsp
  go_enter Try.func13, Try.ntmps13
  go_wp2_with fail
  generalize hw0 : World.alloc (World.alloc _ _) _ = w0
  have X0 : B5 W w0 nodes sent (.slice (some ⟨g, 0, none⟩) l.length cap) (.slice ba bl bc) lost 4 f t (i : Int) a m (.slice oa ol oc) := by rw [← hw0]; exact HB.out.g0 (Gr.alloc _ _ _)
  have X1 := Lib.hid X0
  clear hw0
  obtain ⟨a0, a1', a2, a3, a4, fa0, fa1, fa2, fa3, fa4⟩ := five X0.xa
  obtain ⟨c0, c1, c2, c3, c4, c5, c6, c7, c8, c9⟩ := five X0.xc
  obtain ⟨d0, d1, d2, d3, d4, d5, d6, d7, d8, d9⟩ := five X0.xd
  obtain ⟨e0, e1, e2, e3, e4, _⟩ := five X0.xe
  clear X0
  go_region
  all_goals
    go_wp2
    refine bodyPost_ret (v := .tuple #[rv nodes sent (.slice (some ⟨g, 0, none⟩) l.length cap) (.slice ba bl bc) lost, zdv, .bool false, .int .i64 94]) (by simp [results, Try.results13, go_sem, c0, c1, c2, c3, c4, d0, d1, d2, d3, d4]) rfl ?_
    exact ⟨_, _, _, _, rfl, ⟨rfl, rfl, rfl, rfl⟩, by first | exact (fin10 X1.out.xg _ _ _ _ _ _ _ _ _ _).trans (Gr.drew _ _) | exact (fin10' X1.out.xg _ _ _ _ _ _ _ _ _ _).trans (Gr.drew _ _)⟩
set_option maxRecDepth 20000 in
set_option maxHeartbeats 1600000 in
theorem do4_place (W : World) (nodes : Int) (sent : Nat) (wv : Value) (l : List Dx) (ba : Option Addr) (bl bc : Nat) (lost : Nat) (f t : Int) (i : Nat) (a m : Int) (oa : Option Addr) (ol oc : Nat) (h : Rg Y W wv l) (hY : ∀ k, Y k → k < W.heap.size) (hl : (l.length : Int) ≤ 1024) (d : Dx) (hd : l[i]? = some d) (hsp : d.sp = false) (ha : a < 0 ∨ (d.by'.length : Int) ≤ a) :
    Calls Try.prog 13 #[rv nodes sent wv (.slice ba bl bc) lost, ov 4 f t (i : Int) a m (.slice oa ol oc)] W (EndD W (No (rv nodes sent wv (.slice ba bl bc) lost) 93)) := by
  obtain ⟨g, cap, rfl, hc1, hc2, y0, y1, y2, y3, y4⟩ := rowx_at h.row hd
  have hi : i < l.length := (List.getElem?_eq_some_iff.1 hd).1
  have hdl : (d.by'.length : Int) ≤ 1212 := by have := (h.byt d (List.mem_of_getElem? hd)).2.2; omega
  have HB := Lib.hid (b5_new W nodes sent (.slice (some ⟨g, 0, none⟩) l.length cap) (.slice ba bl bc) lost 4 f t (i : Int) a m (.slice oa ol oc))
  have hgl : g < W.heap.size := hY g (h.own g rfl)
  have hiI : (i : Int) < (l.length : Int) := by omega
  have hgl1 : g < W.heap.size + 1 := by omega
  have hgl2 : g < W.heap.size + 1 + 1 := by omega
  have hgl3 : g < W.heap.size + 1 + 1 + 1 := by omega
  have hgl4 : g < W.heap.size + 1 + 1 + 1 + 1 := by omega
  rw [hsp] at y4
  clear h hY hd hsp
  by_cases h0 : a < 0
  · clear ha
    go_enter Try.func13, Try.ntmps13
    go_wp2_with fail
    generalize hw0 : World.alloc (World.alloc _ _) _ = w0
    have X0 : B5 W w0 nodes sent (.slice (some ⟨g, 0, none⟩) l.length cap) (.slice ba bl bc) lost 4 f t (i : Int) a m (.slice oa ol oc) := by rw [← hw0]; exact HB.out.g0 (Gr.alloc _ _ _)
    have X1 := Lib.hid X0
    clear hw0
    obtain ⟨a0, a1', a2, a3, a4, fa0, fa1, fa2, fa3, fa4⟩ := five X0.xa
    obtain ⟨c0, c1, c2, c3, c4, c5, c6, c7, c8, c9⟩ := five X0.xc
    obtain ⟨d0, d1, d2, d3, d4, d5, d6, d7, d8, d9⟩ := five X0.xd
    obtain ⟨e0, e1, e2, e3, e4, _⟩ := five X0.xe
    clear X0
    go_region
    all_goals
      go_wp2
      refine bodyPost_ret (v := .tuple #[rv nodes sent (.slice (some ⟨g, 0, none⟩) l.length cap) (.slice ba bl bc) lost, zdv, .bool false, .int .i64 93]) (by simp [results, Try.results13, go_sem, c0, c1, c2, c3, c4, d0, d1, d2, d3, d4]) rfl ?_
      exact ⟨_, _, _, _, rfl, ⟨rfl, rfl, rfl, rfl⟩, by first | exact (fin10 X1.out.xg _ _ _ _ _ _ _ _ _ _).trans (Gr.drew _ _) | exact (fin10' X1.out.xg _ _ _ _ _ _ _ _ _ _).trans (Gr.drew _ _)⟩
  · have h1 : (d.by'.length : Int) ≤ a := by omega
    clear ha
    go_enter Try.func13, Try.ntmps13
    go_wp2_with fail
    generalize hw0 : World.alloc (World.alloc _ _) _ = w0
    have X0 : B5 W w0 nodes sent (.slice (some ⟨g, 0, none⟩) l.length cap) (.slice ba bl bc) lost 4 f t (i : Int) a m (.slice oa ol oc) := by rw [← hw0]; exact HB.out.g0 (Gr.alloc _ _ _)
    have X1 := Lib.hid X0
    clear hw0
    obtain ⟨a0, a1', a2, a3, a4, fa0, fa1, fa2, fa3, fa4⟩ := five X0.xa
    obtain ⟨c0, c1, c2, c3, c4, c5, c6, c7, c8, c9⟩ := five X0.xc
    obtain ⟨d0, d1, d2, d3, d4, d5, d6, d7, d8, d9⟩ := five X0.xd
    obtain ⟨e0, e1, e2, e3, e4, _⟩ := five X0.xe
    clear X0
    go_region
    all_goals
      go_wp2
      refine bodyPost_ret (v := .tuple #[rv nodes sent (.slice (some ⟨g, 0, none⟩) l.length cap) (.slice ba bl bc) lost, zdv, .bool false, .int .i64 93]) (by simp [results, Try.results13, go_sem, c0, c1, c2, c3, c4, d0, d1, d2, d3, d4]) rfl ?_
      exact ⟨_, _, _, _, rfl, ⟨rfl, rfl, rfl, rfl⟩, by first | exact (fin10 X1.out.xg _ _ _ _ _ _ _ _ _ _).trans (Gr.drew _ _) | exact (fin10' X1.out.xg _ _ _ _ _ _ _ _ _ _).trans (Gr.drew _ _)⟩
end Go.Proofs.Ytjffhnpoipolfaa
