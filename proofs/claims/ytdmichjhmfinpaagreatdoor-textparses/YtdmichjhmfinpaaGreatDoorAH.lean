/-
  The reference's reader: sixteen digits of base 16.
-/
import Derived.Test.YtdmichjhmfinpaaGreatDoorAG
set_option linter.unusedVariables false
set_option linter.unusedSimpArgs false
namespace Go.Proofs.YtdmichjhmfinpaaGreatDoor
open Go.RowKit Go.Maps

/-- A state of the reference's in its block, and a block for the answer. -/
structure Sx (W : World) (N : Nat) (s : ByteArray) (i n : Nat) (c a : Int) (X : World) : Prop where
  st : X.heap[N]? = some (.cells #[.string s, .int .i64 (i : Int), .int .i64 (n : Int), .int .i64 c, .int .i64 a] 53 (0, 0))
  out : X.heap[N + 1]? = some (.cells #[.string e0, .int .i64 0, .int .i64 0, .int .i64 0, .int .i64 0] 53 (0, 0))
  gr : Gr (fun _ => False) W X
theorem Sx.turn {W : World} {N : Nat} {s : ByteArray} {i n : Nat} {c a : Int} {X X' : World} (h : Sx W N s i n c a X) (g : Gr (fun _ => False) X X') : Sx W N s i n c a X' :=
  ⟨g.keep h.st (fun e => e), g.keep h.out (fun e => e), h.gr.trans g⟩
theorem set5_same {W : World} {g : Nat} {x0 x1 x2 x3 x4 v0 v1 v2 v3 v4 : Value} (h : W.heap[g]? = some (.cells #[x0, x1, x2, x3, x4] 53 (0, 0))) :
    (((((W.setCell ⟨g, 0, none⟩ v0).setCell ⟨g, 1, none⟩ v1).setCell ⟨g, 2, none⟩ v2).setCell ⟨g, 3, none⟩ v3).setCell ⟨g, 4, none⟩ v4).heap[g]? = some (.cells #[v0, v1, v2, v3, v4] 53 (0, 0)) := by
  obtain ⟨W0, hW0⟩ : ∃ W0, W.setCell ⟨g, 0, none⟩ v0 = W0 := ⟨_, rfl⟩
  have h0 : W0.heap[g]? = some (.cells #[v0, x1, x2, x3, x4] 53 (0, 0)) := hW0 ▸ heap_setCell_same W g 0 _ 53 _ h
  obtain ⟨W1, hW1⟩ : ∃ W1, W0.setCell ⟨g, 1, none⟩ v1 = W1 := ⟨_, rfl⟩
  have h1 : W1.heap[g]? = some (.cells #[v0, v1, x2, x3, x4] 53 (0, 0)) := hW1 ▸ heap_setCell_same W0 g 1 _ 53 _ h0
  obtain ⟨W2, hW2⟩ : ∃ W2, W1.setCell ⟨g, 2, none⟩ v2 = W2 := ⟨_, rfl⟩
  have h2 : W2.heap[g]? = some (.cells #[v0, v1, v2, x3, x4] 53 (0, 0)) := hW2 ▸ heap_setCell_same W1 g 2 _ 53 _ h1
  obtain ⟨W3, hW3⟩ : ∃ W3, W2.setCell ⟨g, 3, none⟩ v3 = W3 := ⟨_, rfl⟩
  have h3 : W3.heap[g]? = some (.cells #[v0, v1, v2, v3, x4] 53 (0, 0)) := hW3 ▸ heap_setCell_same W2 g 3 _ 53 _ h2
  rw [hW0, hW1, hW2, hW3]
  exact heap_setCell_same W3 g 4 _ 53 _ h3
theorem Gr.own5 (W' : World) (g : Nat) (v0 v1 v2 v3 v4 : Value) :
    Gr (fun k => k = g) W' (((((W'.setCell ⟨g, 0, none⟩ v0).setCell ⟨g, 1, none⟩ v1).setCell ⟨g, 2, none⟩ v2).setCell ⟨g, 3, none⟩ v3).setCell ⟨g, 4, none⟩ v4) :=
  ((((own1 _ _ _ _).trans (own1 _ _ _ _)).trans (own1 _ _ _ _)).trans (own1 _ _ _ _)).trans (own1 _ _ _ _)
theorem Sx.set {W : World} {N : Nat} {s : ByteArray} {i n : Nat} {c a : Int} {X : World} (hN : W.heap.size ≤ N) (h : Sx W N s i n c a X) (i' n' : Nat) (c' a' : Int) :
    Sx W N s i' n' c' a' (((((X.setCell ⟨N, 0, none⟩ (.string s)).setCell ⟨N, 1, none⟩ (.int .i64 (i' : Int))).setCell ⟨N, 2, none⟩ (.int .i64 (n' : Int))).setCell ⟨N, 3, none⟩ (.int .i64 c')).setCell ⟨N, 4, none⟩ (.int .i64 a')) :=
  ⟨set5_same h.st, (Gr.own5 X N _ _ _ _ _).keep h.out (by omega), h.gr.set5 hN _ _ _ _ _⟩

set_option maxRecDepth 200000 in
set_option maxHeartbeats 800000 in
theorem float_c (s : ByteArray) (hs : s.size ≤ 65536) (i n : Nat) (a : Int) (W : World) :
    Calls Tryz.prog 67 #[sv s i n 0 a] W fun e w' => (match hexs s 16 i 0 with
      | .ok (v, j) => e = .returned (.tuple #[sv s j n 0 a, .float .f64 v.toNat])
      | .error j => e = .returned (.tuple #[sv s j n 41 (j : Int), .float .f64 0])) ∧ Gr (fun _ => False) W w' := by
  obtain ⟨r, hr⟩ : ∃ r, hexs s 16 i 0 = r := ⟨_, rfl⟩
  rw [hr]
  have Hr := Lib.hid hr
  clear hr
  replace hs := Lib.hid hs
  go_enter Tryz.func67, Tryz.ntmps67
  go_wp2_with fail
  generalize hW1 : World.alloc (World.alloc W _) _ = W1
  have hx1 : Sx W W.heap.size s i n 0 a W1 := by
    subst hW1
    refine ⟨?_, ?_, (Gr.alloc _ _ _).trans (Gr.alloc _ _ _)⟩ <;> (simp only [al, World.size_alloc]; repeat (first | rw [if_pos trivial] | rw [if_pos (by omega)] | rw [if_neg (by omega)]))
  clear hW1
  go_loopw [4, 5] (fun u v wr => ∃ (k : Nat) (b : Int), k ≤ 16 ∧ u = .int .u64 b ∧ v = .int .i64 (k : Int) ∧ 0 ≤ b ∧ Hid (b < p16 k) ∧ Hid (r = hexs s (16 - k) (i + k) b) ∧ Sx W W.heap.size s (i + k) n 0 a wr) (fun _ v _ => 16 - (intOf v).toNat)
  case atStart => exact ⟨0, 0, by omega, rfl, rfl, by decide, (by show (0 : Int) < p16 0; decide), Hr.out.symm, hx1⟩
  case round =>
    obtain ⟨k, b, hk, rfl, rfl, hb0, Hb, Hsp, hst⟩ := hrel
    obtain ⟨j, hj⟩ : ∃ j, i + k = j := ⟨_, rfl⟩
    rw [hj] at Hsp hst
    have Hj := Lib.hid hj
    clear hj
    obtain ⟨⟨x0, x1, x2, x3, x4⟩, xf⟩ := five hst.st
    by_cases h3 : k = 16
    · subst h3
      have e : r = .ok (b, j) := Hsp.out
      subst e
      obtain ⟨⟨y0, y1, y2, y3, y4⟩, yf⟩ := five hst.out
      go_wp2_with fail
      go_region
      all_goals
        go_wp2_with fail
        exact bodyPost_ret (v := .tuple #[sv s j n 0 a, .float .f64 b.toNat]) (by simp [results, Tryz.results67, go_sem, y0, y1, y2, y3, y4]) rfl ⟨rfl, (hst.gr.set5 (g := W.heap.size + 1) (Nat.le_succ _) _ _ _ _ _).trans (Gr.drew _ _)⟩
    · have hk2 : (k : Int) < 16 := by omega
      have hb2 : b < 1152921504606846976 := by have := p16_le k (by omega); have := Hb.out; omega
      by_cases h4 : hexv (pk s j) < 0
      · have e : r = .error j := by rw [Hsp.out, show 16 - k = (15 - k) + 1 by omega, hexs, if_pos h4]
        subst e
        go_wp2_with fail
        refine (nib_no s j n a h4 _).mono ?_
        rintro e w2 ⟨rfl, hg2⟩
        have hlt2 : W.heap.size < w2.heap.size := (Array.getElem?_eq_some_iff.1 (hst.turn hg2).st).1
        have hlt3 : W.heap.size + 1 < w2.heap.size := (Array.getElem?_eq_some_iff.1 (hst.turn hg2).out).1
        have hst3 := (hst.turn hg2).set (Nat.le_refl _) j n 41 (j : Int)
        obtain ⟨⟨y0, y1, y2, y3, y4⟩, yf⟩ := five (hst.turn hg2).out
        obtain ⟨⟨x0, x1, x2, x3, x4⟩, xf⟩ := five (hst.turn hg2).st
        clear h4 hst
        go_wp2_with fail
        exact bodyPost_ret (v := .tuple #[sv s j n 41 (j : Int), .float .f64 0]) (by simp [results, Tryz.results67, go_sem, y0, y1, y2, y3, y4, hlt2, hlt3]) rfl ⟨rfl, (hst3.gr.set5 (g := W.heap.size + 1) (Nat.le_succ _) _ _ _ _ _).trans (Gr.alloc _ _ _)⟩
      · have h4' : 0 ≤ hexv (pk s j) := by omega
        have hx2 := hexv_lt (pk s j)
        have Hs2 : Hid (r = hexs s (16 - (k + 1)) (j + 1) (b * 16 + hexv (pk s j))) := by
          show r = _
          rw [Hsp.out, show 16 - k = (15 - k) + 1 by omega, hexs, if_neg h4, show 16 - (k + 1) = 15 - k by omega]
        have hlt := lt_of_hexv h4'
        have hj2 : (j : Int) < 65536 := by have := hs.out; omega
        obtain ⟨x, hx⟩ : ∃ x, hexv (pk s j) = x := ⟨_, rfl⟩
        rw [hx] at h4 h4' hx2 Hs2
        have hnb := fun W => nibble_ok s j n a x hs.out hx h4' W
        clear hx hlt h4
        go_wp2_with fail
        refine (hnb _).mono ?_
        rintro e w2 ⟨rfl, hg2⟩
        have hlt2 : W.heap.size < w2.heap.size := (Array.getElem?_eq_some_iff.1 (hst.turn hg2).st).1
        have hst3 := (hst.turn hg2).set (Nat.le_refl _) (j + 1) n 0 a
        obtain ⟨⟨x0, x1, x2, x3, x4⟩, xf⟩ := five (hst.turn hg2).st
        clear hst
        go_wp2_with fail
        refine ⟨⟨k + 1, b * 16 + x, by omega, rfl, rfl, by omega, ?_, ?_, ?_⟩, by simp [intOf]; omega⟩
        · have := Hb.out
          show b * 16 + x < p16 (k + 1)
          rw [p16_succ]; omega
        · have e : i + (k + 1) = j + 1 := by have := Hj.out; omega
          rw [e]; exact Hs2
        · have e : i + (k + 1) = j + 1 := by have := Hj.out; omega
          rw [e]; exact hst3.turn (Gr.alloc _ _ _)
end Go.Proofs.YtdmichjhmfinpaaGreatDoor
