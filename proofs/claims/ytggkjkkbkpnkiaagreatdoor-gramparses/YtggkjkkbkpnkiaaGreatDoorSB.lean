/-
  Two values of one tree held against each other.
-/
import Derived.Test.YtggkjkkbkpnkiaaGreatDoorHH
set_option linter.unusedVariables false
set_option linter.unusedSimpArgs false
namespace Go.Proofs.YtggkjkkbkpnkiaaGreatDoor
open Go.RowKit Go.Maps
variable {W W' : World}
set_option maxRecDepth 100000 in
set_option maxHeartbeats 1600000 in
theorem same_c (W : World) (N : Nat) (T : Tr) (v1 v2 : Value) (h1 : Rep (fun k => k < N) W T v1) (h2 : Rep (fun k => k < N) W T v2) (hN : N ≤ W.heap.size) :
    Calls Tryz.prog 9 #[v1, v2] W fun e w' => e = .returned (.bool true) ∧ Gr (fun _ => False) W w' := by
  obtain ⟨k1, s1, m1, a1, n1, c1, a2, n2, c2, rfl⟩ := h1.agg
  obtain ⟨k2, s2, m2, a3, n3, c3, a4, n4, c4, rfl⟩ := h2.agg
  have hA1 := fun w (g : Gr (fun _ => False) W w) => all_c T w N _ 30000 (h1.turn (fun z hz hl => ⟨hz, g.block z hl (fun e => e)⟩)) (Nat.le_trans hN g.size) (by decide) (by decide)
  have hA2 := fun w (g : Gr (fun _ => False) W w) => all_c T w N _ 30000 (h2.turn (fun z hz hl => ⟨hz, g.block z hl (fun e => e)⟩)) (Nat.le_trans hN g.size) (by decide) (by decide)
  have hpos : Hid (0 < ((preL [T]).take 30000).length) := by
    show 0 < _
    have := preL_pos T
    rw [List.length_take]; omega
  have hle : Hid (((preL [T]).take 30000).length ≤ 30000) := by show _ ≤ _; rw [List.length_take]; omega
  generalize (preL [T]).take 30000 = L at hA1 hA2 hpos hle
  have g0 := (Gr.alloc W (.cells #[.int .i64 k1, .string s1, .int .i64 m1, .slice a1 n1 c1, .slice a2 n2 c2] 30) (fun _ => False)).trans (Gr.alloc _ (.cells #[.int .i64 k2, .string s2, .int .i64 m2, .slice a3 n3 c3, .slice a4 n4 c4] 30) (fun _ => False))
  have hB2 : ((W.alloc (.cells #[.int .i64 k1, .string s1, .int .i64 m1, .slice a1 n1 c1, .slice a2 n2 c2] 30)).alloc (.cells #[.int .i64 k2, .string s2, .int .i64 m2, .slice a3 n3 c3, .slice a4 n4 c4] 30)).heap[W.heap.size + 1]? = some (.cells #[.int .i64 k2, .string s2, .int .i64 m2, .slice a3 n3 c3, .slice a4 n4 c4] 30 (0, 0)) := by
    have := heap_alloc_new (W.alloc (.cells #[.int .i64 k1, .string s1, .int .i64 m1, .slice a1 n1 c1, .slice a2 n2 c2] 30)) (.cells #[.int .i64 k2, .string s2, .int .i64 m2, .slice a3 n3 c3, .slice a4 n4 c4] 30)
    simpa using this
  replace hA1 := Lib.hid hA1
  replace hA2 := Lib.hid hA2
  clear h1 h2
  go_enter Tryz.func9, Tryz.ntmps9
  go_wp2_with fail
  generalize (W.alloc _).alloc _ = WB at g0 hB2 ⊢
  obtain ⟨tb, htb⟩ : ∃ tb, W.heap.size + 1 = tb := ⟨_, rfl⟩
  rw [htb] at hB2 ⊢
  refine (hA1.out WB g0).mono ?_
  rintro e w1 ⟨x1, us1, rfl, row1, rep1, g1⟩
  obtain ⟨⟨q0, q1, q2, q3, q4⟩, _⟩ := five_cells (g1.keep hB2 (fun e => e))
  have htw : tb < w1.heap.size := (Array.getElem?_eq_some_iff.1 (g1.keep hB2 (fun e => e))).1
  go_wp2_with fail
  refine (hA2.out w1 (g0.trans g1)).mono ?_
  rintro e w2 ⟨x2, us2, rfl, row2, rep2, g2⟩
  obtain ⟨gx, cx, rfl, hgx, hcx⟩ := row_all (ownsRow_gr row1 g2 (fun _ _ e => e)) (rep1.turn (fun z hz hl => ⟨hz, g2.block z hl (fun e => e)⟩)) hpos.out
  obtain ⟨gy, cy, rfl, hgy, hcy⟩ := row_all row2 rep2 hpos.out
  have hLI : (L.length : Int) ≤ 30000 := by have := hle.out; omega
  have G2 := (g0.trans g1).trans g2
  replace G2 := Lib.hid G2
  replace hcx := Lib.hid hcx
  replace hcy := Lib.hid hcy
  clear row1 row2 rep1 rep2 hA1 hA2 hB2 q0 q1 q2 q3 q4 htw g0 g1 g2
  go_wp2_with fail
  go_loopw [7] (fun u wr => ∃ i : Nat, i ≤ L.length ∧ u = .int .i64 (i : Int) ∧ Gr (fun _ => False) w2 wr) (fun u _ => L.length - (intOf u).toNat)
  case atStart => exact ⟨0, Nat.zero_le _, rfl, Gr.refl _ _⟩
  case round =>
    obtain ⟨i, hi, rfl, hG⟩ := hrel
    by_cases hlt : i < L.length
    · have hd : decide ((i : Int) < (L.length : Int)) = true := by simp; omega
      have hLi : L[i]? = some L[i] := List.getElem?_eq_getElem hlt
      obtain ⟨vx, rx, cxi⟩ := hcx.out i _ hLi
      obtain ⟨vy, ry, cyi⟩ := hcy.out i _ hLi
      generalize L[i] = U at rx ry
      obtain ⟨k, s, n, b, l⟩ := U
      obtain ⟨bv, lv, vs, rfl, hb1, hr1, _⟩ := rx
      obtain ⟨bv', lv', vs', rfl, hb2, hr2, _⟩ := ry
      obtain ⟨ba, bc, rfl⟩ := hb1.sv
      obtain ⟨ba', bc', rfl⟩ := hb2.sv
      obtain ⟨la, lc, rfl⟩ : ∃ a c, lv = .slice a l.length c := by
        rcases hr1 with ⟨h0, a, c, rfl⟩ | ⟨g, cap, cur, rfl, _⟩
        · exact ⟨_, _, by rw [h0]⟩
        · exact ⟨_, _, rfl⟩
      obtain ⟨la', lc', rfl⟩ : ∃ a c, lv' = .slice a l.length c := by
        rcases hr2 with ⟨h0, a, c, rfl⟩ | ⟨g, cap, cur, rfl, _⟩
        · exact ⟨_, _, by rw [h0]⟩
        · exact ⟨_, _, rfl⟩
      have p0 : wr.cell? ⟨gx, i * 5, none⟩ = some (.int .i64 k) := cell_gr (cxi 0 _ rfl) hG (fun e => e)
      have p1 := cell_gr (cxi 1 _ rfl) hG (fun e => e)
      have p2 := cell_gr (cxi 2 _ rfl) hG (fun e => e)
      have p3 := cell_gr (cxi 3 _ rfl) hG (fun e => e)
      have p4 := cell_gr (cxi 4 _ rfl) hG (fun e => e)
      have r0 : wr.cell? ⟨gy, i * 5, none⟩ = some (.int .i64 k) := cell_gr (cyi 0 _ rfl) hG (fun e => e)
      have r1 := cell_gr (cyi 1 _ rfl) hG (fun e => e)
      have r2 := cell_gr (cyi 2 _ rfl) hG (fun e => e)
      have r3 := cell_gr (cyi 3 _ rfl) hG (fun e => e)
      have r4 := cell_gr (cyi 4 _ rfl) hG (fun e => e)
      have hiI : (i : Int) ≤ 30000 := by omega
      have gA : ∀ o o' : Obj, Gr (fun _ => False) wr ((wr.alloc o).alloc o') := fun o o' => (Gr.alloc wr o _).trans (Gr.alloc _ o' _)
      have x1 : ∀ o o' : Obj, (convert 25 9 (.slice ba b.length bc)).run Tryz.prog ((wr.alloc o).alloc o') = .ok (.string (sb b)) ((wr.alloc o).alloc o') := fun o o' => conv_sb (hb1.sb.gr (hG.trans (gA o o')))
      have x2 : ∀ o o' : Obj, (convert 25 9 (.slice ba' b.length bc')).run Tryz.prog ((wr.alloc o).alloc o') = .ok (.string (sb b)) ((wr.alloc o).alloc o') := fun o o' => conv_sb (hb2.sb.gr (hG.trans (gA o o')))
      have hsz := hG.size
      have z1 : gx < wr.heap.size := by omega
      have z2 : gy < wr.heap.size := by omega
      have HG := Lib.hid hG
      replace gA := Lib.hid gA
      clear cxi cyi hb1 hb2 hr1 hr2 hLi hG
      generalize sb b = bb at x1 x2
      go_wp2_with fail
      exact ⟨⟨i + 1, hlt, by go_num, HG.out.trans (gA.out _ _)⟩, by simp [intOf]; omega⟩
    · have hd : decide ((i : Int) < (L.length : Int)) = false := by simp; omega
      go_wp2_with fail
      go_ret
      exact ⟨rfl, G2.out.trans hG⟩
end Go.Proofs.YtggkjkkbkpnkiaaGreatDoor
