/-
  Two trees held against each other (the reference's Same); a row of trees put behind another.
-/
import Derived.Test.YtbmbgnmkakkpfaaDoorGP
import Derived.Test.YtbmbgnmkakkpfaaDoorGI
set_option linter.unusedVariables false
set_option linter.unusedSimpArgs false
namespace Go.Proofs.YtbmbgnmkakkpfaaDoor
open Go.RowKit Go.Maps
variable {W W' : World}

theorem row_all {base : Nat} {v : Value} {l : List Tr} {us : List Value} {A : Nat → Prop} (hr : W.ownsRow base 25 5 v l.length (us.flatMap cellsOf)) (hp : Reps A W l us) (hpos : 0 < l.length) :
    ∃ g c, v = .slice (some ⟨g, 0, none⟩) l.length c ∧ g < W.heap.size ∧ ∀ (i : Nat) (T : Tr), l[i]? = some T → ∃ v', Rep A W T v' ∧ ∀ j u, (cellsOf v')[j]? = some u → W.cell? ⟨g, i * 5 + j, none⟩ = some u := by
  obtain ⟨g, c, rfl, hc⟩ := row_cells hr hpos
  have hadd : ∀ j, (⟨g, 0, none⟩ : Addr).add j = ⟨g, j, none⟩ := fun j => by unfold Addr.add; split <;> simp_all
  have hat : ∀ (i : Nat) (T : Tr), l[i]? = some T → ∃ v', Rep A W T v' ∧ ∀ j u, (cellsOf v')[j]? = some u → W.cell? ⟨g, i * 5 + j, none⟩ = some u := by
    intro i T hi
    obtain ⟨v', h1, h2⟩ := Reps.at hp i _ hi
    exact ⟨v', h1, fun j u hu => by have := hc _ _ (h2 j u hu); rwa [hadd] at this⟩
  refine ⟨g, c, rfl, ?_, hat⟩
  obtain ⟨v', h1, h2⟩ := hat 0 l[0] (List.getElem?_eq_getElem hpos)
  obtain ⟨tk, tt, tn, a1, n1, c1, a2, n2, c2, rfl⟩ := h1.agg
  exact World.block_lt_of_cell? _ _ (h2 0 _ rfl)
set_option maxRecDepth 100000 in
set_option maxHeartbeats 1600000 in
theorem same_c (W : World) (N : Nat) (T : Tr) (v1 v2 : Value) (h1 : Rep (fun k => k < N) W T v1) (h2 : Rep (fun k => k < N) W T v2) (hN : N ≤ W.heap.size) :
    Calls Tryd.prog 16 #[v1, v2] W fun e w' => e = .returned (.bool true) ∧ Gr (fun _ => False) W w' := by
  obtain ⟨k1, s1, m1, a1, n1, c1, a2, n2, c2, rfl⟩ := h1.agg
  obtain ⟨k2, s2, m2, a3, n3, c3, a4, n4, c4, rfl⟩ := h2.agg
  have hA1 := fun w (g : Gr (fun _ => False) W w) => all_c T w N _ 30000 (h1.turn (fun z hz hl => ⟨hz, g.block z hl (fun e => e)⟩)) (Nat.le_trans hN g.size) (by decide) (by decide)
  have hA2 := fun w (g : Gr (fun _ => False) W w) => all_c T w N _ 30000 (h2.turn (fun z hz hl => ⟨hz, g.block z hl (fun e => e)⟩)) (Nat.le_trans hN g.size) (by decide) (by decide)
  have hpos : Hid (0 < ((preL [T]).take 30000).length) := by
    show 0 < _
    have := preL_pos T
    rw [List.length_take]; omega
  have hle : Hid (((preL [T]).take 30000).length ≤ 30000) := by show _ ≤ _; rw [List.length_take]; omega
  generalize (preL [T]).take 30000 = L at hA1 hA2 hpos hle
  have g0 := (Gr.alloc W (.cells #[.int .i64 k1, .string s1, .int .i64 m1, .slice a1 n1 c1, .slice a2 n2 c2] 25) (fun _ => False)).trans (Gr.alloc _ (.cells #[.int .i64 k2, .string s2, .int .i64 m2, .slice a3 n3 c3, .slice a4 n4 c4] 25) (fun _ => False))
  have hB2 : ((W.alloc (.cells #[.int .i64 k1, .string s1, .int .i64 m1, .slice a1 n1 c1, .slice a2 n2 c2] 25)).alloc (.cells #[.int .i64 k2, .string s2, .int .i64 m2, .slice a3 n3 c3, .slice a4 n4 c4] 25)).heap[W.heap.size + 1]? = some (.cells #[.int .i64 k2, .string s2, .int .i64 m2, .slice a3 n3 c3, .slice a4 n4 c4] 25 (0, 0)) := by
    have := heap_alloc_new (W.alloc (.cells #[.int .i64 k1, .string s1, .int .i64 m1, .slice a1 n1 c1, .slice a2 n2 c2] 25)) (.cells #[.int .i64 k2, .string s2, .int .i64 m2, .slice a3 n3 c3, .slice a4 n4 c4] 25)
    simpa using this
  replace hA1 := Lib.hid hA1
  replace hA2 := Lib.hid hA2
  clear h1 h2
  go_enter Tryd.func16, Tryd.ntmps16
  go_wp2_with fail
  generalize (W.alloc _).alloc _ = WB at g0 hB2 ⊢
  obtain ⟨tb, htb⟩ : ∃ tb, W.heap.size + 1 = tb := ⟨_, rfl⟩
  rw [htb] at hB2 ⊢
  refine (hA1.out WB g0).mono ?_
  rintro e w1 ⟨x1, us1, rfl, row1, rep1, g1⟩
  obtain ⟨⟨q0, q1, q2, q3, q4⟩, _⟩ := five_cells (g1.keep hB2 (fun e => e))
  have htw : tb < w1.heap.size := (Array.getElem?_eq_some_iff.1 (g1.keep hB2 (fun e => e))).1
  go_wp2_with fail
  refine (hA2.out w1 (g0.trans g1)).mono ?_
  rintro e w2 ⟨x2, us2, rfl, row2, rep2, g2⟩
  obtain ⟨gx, cx, rfl, hgx, hcx⟩ := row_all (ownsRow_gr row1 g2 (fun _ _ e => e)) (rep1.turn (fun z hz hl => ⟨hz, g2.block z hl (fun e => e)⟩)) hpos.out
  obtain ⟨gy, cy, rfl, hgy, hcy⟩ := row_all row2 rep2 hpos.out
  have hLI : (L.length : Int) ≤ 30000 := by have := hle.out; omega
  have G2 := (g0.trans g1).trans g2
  replace G2 := Lib.hid G2
  replace hcx := Lib.hid hcx
  replace hcy := Lib.hid hcy
  clear row1 row2 rep1 rep2 hA1 hA2 hB2 q0 q1 q2 q3 q4 htw g0 g1 g2
  go_wp2_with fail
  go_loopw [7] (fun u wr => ∃ i : Nat, i ≤ L.length ∧ u = .int .i64 (i : Int) ∧ Gr (fun _ => False) w2 wr) (fun u _ => L.length - (intOf u).toNat)
  case atStart => exact ⟨0, Nat.zero_le _, rfl, Gr.refl _ _⟩
  case round =>
    obtain ⟨i, hi, rfl, hG⟩ := hrel
    by_cases hlt : i < L.length
    · have hd : decide ((i : Int) < (L.length : Int)) = true := by simp; omega
      have hLi : L[i]? = some L[i] := List.getElem?_eq_getElem hlt
      obtain ⟨vx, rx, cxi⟩ := hcx.out i _ hLi
      obtain ⟨vy, ry, cyi⟩ := hcy.out i _ hLi
      generalize L[i] = U at rx ry
      obtain ⟨k, s, n, b, l⟩ := U
      obtain ⟨bv, lv, vs, rfl, hb1, hr1, _⟩ := rx
      obtain ⟨bv', lv', vs', rfl, hb2, hr2, _⟩ := ry
      obtain ⟨ba, bc, rfl⟩ := hb1.sv
      obtain ⟨ba', bc', rfl⟩ := hb2.sv
      obtain ⟨la, lc, rfl⟩ : ∃ a c, lv = .slice a l.length c := by
        rcases hr1 with ⟨h0, a, c, rfl⟩ | ⟨g, cap, cur, rfl, _⟩
        · exact ⟨_, _, by rw [h0]⟩
        · exact ⟨_, _, rfl⟩
      obtain ⟨la', lc', rfl⟩ : ∃ a c, lv' = .slice a l.length c := by
        rcases hr2 with ⟨h0, a, c, rfl⟩ | ⟨g, cap, cur, rfl, _⟩
        · exact ⟨_, _, by rw [h0]⟩
        · exact ⟨_, _, rfl⟩
      have p0 : wr.cell? ⟨gx, i * 5, none⟩ = some (.int .i64 k) := cell_gr (cxi 0 _ rfl) hG (fun e => e)
      have p1 := cell_gr (cxi 1 _ rfl) hG (fun e => e)
      have p2 := cell_gr (cxi 2 _ rfl) hG (fun e => e)
      have p3 := cell_gr (cxi 3 _ rfl) hG (fun e => e)
      have p4 := cell_gr (cxi 4 _ rfl) hG (fun e => e)
      have r0 : wr.cell? ⟨gy, i * 5, none⟩ = some (.int .i64 k) := cell_gr (cyi 0 _ rfl) hG (fun e => e)
      have r1 := cell_gr (cyi 1 _ rfl) hG (fun e => e)
      have r2 := cell_gr (cyi 2 _ rfl) hG (fun e => e)
      have r3 := cell_gr (cyi 3 _ rfl) hG (fun e => e)
      have r4 := cell_gr (cyi 4 _ rfl) hG (fun e => e)
      have hiI : (i : Int) ≤ 30000 := by omega
      have gA : ∀ o o' : Obj, Gr (fun _ => False) wr ((wr.alloc o).alloc o') := fun o o' => (Gr.alloc wr o _).trans (Gr.alloc _ o' _)
      have x1 : ∀ o o' : Obj, (convert 22 9 (.slice ba b.length bc)).run Tryd.prog ((wr.alloc o).alloc o') = .ok (.string (sb b)) ((wr.alloc o).alloc o') := fun o o' => conv_sb (hb1.sb.gr (hG.trans (gA o o')))
      have x2 : ∀ o o' : Obj, (convert 22 9 (.slice ba' b.length bc')).run Tryd.prog ((wr.alloc o).alloc o') = .ok (.string (sb b)) ((wr.alloc o).alloc o') := fun o o' => conv_sb (hb2.sb.gr (hG.trans (gA o o')))
      have hsz := hG.size
      have z1 : gx < wr.heap.size := by omega
      have z2 : gy < wr.heap.size := by omega
      have HG := Lib.hid hG
      replace gA := Lib.hid gA
      clear cxi cyi hb1 hb2 hr1 hr2 hLi hG
      generalize sb b = bb at x1 x2
      go_wp2_with fail
      exact ⟨⟨i + 1, hlt, by go_num, HG.out.trans (gA.out _ _)⟩, by simp [intOf]; omega⟩
    · have hd : decide ((i : Int) < (L.length : Int)) = false := by simp; omega
      go_wp2_with fail
      go_ret
      exact ⟨rfl, G2.out.trans hG⟩
/-! ### A row behind another -/
theorem info25' : ∃ i0, Tryd.prog.info? 25 = some i0 ∧ i0.zero = some (trv 0 e0 0 nl nl) ∧ i0.size = 5 ∧ i0.bytes = 80 := info_parts info25
theorem app_run (w : World) (ty : TypeId) (base : Nat) (v : Value) (n : Nat) (xs : List Value) (hown : w.ownsRow base 25 5 v n xs) (A : Nat → Prop) (l : List Tr) (vs : List Value) (y : Value) (hy : RowT A w vs l.length y) (hr : Reps A w l vs) (hb : n + l.length ≤ 100000) (hbase : base ≤ w.heap.size) :
    ∃ v' w', (Builtin.append_ #[23, 23] ty #[v, y]).run Tryd.prog w = .ok v' w' ∧ w'.ownsRow base 25 5 v' (n + l.length) (xs ++ vs.flatMap cellsOf) ∧ Gr (fun k => base ≤ k) w w' ∧ (∀ z o, w.heap[z]? = some o → v.ownBlock ≠ some z → w'.heap[z]? = some o ∧ v'.ownBlock ≠ some z) := by
  obtain ⟨i0, hi0, hzz, hz1, hz2⟩ := info25'
  rcases hy with ⟨h0, a, c, rfl⟩ | ⟨g, cap, cur, rfl, hA, hg, hnc, htk⟩
  · have hl : l = [] := List.eq_nil_of_length_eq_zero h0
    subst hl
    have hv : vs = [] := hr
    subst hv
    refine ⟨v, w, ?_, by simpa using hown, Gr.refl _ _, fun z o h1 h2 => ⟨h1, h2⟩⟩
    obtain ⟨va, vc, rfl⟩ := ownsRow_sv hown
    rcases hown.2 with ⟨h1, h2⟩ | ⟨g, cap, cur, h1, _, _, hnc, _⟩
    · cases h1
      cases a <;> simp [Builtin.append_, run_underlying Tryd.underlying23, sizeOf, typeInfo, hi0, Builtin.lenOf, Builtin.firstCells, loadCells, loadCellsFrom, hz1]
    · cases h1
      cases a <;> simp [Builtin.append_, run_underlying Tryd.underlying23, sizeOf, typeInfo, hi0, Builtin.lenOf, Builtin.firstCells, hnc, storeCells, loadCells, loadCellsFrom, hz1]
  · have hadd : ∀ j, (⟨g, 0, none⟩ : Addr).add j = ⟨g, j, none⟩ := fun j => by unfold Addr.add; split <;> simp_all
    obtain ⟨v', w', hr', hown', hgrow, _, hloc⟩ := run_append_own_at (P := Tryd.prog) w base 23 ty 25 i0 (trv 0 e0 0 nl nl) 5 80 Tryd.underlying23 hi0 hzz hz1 hz2 rfl (by decide) v n xs hown ⟨g, 0, none⟩ l.length cap (vs.flatMap cellsOf) hr.cells (fun j u hu => by
        rw [hadd]
        simp only [World.cell?, hg]
        have hj : j < l.length * 5 := by have := (List.getElem?_eq_some_iff.1 hu).1; rw [hr.cells] at this; exact this
        have : (cur.toList.take (l.length * 5))[j]? = some u := by rw [htk]; exact hu
        rw [List.getElem?_take_of_lt hj] at this
        simpa using this) hr.one (by unfold maxLen; omega) (by omega) hbase
    exact ⟨v', w', hr', hown', Gr.of_grown hgrow (fun z e => (ownsRow_lt hown z e).1), fun z o h1 h2 => ⟨(hgrow.block z (Array.getElem?_eq_some_iff.1 h1).1 (fun e => h2 e.symm)).trans h1, fun e => by
      have hz := (Array.getElem?_eq_some_iff.1 h1).1
      rcases hloc with h | h
      · exact h2 (h ▸ e)
      · rw [h] at e; cases e; omega⟩⟩
end Go.Proofs.YtbmbgnmkakkpfaaDoor
