/-
  The box's All.
-/
import Derived.Test.YticgnaikbmnagaaZH
set_option linter.unusedVariables false
set_option linter.unusedSimpArgs false
namespace Go.Proofs.Yticgnaikbmnagaa
open Go.RowKit Go.Maps
attribute [local go_sem] Oper.semAt_some
variable {S S' : Nat → Prop} {W W1 W' : World}
theorem wpList_iv (w : World) {ops : Array Oper} {rest : List Oper} {o : Oper} {a : Act} {Q : Exit → Act → World → Prop} (hgd : o.guard = none) (x y : Operand)
    (ho : o.op = .call { callee := .builtin .append, args := #[x, y], argTypes := #[33, 33] }) (base p g : Nat) (v : Value) (xs : List Value) (z : Int) (a1 : Option Addr) (c1 : Nat) (a2 : Option Addr) (c2 : Nat) (hx : a.eval x = v) (hy : a.eval y = .slice (some ⟨g, 0, none⟩) 1 1)
    (hv : w.ownsRow base 35 9 v p xs) (hs : w.heap[g]? = some (.cells #[.int .i64 1, .int .i64 z, .complex .f64 0 0, .string e0, .int .i64 0, .int .u32 0, .int .u64 0, .slice a1 0 c1, .slice a2 0 c2] 35 (0, 0))) (hlen : p ≤ 1000) (hbase : base ≤ w.heap.size)
    (h : ∀ v' w', w'.ownsRow base 35 9 v' (p + 1) (xs ++ cellsOf (iv z a1 c1 a2 c2)) → w.grownBy w' v.ownBlock → (v'.ownBlock = v.ownBlock ∨ v'.ownBlock = some w.heap.size) → wpList Try.prog ops Q rest (a.put o.dst v') w') :
    wpList Try.prog ops Q (o :: rest) a w := by
  obtain ⟨i0, hi, hz0, hz1, hz2⟩ := info_parts info31
  refine wpList_own2 w hgd 33 x y ho base 35 i0 _ 9 120 Try.underlying33 hi hz0 hz1 hz2 rfl (by decide) v p xs ⟨g, 0, none⟩ 1 1 (cellsOf (iv z a1 c1 a2 c2)) hx hy hv rfl (fun j u hu => by
      rw [Addr.add_lit, Nat.zero_add]
      simp only [World.cell?, hs]
      simpa [cellsOf] using hu) (fun u hu => by simp [cellsOf] at hu; rcases hu with rfl | rfl | rfl | rfl | rfl | rfl | rfl | rfl | rfl <;> rfl) (by unfold maxLen; omega) (by omega) hbase h
set_option maxRecDepth 20000 in
set_option maxHeartbeats 3200000 in
theorem all_c (W : World) (b : Nat) (l : List Int) (p : Nat) (h : Mb W b l p) (hl : l.length ≤ 256) (hi : ∀ z ∈ l, inR z = true) : Calls Try.prog 11 #[pt b] W fun e w' => (∃ v vs, e = .returned v ∧ w'.ownsRow W.heap.size 35 9 v l.length (vs.flatMap cellsOf) ∧ Ivs l vs) ∧ Gr (fun _ => False) W w' := by
  have hlen := Lib.hid (len_c W b l p h)
  have hcp := Lib.hid (fun z (hz : z ∈ l) w a1 d1 a2 d2 => copy_i z (hi z hz) w a1 d1 a2 d2)
  obtain ⟨⟨v, vs, k1, k2, k3⟩, k4⟩ := h
  obtain ⟨a, c, rfl⟩ := ownsRow_sv k2
  have K1 := Lib.hid k1
  have K2 := Lib.hid k2
  have K3 := Lib.hid k3
  have HL := Lib.hid hl
  have hn : (l.length : Int) ≤ 256 := by omega
  have hn0 : (0 : Int) ≤ (l.length : Int) := by omega
  clear k1 k2 k3 k4 hl hi
  go_enter Try.func11, Try.ntmps11
  go_wp2_with fail
  refine hlen.out.mono ?_
  rintro e w1 ⟨rfl, g1⟩
  have G1 := Lib.hid g1
  clear hlen
  obtain ⟨i0, hi0, hz0, hz1, hz2⟩ := info_parts info31
  obtain ⟨w2, hmk, hown, hgr⟩ := run_make_own (P := Try.prog) w1 w1.heap.size 33 35 i0 _ 9 Try.underlying33 hi0 hz0 hz1 .i64 .i64 l.length (by rw [hz2]; have := HL.out; omega) (by unfold maxLen; have := HL.out; omega) (Nat.le_refl _)
  have g2 : Gr (fun _ => False) w1 w2 := Gr.of_grown hgr (fun k e => by cases e)
  have G2 := Lib.hid (g1.trans g2)
  have HW : Hid (W.heap.size ≤ w1.heap.size) := Lib.hid g1.size
  have O2 := Lib.hid (ownsRow_mono hown HW.out)
  have B2 := Lib.hid (G2.out.keep K1.out (fun e => e))
  obtain ⟨⟨c0, c1⟩, cf⟩ := two_cells B2.out
  have hb2 := (Array.getElem?_eq_some_iff.1 B2.out).1
  clear hown hgr g1 g2
  go_wp2_with fail
  clear c0 c1 cf hb2 B2
  go_loopw [17, 3] (fun u v wr => ∃ (j : Nat) (bv : List Value), u = .int .i64 (j : Int) ∧ Hid (j ≤ l.length) ∧ Hid (wr.ownsRow W.heap.size 35 9 v j (bv.flatMap cellsOf)) ∧ Hid (Ivs (l.take j) bv) ∧ Hid (Gr (fun _ => False) W wr)) (fun u _ _ => l.length - (intOf u).toNat)
  case atStart => exact ⟨0, [], rfl, Lib.hid (Nat.zero_le _), O2, Lib.hid rfl, G2⟩
  case round =>
    obtain ⟨j, bv, rfl, hj, hO, hB, hG⟩ := hrel
    clear O2 G2 hmk
    have hjI : (j : Int) ≤ 256 := by have := hj.out; have := HL.out; omega
    have hj0 : (0 : Int) ≤ (j : Int) := by omega
    obtain ⟨av, cv, rfl⟩ := ownsRow_sv hO.out
    rcases Nat.lt_or_ge j l.length with hz1' | hz1'
    · have hzI : (j : Int) < (l.length : Int) := by omega
      have hzN : decide (j < l.length) = true := by simp; omega
      obtain ⟨z, hz⟩ : ∃ z, l[j]? = some z := ⟨_, List.getElem?_eq_getElem hz1'⟩
      obtain ⟨g, c', hgc⟩ := row_form K2.out (by omega)
      cases hgc
      obtain ⟨a1, d1, a2, d2, hc⟩ := K3.out.at_ hz
      have hrow := ownsRow_gr K2.out hG.out (fun _ _ e => e)
      have y0 : wr.cell? ⟨g, j * 9, none⟩ = some (.int .i64 1) := (row_cell hrow (hc 0 _ rfl)).1
      have y1 : wr.cell? ⟨g, j * 9 + 1, none⟩ = some (.int .i64 z) := (row_cell hrow (hc 1 _ rfl)).1
      have y2 : wr.cell? ⟨g, j * 9 + 2, none⟩ = some (.complex .f64 0 0) := (row_cell hrow (hc 2 _ rfl)).1
      have y3 : wr.cell? ⟨g, j * 9 + 3, none⟩ = some (.string e0) := (row_cell hrow (hc 3 _ rfl)).1
      have y4 : wr.cell? ⟨g, j * 9 + 4, none⟩ = some (.int .i64 0) := (row_cell hrow (hc 4 _ rfl)).1
      have y5 : wr.cell? ⟨g, j * 9 + 5, none⟩ = some (.int .u32 0) := (row_cell hrow (hc 5 _ rfl)).1
      have y6 : wr.cell? ⟨g, j * 9 + 6, none⟩ = some (.int .u64 0) := (row_cell hrow (hc 6 _ rfl)).1
      have y7 : wr.cell? ⟨g, j * 9 + 7, none⟩ = some (.slice a1 0 d1) := (row_cell hrow (hc 7 _ rfl)).1
      have y8 : wr.cell? ⟨g, j * 9 + 8, none⟩ = some (.slice a2 0 d2) := (row_cell hrow (hc 8 _ rfl)).1
      have hgl := (row_cell hrow (hc 0 _ rfl)).2.1
      have hcI : (l.length : Int) ≤ (c : Int) := by have := (row_cell hrow (hc 0 _ rfl)).2.2; omega
      have hcz := Lib.hid (hcp.out z (List.mem_of_getElem? hz))
      have htk : Hid (l.take (j + 1) = l.take j ++ [z]) := Lib.hid (by rw [List.take_add_one, hz]; rfl)
      have Hz1 := Lib.hid hz1'
      clear hz hc hrow hz1'
      go_wp2_with fail
      refine (hcz.out _ _ _ _ _).mono ?_
      rintro e w7 ⟨⟨b1, f1, b2, f2, rfl⟩, g7⟩
      have G7 : Hid (Gr (fun _ => False) wr w7) := Lib.hid ((Gr.alloc wr _ _).trans g7)
      have O7 := Lib.hid (ownsRow_gr hO.out G7.out (fun _ _ e => e))
      clear g7 hcz hO y0 y1 y2 y3 y4 y5 y6 y7 y8 hgl
      go_wp2_with (first
        | (at_builtin; refine wpList_iv _ rfl _ _ rfl W.heap.size j w7.heap.size (.slice av j cv) (bv.flatMap cellsOf) z b1 f1 b2 f2 rfl rfl (O7.out.alloc _) (heap_alloc_new w7 _) (by have := hj.out; have := HL.out; omega) (by rw [World.size_alloc]; have := G7.out.size; have := hG.out.size; omega) ?_; intro v' w8 h1 h2 h3))
      refine ⟨⟨j + 1, bv ++ [iv z b1 f1 b2 f2], by simp, Lib.hid Hz1.out, Lib.hid (by rw [List.flatMap_append]; simpa using h1), Lib.hid (by rw [htk.out]; exact hB.out.append (Ivs.one _ _ _ _ _)), Lib.hid ?_⟩, ?_⟩
      · exact (hG.out.trans (G7.out.trans (Gr.alloc w7 _ _))).trans' (Gr.of_grown (S := fun i => W.heap.size ≤ i) h2 (fun k e => (ownsRow_lt O7.out k e).1)) (fun i hi e => by omega)
      · simp [intOf]; have := Hz1.out; omega
    · have hzI : decide ((j : Int) < (l.length : Int)) = false := by simp; omega
      have hzN : decide (j < l.length) = false := by simp; omega
      have ej : j = l.length := by have := hj.out; omega
      subst ej
      rw [List.take_length] at hB
      clear hz1'
      go_wp2_with fail
      go_ret
      exact ⟨⟨_, bv, rfl, hO.out, hB.out⟩, hG.out⟩
end Go.Proofs.Yticgnaikbmnagaa
