/-
  Arguments that came in: a call; a script.
-/
import Derived.Test.YtjffhnpoipolfaaRows
import Derived.Test.YtjffhnpoipolfaaN
import Derived.OpenShut
import Derived.SizedLaws
import Derived.Carry
import Derived.Lib.SmallJoins
set_option linter.unusedVariables false
set_option linter.unusedSimpArgs false
namespace Go.Proofs.Ytjffhnpoipolfaa
open Go.ChangeShapes Go.WideShapes Go.ChangeAt Go.RowKit Go.Maps Go.Joins

theorem own : ownKnob Try.prog.godebug = none := by kernel_rfl
theorem laidOut : laidOutB Try.prog = true := by kernel_rfl
theorem cells3 : Try.prog.cellsOf 3 = 1 := by kernel_rfl
theorem cells5 : Try.prog.cellsOf 5 = 1 := by kernel_rfl
theorem cells33 : Try.prog.cellsOf 33 = 1 := by kernel_rfl
theorem cells34 : Try.prog.cellsOf 34 = 1 := by kernel_rfl
theorem cells36 : Try.prog.cellsOf 36 = 7 := by kernel_rfl
theorem bytes5 : Try.prog.bytesOf 5 = 1 := by kernel_rfl

section
variable {H : Type} {enc : TypeId × Value → H} {W : World}
theorem open_bs {fuel : Nat} {v : Value} {x : DataW H × List MemPlace} (hf : DataW.trod enc Try.prog W 0 (fun _ => true) true fuel 34 [v] = some x)
    (hsz : ∀ elems spare, x.1 = .slice elems spare → (elems.length + spare.length) * Try.prog.bytesOf 5 ≤ reachBytes) : ∃ l, Sl W v l := by
  rcases open_ints Try.underlying34 Try.underlying5 cells5 hf with ⟨hcs, hx⟩ | ⟨a, len, cap, zs, hcs, _, hl, hm, hz, hx, hcell, hwz⟩
  · simp at hcs
    subst hcs
    exact ⟨[], by simp, by simp, .inl ⟨rfl, rfl⟩⟩
  · simp at hcs
    subst hcs
    subst hx
    have hb := hsz _ _ rfl
    have hr := reachBytes_lt
    rw [bytes5] at hb
    simp only [lits, List.length_map, List.length_take, List.length_drop, if_true] at hb hz
    have hln : ((zs.take len).map Int.toNat).length = len := by simp; omega
    refine ⟨(zs.take len).map Int.toNat, ?_, by rw [hln]; omega, .inr ⟨a, cap, by rw [hln], by rw [hln]; exact hl, by unfold maxLen at hm; omega, fun i hi => ?_⟩⟩
    · intro y hy
      obtain ⟨z, hz1, rfl⟩ := List.mem_map.1 hy
      have := bounds_u8 (hwz z (List.mem_of_mem_take hz1))
      omega
    · rw [hln] at hi
      rw [hcell i (by omega)]
      have hzi : zs.getD i 0 = zs[i]'(by omega) := by simp [List.getD_eq_getElem?_getD, List.getElem?_eq_getElem (show i < zs.length by omega)]
      have := bounds_u8 (hwz _ (List.getElem_mem (show i < zs.length by omega)))
      have e2 : ((zs.take len).map Int.toNat).getD i 0 = (zs[i]'(by omega)).toNat := by
        simp [List.getD_eq_getElem?_getD, hi, List.getElem?_eq_getElem (show i < zs.length by omega)]
      rw [hzi, e2]
      congr 2
      omega
/-- A call that came in, by its cells. -/
theorem open_op {fuel : Nat} {cs : List Value} {x : DataW H × List MemPlace} (h : DataW.trod enc Try.prog W 0 (fun _ => true) true fuel 36 cs = some x) (hz : ∀ n ∈ x.1.weights Try.prog 36, n ≤ reachBytes) :
    ∃ (k f t i a : Int) (m : Nat) (bv : Value) (l : List Nat), cs = [.int .i64 k, .int .i64 f, .int .i64 t, .int .i64 i, .int .i64 a, .int .u32 (m : Int), bv] ∧ Sl W bv l ∧ m < 4294967296 ∧ (Lit.int .i64 f).wf = true ∧ (Lit.int .i64 i).wf = true ∧ (Lit.int .i64 a).wf = true ∧ (Lit.int .i64 t).wf = true := by
  obtain ⟨xs, n, _, rfl, hl, hlen, hf⟩ := DataW.trod_struct Try.underlying36 h
  rw [cells36] at hl
  match cs, hl, xs, hlen with
  | [c0, c1, c2, c3, c4, c5, c6], _, [y0, y1, y2, y3, y4, y5, y6], _ =>
    have g0 := hf 0 _ rfl
    have g1 := hf 1 _ rfl
    have g2 := hf 2 _ rfl
    have g3 := hf 3 _ rfl
    have g4 := hf 4 _ rfl
    have g5 := hf 5 _ rfl
    have g6 := hf 6 _ rfl
    simp [cells3, cells33, cells34] at g0 g1 g2 g3 g4 g5 g6
    obtain ⟨i0, e0, _, w0⟩ := DataW.trod_int Try.underlying3 g0
    obtain ⟨i1, e1, _, w1⟩ := DataW.trod_int Try.underlying3 g1
    obtain ⟨i2, e2, _, w2⟩ := DataW.trod_int Try.underlying3 g2
    obtain ⟨i3, e3, _, w3⟩ := DataW.trod_int Try.underlying3 g3
    obtain ⟨i4, e4, _, w4⟩ := DataW.trod_int Try.underlying3 g4
    obtain ⟨i5, e5, _, w5⟩ := DataW.trod_int Try.underlying33 g5
    have b5 := bounds_u32 w5
    obtain ⟨m, rfl⟩ := Int.eq_ofNat_of_zero_le b5.1
    have hw : ∀ elems spare, y6.1 = .slice elems spare → (elems.length + spare.length) * Try.prog.bytesOf 5 ≤ reachBytes := by
      intro elems spare e
      apply hz
      have : (DataW.agg [y0.1, y1.1, y2.1, y3.1, y4.1, y5.1, y6.1] : DataW H).weights Try.prog 36 = DataW.weightsEach Try.prog [3, 3, 3, 3, 3, 33, 34] [y0.1, y1.1, y2.1, y3.1, y4.1, y5.1, y6.1] := by simp [DataW.weights, Try.underlying36]
      show _ ∈ (DataW.agg [y0.1, y1.1, y2.1, y3.1, y4.1, y5.1, y6.1] : DataW H).weights Try.prog 36
      rw [this]
      refine DataW.weights_mem_each (j := 6) (t := 34) rfl rfl _ ?_
      rw [e]
      simp [DataW.weights, Try.underlying34]
    obtain ⟨l, hs⟩ := open_bs g6 hw
    simp only [List.cons.injEq, and_true] at e0 e1 e2 e3 e4 e5
    subst e0 e1 e2 e3 e4 e5
    exact ⟨i0, i1, i2, i3, i4, m, c6, l, rfl, hs, by omega, w1, w3, w4, w2⟩
end
end Go.Proofs.Ytjffhnpoipolfaa
