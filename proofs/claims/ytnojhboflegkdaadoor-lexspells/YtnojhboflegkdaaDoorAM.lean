/-
  A token that came in.
-/
import Derived.Test.YtnojhboflegkdaaDoorAL
import Derived.Test.YtnojhboflegkdaaDoorR
import Derived.SizedLaws
import Derived.Carry
import Derived.Lib.SmallJoins
set_option linter.unusedVariables false
set_option linter.unusedSimpArgs false
namespace Go.Proofs.YtnojhboflegkdaaDoor
open Go.ChangeShapes Go.WideShapes Go.ChangeAt Go.RowKit Go.Maps Go.ChangeMaps Go.Joins

theorem laidOut : laidOutB Tryd.prog = true := by kernel_rfl
theorem cells5 : Tryd.prog.cellsOf 5 = 1 := by kernel_rfl
theorem cells33 : Tryd.prog.cellsOf 33 = 5 := by kernel_rfl
theorem cells3 : Tryd.prog.cellsOf 3 = 1 := by kernel_rfl
theorem cells2 : Tryd.prog.cellsOf 2 = 1 := by kernel_rfl
theorem cells9 : Tryd.prog.cellsOf 9 = 1 := by kernel_rfl
theorem cells31 : Tryd.prog.cellsOf 31 = 1 := by kernel_rfl

section
variable {H : Type} {enc : TypeId × Value → H} {W : World}
theorem open_bs {fuel : Nat} {v : Value} {x : DataW H × List MemPlace} (hf : DataW.trod enc Tryd.prog W 0 (fun _ => true) true fuel 31 [v] = some x) : ∃ l, Sb W v l ∧ ∀ c ∈ l, 0 ≤ c ∧ c < 256 := by
  rcases open_ints Tryd.underlying31 Tryd.underlying5 cells5 hf with ⟨hcs, hx⟩ | ⟨a, len, cap, zs, hcs, _, hl, hm, hz, hx, hcell, hwz⟩
  · simp at hcs
    subst hcs
    exact ⟨[], .inl ⟨0, rfl, rfl⟩, by simp⟩
  · simp at hcs
    subst hcs
    simp only [if_true] at hz
    have hln : (zs.take len).length = len := by simp; omega
    refine ⟨zs.take len, .inr ⟨a, cap, by rw [hln], fun j u hu => ?_⟩, fun c hc => ?_⟩
    · have hj : j < len := by have := (List.getElem?_eq_some_iff.1 hu).1; simp only [u8s_length, hln] at this; exact this
      rw [hcell j (by omega)]
      rw [← hu]
      simp [u8s, List.getD_eq_getElem?_getD, List.getElem?_take_of_lt hj, List.getElem?_eq_getElem (show j < zs.length by omega)]
    · have := bounds_u8 (hwz c (List.mem_of_mem_take hc))
      omega
theorem open_tok {base : Nat} {v : Value} {d : DataW H} {p : List MemPlace} (hval : Value.okWide Tryd.prog W .any base 33 v) (h : DataW.Trod enc Tryd.prog W 0 (fun _ => true) true 33 v d p)
    (hz : ∀ n ∈ d.weights Tryd.prog 33, n ≤ reachBytes) : ∃ (k : Int) (s : ByteArray) (n : Int) (sv : Value) (a : Int) (l : List Int), v = .agg #[.int .i64 k, .string s, .int .i64 n, sv, .int .i64 a] ∧ Sb W sv l ∧ (∀ c ∈ l, 0 ≤ c ∧ c < 256) ∧ s.size ≤ 140737488351232 ∧ n ≤ 9223372036854775807 := by
  obtain ⟨cs, rfl, hsz⟩ := okWide_struct Tryd.underlying33 hval
  obtain ⟨fuel, hf⟩ := h
  obtain ⟨xs, m, _, hx, hl, hlen, hf⟩ := DataW.trod_struct Tryd.underlying33 hf
  rw [cells33] at hl
  obtain ⟨cs⟩ := cs
  have hcl : (Value.agg ⟨cs⟩).cells.toList = cs := by simp [Value.cells]
  rw [hcl] at hl hf
  match cs, hl, xs, hlen with
  | [c0, c1, c2, c3, c4], _, [y0, y1, y2, y3, y4], _ =>
    have g0 := hf 0 _ rfl
    have g1 := hf 1 _ rfl
    have g2 := hf 2 _ rfl
    have g3 := hf 3 _ rfl
    have g4 := hf 4 _ rfl
    simp [cells3, cells2, cells9, cells31] at g0 g1 g2 g3 g4
    obtain ⟨i0, e0, _, w0⟩ := DataW.trod_int Tryd.underlying3 g0
    obtain ⟨s, e1, x1, w1⟩ := DataW.trod_string Tryd.underlying9 g1
    obtain ⟨i2, e2, _, w2⟩ := DataW.trod_int Tryd.underlying2 g2
    obtain ⟨i4, e4, _, w4⟩ := DataW.trod_int Tryd.underlying3 g4
    obtain ⟨l, hl, hb⟩ := open_bs g3
    have hd : d = .agg [y0.1, y1.1, y2.1, y3.1, y4.1] := by have := congrArg Prod.fst hx; simpa using this
    have hss : s.size ≤ reachBytes := by
      apply hz
      have : (DataW.agg [y0.1, y1.1, y2.1, y3.1, y4.1] : DataW H).weights Tryd.prog 33 = DataW.weightsEach Tryd.prog [3, 9, 2, 31, 3] [y0.1, y1.1, y2.1, y3.1, y4.1] := by simp [DataW.weights, Tryd.underlying33]
      rw [hd, this]
      refine DataW.weights_mem_each (j := 1) (t := 9) rfl rfl _ ?_
      subst x1
      simp [DataW.weights]
    have b2 := bounds_i64 w2
    simp only [List.cons.injEq, and_true] at e0 e1 e2 e4
    subst e0 e1 e2 e4
    exact ⟨i0, s, i2, c3, i4, l, rfl, hl, hb, by unfold reachBytes at hss; omega, b2.2⟩
end
end Go.Proofs.YtnojhboflegkdaaDoor
