/-
  A frame that came in.
-/
import Derived.Test.YtnaapgjjombdpaaL
namespace Go.Proofs.Ytnaapgjjombdpaa
open Go.ChangeShapes Go.WideShapes Go.ChangeAt Go.RowKit Go.Maps Go.Joins

section
variable {H : Type} {enc : TypeId × Value → H} {W : World}
theorem open_fr {base : Nat} {v : Value} {d : DataW H} {p : List MemPlace} (hval : Value.okWide Try.prog W .any base 28 v) (h : DataW.Trod enc Try.prog W 0 (fun _ => true) true 28 v d p)
    (hz : ∀ n ∈ d.weights Try.prog 28, n ≤ reachBytes) : ∃ (f t : Int) (bo : Nat) (sv : Value) (l : List Nat), v = fr f t bo sv ∧ Sl W sv l ∧ bo < 4294967296 := by
  obtain ⟨c0, c1, c2, c3, y0, y1, y2, y3, m, rfl, rfl, rfl, h0, h1, h2, h3⟩ := open_agg4 Try.underlying28 (by kernel_rfl) cells28 hval h
  obtain ⟨x0, e0, -, w0⟩ := DataW.trod_int Try.underlying3 h0
  obtain ⟨x1, e1, -, w1⟩ := DataW.trod_int Try.underlying3 h1
  obtain ⟨x2, e2, -, w2⟩ := DataW.trod_int Try.underlying24 h2
  have b2 := bounds_u32 w2
  obtain ⟨Y, rfl⟩ := Int.eq_ofNat_of_zero_le b2.1
  have hw : ∀ elems spare, y3.1 = .slice elems spare → (elems.length + spare.length) * Try.prog.bytesOf 5 ≤ reachBytes := by
    intro elems spare e
    apply hz
    have : (DataW.agg [y0.1, y1.1, y2.1, y3.1] : DataW H).weights Try.prog 28 = DataW.weightsEach Try.prog [3, 3, 24, 22] [y0.1, y1.1, y2.1, y3.1] := by simp [DataW.weights, Try.underlying28]
    rw [this]
    refine DataW.weights_mem_each (j := 3) (t := 22) rfl rfl _ ?_
    rw [e]
    simp [DataW.weights, Try.underlying22]
  have hs : ∃ a len cap, c3 = .slice a len cap := by
    rcases open_ints Try.underlying22 Try.underlying5 cells5 h3 with ⟨hcs, _⟩ | ⟨a, len, cap, zs, hcs, _⟩
    · exact ⟨none, 0, 0, by simpa using hcs⟩
    · exact ⟨some a, len, cap, by simpa using hcs⟩
  obtain ⟨a, len, cap, rfl⟩ := hs
  obtain ⟨l, hl⟩ := open_bs h3 hw
  simp only [List.cons.injEq, and_true] at e0 e1 e2
  subst e0 e1 e2
  exact ⟨x0, x1, Y, _, l, rfl, hl, by omega⟩
end
end Go.Proofs.Ytnaapgjjombdpaa
