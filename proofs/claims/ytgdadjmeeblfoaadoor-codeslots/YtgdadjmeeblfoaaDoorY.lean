/-
  Carried over from another seat of ours (Y).
-/
import Derived.Test.YtgdadjmeeblfoaaDoorV
set_option linter.unusedVariables false
set_option linter.unusedSimpArgs false
namespace Go.Proofs.YtgdadjmeeblfoaaDoor
open Go.RowKit Go.Maps

/-- A term without elements and bytes. -/
structure Lf where
  k : Int
  n : Int := 0
  x : Nat := 0
  y : Nat := 0
  s : ByteArray := e0
  a : Int := 0
  c : Int := 0
  d : Int := 0
theorem nine {W : World} {g : Nat} {x0 x1 x2 x3 x4 x5 x6 x7 x8 : Value} (h : W.heap[g]? = some (.cells #[x0, x1, x2, x3, x4, x5, x6, x7, x8] 34 (0, 0))) :
    (W.cell? ⟨g, 0, none⟩ = some x0 ∧ W.cell? ⟨g, 1, none⟩ = some x1 ∧ W.cell? ⟨g, 2, none⟩ = some x2 ∧ W.cell? ⟨g, 3, none⟩ = some x3 ∧ W.cell? ⟨g, 4, none⟩ = some x4 ∧ W.cell? ⟨g, 5, none⟩ = some x5 ∧ W.cell? ⟨g, 6, none⟩ = some x6 ∧ W.cell? ⟨g, 7, none⟩ = some x7 ∧ W.cell? ⟨g, 8, none⟩ = some x8) ∧
    (∀ o, W.frozen? ⟨g, o, none⟩ = false) := by
  simp [World.cell?, World.frozen?, h]
end Go.Proofs.YtgdadjmeeblfoaaDoor



