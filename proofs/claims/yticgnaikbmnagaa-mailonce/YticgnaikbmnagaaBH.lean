/-
  Carried over from another seat of ours (BH).
-/
import Derived.Test.YticgnaikbmnagaaBG
import Derived.Test.YticgnaikbmnagaaBB
import Derived.Deep.RegionHeld3
set_option linter.unusedVariables false
set_option linter.unusedSimpArgs false
namespace Go.Proofs.Yticgnaikbmnagaa
open Go.RowKit Go.Maps
variable {S S' : Nat → Prop} {W W1 W' : World}

/-- A row of one byte. -/
def Lit (w : World) (g : Nat) (q : Int) : Prop := w.heap[g]? = some (.cells #[.int .u8 q] 5 (0, 0))
theorem Lit.sb {w : World} {g : Nat} {q : Int} (h : Lit w g q) : Sb w (.slice (some ⟨g, 0, none⟩) 1 1) [q] := by
  refine .inr ⟨⟨g, 0, none⟩, 1, rfl, fun j u hu => ?_⟩
  have hj : j < 1 := by simpa using (List.getElem?_eq_some_iff.1 hu).1
  obtain rfl : j = 0 := by omega
  unfold Lit at h
  simp [u8s] at hu
  subst hu
  simp [Addr.add, World.cell?, h]
theorem Lit.lt {w : World} {g : Nat} {q : Int} (h : Lit w g q) : g < w.heap.size := (Array.getElem?_eq_some_iff.1 h).1
theorem Lit.g0 {w w' : World} {g : Nat} {q : Int} (h : Lit w g q) (k : Gr (fun _ => False) w w') : Lit w' g q := k.keep h (fun e => e)
end Go.Proofs.Yticgnaikbmnagaa



