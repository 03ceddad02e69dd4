/-
  Carried over from another seat of ours (QI).
-/
import Derived.Test.YticgnaikbmnagaaQH
set_option linter.unusedVariables false
set_option linter.unusedSimpArgs false
namespace Go.Proofs.Yticgnaikbmnagaa
open Go.RowKit Go.Maps Go.WideMaps
attribute [local go_sem] Oper.semAt_some
variable {S S' : Nat → Prop} {W W1 W' : World}
section
variable {w : World} {ops : Array Oper} {rest : List Oper} {o : Oper} {a : Act} {Q : Exit → Act → World → Prop} {K : Act → World → Prop} {E : Prop}
end
theorem cell1 {g : Nat} {v : Value} {t : TypeId} (h : W.heap[g]? = some (.cells #[v] t (0, 0))) : W.cell? ⟨g, 0, none⟩ = some v ∧ W.frozen? ⟨g, 0, none⟩ = false ∧ g < W.heap.size := ⟨by simp [World.cell?, h], by simp [World.frozen?, h], (Array.getElem?_eq_some_iff.1 h).1⟩
theorem Ns.g {W W' : World} {S : Nat → Prop} {g o : Nat} {v : Value} (h : Ns W g o v) (t : Gr S W W') (hs : ¬ S g) : Ns W' g o v := fun j u hu => by
  have := h j u hu
  rw [World.cell?_of_block (w' := W') (w := W) (a := ⟨g, o + j, none⟩) (t.block g (World.block_lt_of_cell? W _ this) hs)]
  exact this
end Go.Proofs.Yticgnaikbmnagaa

