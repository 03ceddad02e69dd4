/-
  Carried over from another seat of ours (QC).
-/
import Derived.Test.YticgnaikbmnagaaQB
set_option linter.unusedVariables false
set_option linter.unusedSimpArgs false
namespace Go.Proofs.Yticgnaikbmnagaa
open Go.RowKit Go.Maps
attribute [local go_sem] Oper.semAt_some
theorem At.ns {A : Nat → Prop} {W : World} {T : Tm} {g o : Nat} (h : At A W T g o) : ∃ v, Rep A W T v ∧ Ns W g o v := h.2
end Go.Proofs.Yticgnaikbmnagaa

