/-
  Carried over from another seat of ours (QQ).
-/
import Derived.Test.YticgnaikbmnagaaQK
import Derived.Maps.RangeRun
import Derived.Maps.RangeWalk
set_option linter.unusedVariables false
set_option linter.unusedSimpArgs false
namespace Go.Proofs.Yticgnaikbmnagaa
open Go.RowKit Go.Maps Go.WideMaps
attribute [local go_sem] Oper.semAt_some
variable {S S' : Nat → Prop} {W W1 W' : World}
theorem info31b : (Try.prog.info? 35).map (fun i => (i.zero, i.size, i.bytes)) = some (some (lf 0 0 0 0 e0 0 0 0), 9, 120) := by kernel_rfl
end Go.Proofs.Yticgnaikbmnagaa

