/-
  Carried over from another seat of ours (P).
-/
import Ieee.Arith
import GoSem.Core.Float
set_option linter.unusedVariables false
set_option linter.unusedSimpArgs false
namespace Go.Proofs.Yticgnaikbmnagaa
open Ieee

theorem lp : double.leastPlace = -1074 := by decide

end Go.Proofs.Yticgnaikbmnagaa



