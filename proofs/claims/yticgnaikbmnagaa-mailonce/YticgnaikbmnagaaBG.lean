/-
  Carried over from another seat of ours (BG).
-/
import Derived.Test.YticgnaikbmnagaaBE
import Derived.Test.YticgnaikbmnagaaA
import Derived.Lib.Bytealg
import Derived.Laws.Externs
import Derived.BigRegion
import Derived.Laws.BitsAllLaws
import Derived.Deep.RegionHeld3
set_option linter.unusedVariables false
set_option linter.unusedSimpArgs false
namespace Go.Proofs.Yticgnaikbmnagaa
open Go.RowKit Go.Maps
variable {S S' : Nat → Prop} {W W1 W' : World}

end Go.Proofs.Yticgnaikbmnagaa
/-
  The text of bytes.
-/
namespace Go.Proofs.Yticgnaikbmnagaa
open Go.RowKit Go.Maps
variable {S S' : Nat → Prop} {W W1 W' : World}

/-- The digit of a number below 16. -/
def hx (k : Nat) : Nat := if k < 10 then 48 + k else 87 + k
end Go.Proofs.Yticgnaikbmnagaa



