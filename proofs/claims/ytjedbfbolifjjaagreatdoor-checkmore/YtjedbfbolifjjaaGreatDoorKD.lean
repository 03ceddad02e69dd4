/-
  The reference's table of builtins.
-/
import Derived.Test.YtjedbfbolifjjaaGreatDoorKC
import Derived.Laws.Tables
set_option linter.unusedVariables false
set_option linter.unusedSimpArgs false
namespace Go.Proofs.YtjedbfbolifjjaaGreatDoor
open Go.RowKit Go.Maps
end Go.Proofs.YtjedbfbolifjjaaGreatDoor
