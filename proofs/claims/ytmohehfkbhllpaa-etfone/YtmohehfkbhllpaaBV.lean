/-
  Carried over from another seat of ours (BV).
-/
import Derived.Test.YtmohehfkbhllpaaAS
import Derived.Test.YtmohehfkbhllpaaZ
import Derived.Test.YtmohehfkbhllpaaBR
import Derived.Test.YtmohehfkbhllpaaBG
import Derived.Laws.BitsAllLaws
import Derived.Deep.RegionHeld3
import Derived.Test.YtmohehfkbhllpaaBH
import Derived.Test.YtmohehfkbhllpaaBS
import Derived.Test.YtmohehfkbhllpaaBW
import Derived.Test.YtmohehfkbhllpaaBN
import Derived.Defers
import Derived.Recover
import Derived.Laws.Pointers
set_option linter.unusedVariables false
set_option linter.unusedSimpArgs false
namespace Go.Proofs.Ytmohehfkbhllpaa
open Go.RowKit Go.Maps

theorem okL_nil {P : Int → Tm → Nat → Prop} {step : Int → Tm → Nat → Except Empty Nat} {d : Int} {z : Nat} : okL P step [] d z := by rw [okL]; trivial
theorem goL_nil {step : Int → Tm → Nat → Except Empty Nat} {d : Int} {z : Nat} : goL step [] d z = .ok z := by rw [goL]
end Go.Proofs.Ytmohehfkbhllpaa

