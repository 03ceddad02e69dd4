/-
  Carried over from another seat of ours (BR).
-/
import Derived.Test.YtmohehfkbhllpaaBE
import Derived.Shelf.LaysM
import Derived.Shelf.Strconv.Itoa1
import Derived.Shelf.Strconv.Itoa2
import Derived.Lib.ItoaWalk
import Derived.Lib.ItoaMem
import Derived.Lib.AppendIntMem
set_option linter.unusedVariables false
set_option linter.unusedSimpArgs false
namespace Go.Proofs.Ytmohehfkbhllpaa
open Go.Shelf
end Go.Proofs.Ytmohehfkbhllpaa
namespace Go.Proofs.Ytmohehfkbhllpaa
open Go.RowKit Go.Maps Go.Sort
variable {S S' : Nat → Prop} {W W1 W' : World}

def dd (u : Nat) : List Int := (Lib.decDigits u).map fun c => (c.toNat : Int)
end Go.Proofs.Ytmohehfkbhllpaa

