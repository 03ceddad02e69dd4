/-
  Carried over from another seat of ours (I).
-/
import Derived.WideLaws
import Derived.Test.YtgdadjmeeblfoaaDoorC
import Derived.Lib.ConvBytes
set_option linter.unusedVariables false
set_option linter.unusedSimpArgs false
namespace Go.Proofs.YtgdadjmeeblfoaaDoor
open Go.RowKit

theorem Gr.keep {S : Nat → Prop} {W W' : World} {g : Nat} {o : Obj} (k : Gr S W W') (h : W.heap[g]? = some o) (hs : ¬ S g) : W'.heap[g]? = some o :=
  (k.block g (Array.getElem?_eq_some_iff.1 h).1 hs).trans h

end Go.Proofs.YtgdadjmeeblfoaaDoor



