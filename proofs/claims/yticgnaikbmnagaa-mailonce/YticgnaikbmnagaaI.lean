/-
  Carried over from another seat of ours (I).
-/
import Derived.WideLaws
import Derived.Test.YticgnaikbmnagaaC
import Derived.Lib.ConvBytes
set_option linter.unusedVariables false
set_option linter.unusedSimpArgs false
namespace Go.Proofs.Yticgnaikbmnagaa
open Go.RowKit

theorem Gr.keep {S : Nat → Prop} {W W' : World} {g : Nat} {o : Obj} (k : Gr S W W') (h : W.heap[g]? = some o) (hs : ¬ S g) : W'.heap[g]? = some o :=
  (k.block g (Array.getElem?_eq_some_iff.1 h).1 hs).trans h

theorem Gr.setNew {S : Nat → Prop} {W W' : World} {p : Addr} {v : Value} (h : Gr S W W') (hp : W.heap.size ≤ p.block) : Gr S W (W'.setCell p v) :=
  ⟨h.os, h.tape, h.output, by rw [World.size_setCell]; exact h.size, fun k hk hn => (heap_setCell_other W' p k v (by omega)).trans (h.block k hk hn)⟩
end Go.Proofs.Yticgnaikbmnagaa



