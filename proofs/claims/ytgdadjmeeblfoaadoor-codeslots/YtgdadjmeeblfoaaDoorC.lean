/-
  Carried over from another seat of ours (C).
-/
import Derived.Test.YtgdadjmeeblfoaaDoorA
import Derived.Lib.Bytealg
import Derived.Laws.Externs
import Derived.Lib.Walk
import Derived.Lib.BufferWrite
import Derived.Lib.UnsafeStr
import Derived.Laws.MakeOwn
import Derived.Deep.RegionWith
set_option linter.unusedVariables false
set_option linter.unusedSimpArgs false
namespace Go.Proofs.YtgdadjmeeblfoaaDoor
open Go.RowKit

/-! ### A copy of a text -/
end Go.Proofs.YtgdadjmeeblfoaaDoor
/-
  The reader's complex numbers: twice sixteen digits of base 16.
-/
namespace Go.Proofs.YtgdadjmeeblfoaaDoor
open Go.RowKit

@[go_sem] theorem cf96 (x : Int) (w : World) : (callFunc 96 #[.int .u64 x]).run Tryd.prog w = .ok (Next.value (.float .f64 x.toNat)) w := by
  rw [run_callFunc_extern (e := Extern.MathFloatBits.float64frombits) Tryd.func96 (by kernel_rfl) (by kernel_rfl) (by kernel_rfl) (by kernel_rfl)]
  rfl

end Go.Proofs.YtgdadjmeeblfoaaDoor



