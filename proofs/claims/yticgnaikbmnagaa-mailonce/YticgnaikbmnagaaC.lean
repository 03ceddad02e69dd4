/-
  Carried over from another seat of ours (C).
-/
import Derived.Test.YticgnaikbmnagaaA
import Derived.Lib.Bytealg
import Derived.Laws.Externs
import Derived.Lib.Walk
import Derived.Lib.BufferWrite
import Derived.Lib.UnsafeStr
import Derived.Laws.MakeOwn
import Derived.Deep.RegionWith
set_option linter.unusedVariables false
set_option linter.unusedSimpArgs false
namespace Go.Proofs.Yticgnaikbmnagaa
open Go.RowKit

/-! ### A copy of a text -/
end Go.Proofs.Yticgnaikbmnagaa
/-
  The reader's complex numbers: twice sixteen digits of base 16.
-/
namespace Go.Proofs.Yticgnaikbmnagaa
open Go.RowKit

@[go_sem] theorem cf96 (x : Int) (w : World) : (callFunc 78 #[.int .u64 x]).run Try.prog w = .ok (Next.value (.float .f64 x.toNat)) w := by
  rw [run_callFunc_extern (e := Extern.MathFloatBits.float64frombits) Try.func78 (by kernel_rfl) (by kernel_rfl) (by kernel_rfl) (by kernel_rfl)]
  rfl

end Go.Proofs.Yticgnaikbmnagaa



