/-
  Carried over from another seat of ours (R).
-/
import Derived.Test.YticgnaikbmnagaaJ
import Derived.Test.YticgnaikbmnagaaP
set_option linter.unusedVariables false
set_option linter.unusedSimpArgs false
namespace Go.Proofs.Yticgnaikbmnagaa
open Go.RowKit

def fin (x : Nat) : Bool := decide (x % 9223372036854775808 < 9218868437227405312)
@[go_sem] theorem cf71 (x : Nat) (w : World) : (callFunc 73 #[.float .f64 x]).run Try.prog w = .ok (Next.value (.int .u64 x)) w := by
  rw [run_callFunc_extern (e := Extern.MathFloatBits.float64bits) Try.func73 (by kernel_rfl) (by kernel_rfl) (by kernel_rfl) (by kernel_rfl)]
  rfl
/-! ### The reference's word -/
def inR (n : Int) : Bool := decide (-4611686018427387904 ≤ n) && decide (n ≤ 4611686018427387903)
theorem inRange_c (n : Int) (w : World) : Calls Try.prog 53 #[.int .i64 n] w fun e w' => e = .returned (.bool (inR n)) ∧ w = w' := by
  by_cases h1 : -4611686018427387904 ≤ n <;> by_cases h2 : n ≤ 4611686018427387903 <;> simp only [inR, h1, h2, decide_true, decide_false, Bool.and_true, Bool.and_false, Bool.false_and, Bool.true_and]
  all_goals (go_enter Try.func53, Try.ntmps53; go_wp2; go_ret; exact ⟨rfl, rfl⟩)
end Go.Proofs.Yticgnaikbmnagaa



