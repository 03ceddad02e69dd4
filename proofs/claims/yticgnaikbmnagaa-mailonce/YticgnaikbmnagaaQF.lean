/-
  Carried over from another seat of ours (QF).
-/
import Derived.Test.YticgnaikbmnagaaUH
set_option linter.unusedVariables false
set_option linter.unusedSimpArgs false
namespace Go.Proofs.Yticgnaikbmnagaa
open Go.RowKit Go.Maps Go.WideMaps
attribute [local go_sem] Oper.semAt_some
variable {S S' : Nat → Prop} {W W1 W' : World}
abbrev oz9 : Obj := .cells #[.int .i64 0, .int .i64 0, .complex .f64 0 0, .string e0, .int .i64 0, .int .u32 0, .int .u64 0, nl, nl] 35
abbrev iv (n : Int) (a1 : Option Addr) (c1 : Nat) (a2 : Option Addr) (c2 : Nat) : Value := ts 1 n 0 0 e0 0 0 0 a1 0 c1 a2 0 c2
end Go.Proofs.Yticgnaikbmnagaa

