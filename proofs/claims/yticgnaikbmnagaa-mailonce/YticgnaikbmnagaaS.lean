/-
  Carried over from another seat of ours (S).
-/
import Derived.Test.YticgnaikbmnagaaR
set_option linter.unusedVariables false
set_option linter.unusedSimpArgs false
namespace Go.Proofs.Yticgnaikbmnagaa
open Go.RowKit
abbrev tv (k n : Int) (x y : Nat) (s : ByteArray) (a c d : Int) (bs l : Value) : Value := .agg #[.int .i64 k, .int .i64 n, .complex .f64 x y, .string s, .int .i64 a, .int .u32 c, .int .u64 d, bs, l]
abbrev nl : Value := .slice none 0 0
abbrev e0 : ByteArray := ⟨#[]⟩
abbrev lf (k n : Int) (x y : Nat) (s : ByteArray) (a c d : Int) : Value := tv k n x y s a c d nl nl
@[go_sem] theorem ord00 : FloatKind.f64.format.order 0 0 = some .eq := by decide
end Go.Proofs.Yticgnaikbmnagaa



