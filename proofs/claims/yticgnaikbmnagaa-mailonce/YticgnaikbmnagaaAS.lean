/-
  Carried over from another seat of ours (AS).
-/
import Derived.Test.YticgnaikbmnagaaZ
import Derived.Laws.BytesString
set_option linter.unusedVariables false
set_option linter.unusedSimpArgs false
namespace Go.Proofs.Yticgnaikbmnagaa
open Go.RowKit Go.Maps

/-- Bytes as a text. -/
def sb (bs : List Int) : ByteArray := bs.foldl (fun r n => r.push (UInt8.ofNat n.toNat)) ByteArray.empty
end Go.Proofs.Yticgnaikbmnagaa



