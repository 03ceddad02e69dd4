/-
  NARROWER THAN 'FOR EVERY INPUT', by the rows' own cells (each row's printed sentence says how): CodeSlots: laid.
  DERIVED. THE GIVEN ROWS OF THIS SEAT. 1 by the template 'for every input the law returns true; each argument reads behind the call as it read before'; 0 by the template 'total and deterministic' (their statements: YtgdadjmeeblfoaaDoorTotals.lean).
  GIVEN WITH THE SEED: the statements are not yours to turn. If you find one false, say at which input.
  Laid BY PROGRAM, IN A SANDBOX (cutbox-rows.mjs): the forced cells as the released guide's own fill.sh prints them over the translation 1e9eec0767dd54d9… (all of the seat's roots in one cut). By AI agents, Wed Nov 11 2026. No macro, syntax, notation, axiom, sorry.
-/
import Derived.Test.YtgdadjmeeblfoaaDoorChecked
import GoSem.Claim
import GoSem.ClaimJoined
import GoSem.ClaimMapViews
import Derived.JoinedTies
import Derived.KernelRfl
namespace Go.Proofs.YtgdadjmeeblfoaaDoor
/- THE CELL 'sum', in the pinned program and in every row, IS THE sha256 OF THE DUMP (.gsa) THAT YtgdadjmeeblfoaaDoorProg.lean LOADS. Nothing in Lean hashes anything: it is a label: what it is worth is what the hold of that sum in a sandbox is worth. -/
noncomputable def Tryd.pinned : Pinned := { name := "ytgdadjmeeblfoaadoor", sum := "1e9eec0767dd54d906dde78c9a32e3de91c039c7e347a380488c59c3aee1b53c", checked := Tryd.checked }
namespace Rows
def none {H : Type} : Left H := { results := [], args := [] }

/- WHAT THE LISTED PACKAGE-LEVEL VARIABLES READ AS WHEN THE CALL BEGINS. Each datum BY PROGRAM (the guide's laid-datum.mjs) off the statement by which the dump's own 'gosem.cut.vars' lays the variable. In a bare row this is a premise. The card (YtgdadjmeeblfoaaDoorCards.lean) ties it to the program's text. -/
def laid_rookery_check_builtins {H : Type} : DataW H := .agg [.agg [.lit (.string [115, 101, 108, 102]), .lit (.int .i64 0)], .agg [.lit (.string [110, 111, 100, 101]), .lit (.int .i64 0)], .agg [.lit (.string [110, 101, 97, 114]), .lit (.int .i64 0)], .agg [.lit (.string [110, 111, 100, 101, 115]), .lit (.int .i64 0)], .agg [.lit (.string [115, 112, 97, 119, 110]), .lit (.int .i64 2)], .agg [.lit (.string [115, 112, 97, 119, 110]), .lit (.int .i64 3)], .agg [.lit (.string [108, 105, 110, 107]), .lit (.int .i64 1)], .agg [.lit (.string [117, 110, 108, 105, 110, 107]), .lit (.int .i64 1)], .agg [.lit (.string [109, 111, 110, 105, 116, 111, 114]), .lit (.int .i64 1)], .agg [.lit (.string [100, 101, 109, 111, 110, 105, 116, 111, 114]), .lit (.int .i64 1)], .agg [.lit (.string [101, 120, 105, 116]), .lit (.int .i64 1)], .agg [.lit (.string [101, 120, 105, 116]), .lit (.int .i64 2)], .agg [.lit (.string [116, 114, 97, 112]), .lit (.int .i64 1)], .agg [.lit (.string [114, 101, 103, 105, 115, 116, 101, 114]), .lit (.int .i64 2)], .agg [.lit (.string [119, 104, 101, 114, 101, 105, 115]), .lit (.int .i64 1)], .agg [.lit (.string [99, 108, 97, 105, 109]), .lit (.int .i64 2)], .agg [.lit (.string [102, 105, 110, 100]), .lit (.int .i64 1)], .agg [.lit (.string [115, 97, 121]), .lit (.int .i64 1)], .agg [.lit (.string [114, 101, 102]), .lit (.int .i64 0)], .agg [.lit (.string [99, 120]), .lit (.int .i64 2)], .agg [.lit (.string [99, 111, 110, 106]), .lit (.int .i64 1)], .agg [.lit (.string [108, 101, 110]), .lit (.int .i64 1)], .agg [.lit (.string [101, 108, 101, 109]), .lit (.int .i64 2)], .agg [.lit (.string [104, 100]), .lit (.int .i64 1)], .agg [.lit (.string [116, 108]), .lit (.int .i64 1)], .agg [.lit (.string [99, 111, 110, 115]), .lit (.int .i64 2)]]
def laid_rookery_code_ops {H : Type} : DataW H := .agg [.agg [.lit (.int .i64 0), .lit (.int .i64 0), .lit (.int .i64 0), .lit (.int .i64 0), .lit (.int .i64 0), .lit (.int .i64 0), .lit (.int .i64 0), .lit (.int .i64 0)], .agg [.lit (.int .i64 0), .lit (.int .i64 0), .lit (.int .i64 0), .lit (.int .i64 1), .lit (.int .i64 0), .lit (.int .i64 1), .lit (.int .i64 0), .lit (.int .i64 1)], .agg [.lit (.int .i64 1), .lit (.int .i64 0), .lit (.int .i64 0), .lit (.int .i64 0), .lit (.int .i64 0), .lit (.int .i64 1), .lit (.int .i64 0), .lit (.int .i64 1)], .agg [.lit (.int .i64 0), .lit (.int .i64 0), .lit (.int .i64 0), .lit (.int .i64 0), .lit (.int .i64 1), .lit (.int .i64 0), .lit (.int .i64 0), .lit (.int .i64 1)], .agg [.lit (.int .i64 0), .lit (.int .i64 0), .lit (.int .i64 256), .lit (.int .i64 0), .lit (.int .i64 (-1)), .lit (.int .i64 1), .lit (.int .i64 0), .lit (.int .i64 1)], .agg [.lit (.int .i64 0), .lit (.int .i64 0), .lit (.int .i64 256), .lit (.int .i64 0), .lit (.int .i64 (-1)), .lit (.int .i64 1), .lit (.int .i64 0), .lit (.int .i64 1)], .agg [.lit (.int .i64 0), .lit (.int .i64 1), .lit (.int .i64 11), .lit (.int .i64 0), .lit (.int .i64 2), .lit (.int .i64 1), .lit (.int .i64 0), .lit (.int .i64 1)], .agg [.lit (.int .i64 0), .lit (.int .i64 0), .lit (.int .i64 0), .lit (.int .i64 0), .lit (.int .i64 1), .lit (.int .i64 1), .lit (.int .i64 0), .lit (.int .i64 1)], .agg [.lit (.int .i64 2), .lit (.int .i64 0), .lit (.int .i64 0), .lit (.int .i64 2), .lit (.int .i64 1), .lit (.int .i64 1), .lit (.int .i64 1), .lit (.int .i64 3)], .agg [.lit (.int .i64 2), .lit (.int .i64 0), .lit (.int .i64 0), .lit (.int .i64 0), .lit (.int .i64 0), .lit (.int .i64 0), .lit (.int .i64 0), .lit (.int .i64 2)], .agg [.lit (.int .i64 3), .lit (.int .i64 0), .lit (.int .i64 0), .lit (.int .i64 0), .lit (.int .i64 (-2)), .lit (.int .i64 1), .lit (.int .i64 0), .lit (.int .i64 1)], .agg [.lit (.int .i64 3), .lit (.int .i64 0), .lit (.int .i64 0), .lit (.int .i64 0), .lit (.int .i64 (-2)), .lit (.int .i64 0), .lit (.int .i64 0), .lit (.int .i64 0)], .agg [.lit (.int .i64 0), .lit (.int .i64 0), .lit (.int .i64 0), .lit (.int .i64 0), .lit (.int .i64 1), .lit (.int .i64 0), .lit (.int .i64 0), .lit (.int .i64 0)], .agg [.lit (.int .i64 0), .lit (.int .i64 1), .lit (.int .i64 26), .lit (.int .i64 0), .lit (.int .i64 (-3)), .lit (.int .i64 1), .lit (.int .i64 0), .lit (.int .i64 1)], .agg [.lit (.int .i64 0), .lit (.int .i64 0), .lit (.int .i64 0), .lit (.int .i64 0), .lit (.int .i64 2), .lit (.int .i64 1), .lit (.int .i64 0), .lit (.int .i64 1)], .agg [.lit (.int .i64 0), .lit (.int .i64 1), .lit (.int .i64 3), .lit (.int .i64 0), .lit (.int .i64 1), .lit (.int .i64 0), .lit (.int .i64 0), .lit (.int .i64 0)], .agg [.lit (.int .i64 0), .lit (.int .i64 0), .lit (.int .i64 0), .lit (.int .i64 0), .lit (.int .i64 1), .lit (.int .i64 0), .lit (.int .i64 0), .lit (.int .i64 1)], .agg [.lit (.int .i64 2), .lit (.int .i64 0), .lit (.int .i64 0), .lit (.int .i64 0), .lit (.int .i64 0), .lit (.int .i64 1), .lit (.int .i64 0), .lit (.int .i64 3)], .agg [.lit (.int .i64 0), .lit (.int .i64 0), .lit (.int .i64 0), .lit (.int .i64 0), .lit (.int .i64 1), .lit (.int .i64 0), .lit (.int .i64 0), .lit (.int .i64 1)], .agg [.lit (.int .i64 0), .lit (.int .i64 0), .lit (.int .i64 0), .lit (.int .i64 0), .lit (.int .i64 1), .lit (.int .i64 0), .lit (.int .i64 0), .lit (.int .i64 1)]]

/-- 'rookerylaw18.CodeSlots': WHATEVER THE INPUT: true; the input reads as it did. -/
def codeSlotsSpec : ChangeSpec := { name := "codeSlots", fn := fun _ => fun
  | [d] => { results := [.lit (.bool true)], args := [d] }
  | _ => none }
def codeSlotsRow : OpenClaim := { program := "ytgdadjmeeblfoaadoor", sum := "1e9eec0767dd54d906dde78c9a32e3de91c039c7e347a380488c59c3aee1b53c", func := "rookery/rookerylaw18.CodeSlots", spec := "codeSlots", inPlace := ["math.Float64bits", "math.Float64frombits", "internal/bytealg.abigen_runtime_cmpstring", "internal/bytealg.Compare"], unfollowed := true, recurses := true, named := ["rookery/code.ops", "rookery/check.builtins"], apart := false, laid := [("rookery/check.builtins", laid_rookery_check_builtins), ("rookery/code.ops", laid_rookery_code_ops)] }
def CodeSlotsSaid : Prop := codeSlotsRow.holds Tryd.pinned (OpenSpec.ofChange codeSlotsSpec)

/-- ITS FALSE NEIGHBOUR: 'it returns false'. Refute it at one input. -/
def codeSlotsWrong : ChangeSpec := { name := "codeSlots", fn := fun _ => fun
  | [d] => { results := [.lit (.bool false)], args := [d] }
  | _ => none }
def CodeSlotsWrongFalsely : Prop := codeSlotsRow.holds Tryd.pinned (OpenSpec.ofChange codeSlotsWrong)

/- THE SECOND FORM. 'bulk': how many values and letters a reading holds, each counted each time it is reached (what is shared counts as often as it is met; a slice's spare places count too). A statement '..UptoSaid' is the law's where the arguments, and the package variables that the reading takes, are together of bulk at most 1048576: NARROWER than '..Said'. Prove '..Said' where nothing that the law and all that it calls make is longer than what came in: it says more and counts as full. Else prove '..UptoSaid'. A law counts once. -/
mutual
def uptoBulk {H : Type} : DataW H → Nat
  | .lit (.string bytes) => bytes.length + 1
  | .lit _ => 1
  | .nil => 1
  | .ptr d => uptoBulk d + 1
  | .slice elems spare => uptoBulkAll elems + uptoBulkAll spare + 1
  | .agg parts => uptoBulkAll parts + 1
  | .iface _ d => uptoBulk d + 1
  | .map entries => uptoBulkEntries entries + 1
  | .held _ => 1
def uptoBulkAll {H : Type} : List (DataW H) → Nat
  | [] => 0
  | d :: r => uptoBulk d + uptoBulkAll r
def uptoBulkEntries {H : Type} : List (Lit × DataW H) → Nat
  | [] => 0
  | x :: r => uptoBulkEntry x + uptoBulkEntries r
def uptoBulkEntry {H : Type} : Lit × DataW H → Nat
  | (.string bytes, d) => bytes.length + uptoBulk d + 1
  | (_, d) => uptoBulk d + 1
 end
def uptoSmall : (H : Type) → List (DataW H) → Bool := fun _ ds => decide (uptoBulkAll ds ≤ 1048576)
def OpenSpec.upto (s : _root_.Go.ChangeSpec) : _root_.Go.OpenSpec := { _root_.Go.OpenSpec.ofChange s with cond := some uptoSmall }

/-- 'rookerylaw18.CodeSlots', WHERE WHAT IT READS IS OF BULK AT MOST 1048576: true; the input reads as it did. -/
def codeSlotsUptoRow : OpenClaim := { program := "ytgdadjmeeblfoaadoor", sum := "1e9eec0767dd54d906dde78c9a32e3de91c039c7e347a380488c59c3aee1b53c", func := "rookery/rookerylaw18.CodeSlots", spec := "codeSlots", inPlace := ["math.Float64bits", "math.Float64frombits", "internal/bytealg.abigen_runtime_cmpstring", "internal/bytealg.Compare"], unfollowed := true, recurses := true, named := ["rookery/code.ops", "rookery/check.builtins"], apart := false, laid := [("rookery/check.builtins", laid_rookery_check_builtins), ("rookery/code.ops", laid_rookery_code_ops)], narrowed := true }
def CodeSlotsUptoSaid : Prop := codeSlotsUptoRow.holds Tryd.pinned (OpenSpec.upto codeSlotsSpec)

end Rows
end Go.Proofs.YtgdadjmeeblfoaaDoor
