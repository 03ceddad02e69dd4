/-
  Carried over from another seat of ours (MC).
-/
import Derived.Test.YtmohehfkbhllpaaGreatMA
import Derived.Test.YtmohehfkbhllpaaGreatLD
import Derived.Test.YtmohehfkbhllpaaGreatAU
set_option linter.unusedVariables false
set_option linter.unusedSimpArgs false
namespace Go.Proofs.YtmohehfkbhllpaaGreat
open Go.RowKit Go.Maps
variable {S S' Z G : Nat → Prop} {W W1 W' : World}

/-- How Decode ends. -/
def EndV (W : World) (e : Ending) (w' : World) : Except Int Tm → Prop
  | .ok T => ∃ v, e = .returned (.tuple #[v, .int .i64 0]) ∧ Rep (fun k => W.heap.size ≤ k) w' T v ∧ Gr (fun _ => False) W w'
  | .error c => e = .returned (.tuple #[lf 0 0 0 0 e0 0 0 0, .int .i64 c]) ∧ Gr (fun _ => False) W w'
def DecOk : Prop := ∀ (Z : Nat → Prop) (W : World) (v : Value) (m : List Int), Sq Z W v m → (∀ k, Z k → k < W.heap.size) → Calls Tryz.prog 5 #[v] W fun e w' => EndV W e w' (decV m)
def AliveOk : Prop := ∀ W, Calls Tryz.prog 4 #[] W fun e w' => e = .returned (.bool true) ∧ Gr (fun _ => False) W w'
/-! ### Errors are not 0 -/
end Go.Proofs.YtmohehfkbhllpaaGreat

