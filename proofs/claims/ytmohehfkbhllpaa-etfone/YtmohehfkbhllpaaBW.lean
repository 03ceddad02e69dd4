/-
  Carried over from another seat of ours (BW).
-/
import Derived.Test.YtmohehfkbhllpaaBR
import Derived.Test.YtmohehfkbhllpaaBH
import Derived.Test.YtmohehfkbhllpaaBG
import Derived.Laws.BitsAllLaws
import Derived.Deep.RegionHeld3
set_option linter.unusedVariables false
set_option linter.unusedSimpArgs false
namespace Go.Proofs.Ytmohehfkbhllpaa
open Go.RowKit Go.Maps
variable {S S' : Nat → Prop} {W W1 W' : World}
section
variable {w : World} {ops : Array Oper} {rest : List Oper} {o : Oper} {a : Act} {Q : Exit → Act → World → Prop} {K : Act → World → Prop} {E : Prop}
theorem step_aps (hgd : o.guard = none) (x y : Operand)
    (ho : o.op = .call { callee := .builtin .append, args := #[x, y], argTypes := #[22, 9] }) (base : Nat) (v : Value) (s : ByteArray) (l : List Int) (hx : a.eval x = v) (hy : a.eval y = .string s)
    (hv : Ob base w v l) (hlen : l.length + s.size ≤ 1000000) (hbase : base ≤ w.heap.size)
    (h : ∀ v' w', Ob base w' v' (l ++ tb s) → Loc v w v' w' → K (a.put o.dst v') w') :
    if Region.wanted o (yielded ops a.tmps) = true then Oper.wp Try.prog o a w K Q else E := by
  have hw : Region.wanted o (yielded ops a.tmps) = true := by simp [Region.wanted, hgd]
  rw [if_pos hw]
  obtain ⟨v', w', hr, h1, h2⟩ := aps_run w o.type base v s l hv hlen hbase
  unfold Oper.wp execOp
  simp only [ho, resolve, invoke, builtin, Sem.run_bind, Sem.run_pure, Result.andThen_ok, List.map_toArray, List.map_cons, List.map_nil, hx, hy, hr]
  exact h v' w' h1 h2
end
end Go.Proofs.Ytmohehfkbhllpaa

