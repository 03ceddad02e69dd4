/-
  Carried over from another seat of ours (HH).
  A tree, each variable A in it Zz_A.
  renamed: a tree, each variable A in it Zz_A.
-/
import Derived.Test.YtjedbfbolifjjaaGreatDoorGN
import Derived.Test.YtjedbfbolifjjaaGreatDoorGH
import Derived.Test.YtjedbfbolifjjaaGreatDoorGQ
set_option linter.unusedVariables false
set_option linter.unusedSimpArgs false
namespace Go.Proofs.YtjedbfbolifjjaaGreatDoor
open Go.RowKit Go.Maps
variable {W W' : World}
end Go.Proofs.YtjedbfbolifjjaaGreatDoor

namespace Go.Proofs.YtjedbfbolifjjaaGreatDoor
open Go.RowKit Go.Maps
end Go.Proofs.YtjedbfbolifjjaaGreatDoor

namespace Go.Proofs.YtjedbfbolifjjaaGreatDoor
open Go.RowKit Go.Maps
variable {W W' : World}
/-- The cells that the region reads. -/
abbrev SR (b g i : Nat) (x y : Value) (tk : Int) (tt : ByteArray) (tn : Int) (u v : Value) (w : World) : Prop := w.cell? ⟨b + 2, 4, none⟩ = some x ∧ w.cell? ⟨b, 4, none⟩ = some y ∧
 w.cell? ⟨g, i * 5, none⟩ = some (.int .i64 tk) ∧ w.cell? ⟨g, i * 5 + 1, none⟩ = some (.string tt) ∧ w.cell? ⟨g, i * 5 + 2, none⟩ = some (.int .i64 tn) ∧ w.cell? ⟨g, i * 5 + 3, none⟩ = some u ∧ w.cell? ⟨g, i * 5 + 4, none⟩ = some v
theorem SR.gr {S : Nat → Prop} {b g i : Nat} {x y : Value} {tk : Int} {tt : ByteArray} {tn : Int} {u v : Value} (h : SR b g i x y tk tt tn u v W) (gr : Gr S W W') (h1 : ¬ S (b + 2) := by exact fun e => e) (h2 : ¬ S b := by exact fun e => e) (h3 : ¬ S g := by exact fun e => e) : SR b g i x y tk tt tn u v W' := by
 obtain ⟨a1, a2, a3, a4, a5, a6, a7⟩ := h
 exact ⟨cell_gr a1 gr h1, cell_gr a2 gr h2, cell_gr a3 gr h3, cell_gr a4 gr h3, cell_gr a5 gr h3, cell_gr a6 gr h3, cell_gr a7 gr h3⟩
section
variable {ops : Array Oper} {o : Oper} {a : Act} {w : World} {K : Act → World → Prop} {Q : Exit → Act → World → Prop} {E : Prop}
end
end Go.Proofs.YtjedbfbolifjjaaGreatDoor
