/-
  Carried over from another seat of ours (T).
-/
import Derived.Test.YticgnaikbmnagaaS
import Derived.Deep.RegionWith
set_option linter.unusedVariables false
set_option linter.unusedSimpArgs false
namespace Go.Proofs.Yticgnaikbmnagaa
open Go.RowKit Go.Maps

/-- A term in a block of its own. -/
def Bx (W : World) (g : Nat) (k n : Int) (x y : Nat) (s : ByteArray) (a c d : Int) (bs l : Value) : Prop :=
  W.heap[g]? = some (.cells #[.int .i64 k, .int .i64 n, .complex .f64 x y, .string s, .int .i64 a, .int .u32 c, .int .u64 d, bs, l] 35 (0, 0))
theorem Bx.facts {W : World} {g : Nat} {k n : Int} {x y : Nat} {s : ByteArray} {a c d : Int} {bs l : Value} (h : Bx W g k n x y s a c d bs l) :
    W.cell? ⟨g, 0, none⟩ = some (.int .i64 k) ∧ W.cell? ⟨g, 1, none⟩ = some (.int .i64 n) ∧ W.cell? ⟨g, 2, none⟩ = some (.complex .f64 x y) ∧ W.cell? ⟨g, 3, none⟩ = some (.string s) ∧
    W.cell? ⟨g, 4, none⟩ = some (.int .i64 a) ∧ W.cell? ⟨g, 5, none⟩ = some (.int .u32 c) ∧ W.cell? ⟨g, 6, none⟩ = some (.int .u64 d) ∧ W.cell? ⟨g, 7, none⟩ = some bs ∧ W.cell? ⟨g, 8, none⟩ = some l := by
  unfold Bx at h
  simp [World.cell?, h]
theorem Bx.gr {S : Nat → Prop} {W W' : World} {g : Nat} {k n : Int} {x y : Nat} {s : ByteArray} {a c d : Int} {bs l : Value} (h : Bx W g k n x y s a c d bs l) (k' : Gr S W W') (hs : ¬ S g) : Bx W' g k n x y s a c d bs l := k'.keep h hs
theorem Bx.lt {W : World} {g : Nat} {k n : Int} {x y : Nat} {s : ByteArray} {a c d : Int} {bs l : Value} (h : Bx W g k n x y s a c d bs l) : g < W.heap.size := (Array.getElem?_eq_some_iff.1 h).1

theorem three87 {W : World} {g : Nat} {x y z : Value} (h : W.heap[g]? = some (.cells #[x, y, z] 67 (0, 0))) :
    W.cell? ⟨g, 0, none⟩ = some x ∧ W.cell? ⟨g, 1, none⟩ = some y ∧ W.cell? ⟨g, 2, none⟩ = some z := by simp [World.cell?, h]
end Go.Proofs.Yticgnaikbmnagaa



