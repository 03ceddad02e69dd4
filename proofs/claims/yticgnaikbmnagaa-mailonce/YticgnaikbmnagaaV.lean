/-
  Carried over from another seat of ours (V).
-/
import Derived.Test.YticgnaikbmnagaaT
import Derived.Test.YticgnaikbmnagaaJ
import Derived.RangeFuncNested
import Derived.RangeFuncBound
import Derived.RangeFuncCalls
import Derived.RangeFuncLeaves
import Derived.Shelf.Abstract
import Derived.Shelf.RegionOpen
import Derived.OwnWalkIn
import Derived.TacticsInMore
import Derived.LoopNIn
import Derived.LoopIn
import Derived.Stop.RegionWithIn
set_option linter.unusedVariables false
set_option linter.unusedSimpArgs false
namespace Go.Proofs.Yticgnaikbmnagaa
open Go.RowKit Go.Maps Go.Shelf
attribute [local go_sem] Oper.semAt_some
theorem parts_c (W : World) (g : Nat) (d : Int) : Calls Try.prog 24 #[pt g, .int .i64 d] W fun e w' => e = .returned (.func (.func 46) #[] #[pt (W.heap.size + 1), pt W.heap.size]) ∧ w' = (W.alloc (.cells #[pt g] 60)).alloc (.cells #[.int .i64 d] 3) := by
  have hmf : ∀ (fn : Fn) (first cap : Array Value) (w : World), (Instr.makeFunc fn first cap).run Try.prog w = .ok (.func fn first cap) w := fun _ _ _ _ => rfl
  go_enter Try.func24, Try.ntmps24
  go_wp2
  go_ret
  exact ⟨rfl, rfl⟩
theorem al (W : World) (o : Obj) (k : Nat) : (W.alloc o).heap[k]? = if k = W.heap.size then some o else W.heap[k]? := by
  by_cases h : k = W.heap.size
  · subst h; rw [if_pos rfl]; exact heap_alloc_new W o
  · rw [if_neg h]
    by_cases h2 : k < W.heap.size
    · exact heap_alloc_old W o h2
    · rw [Array.getElem?_eq_none (by rw [World.size_alloc]; omega), Array.getElem?_eq_none (by omega)]
/-- weigh's own blocks, from N on: the term, the table, the two results, the size, where the term is. -/
structure Wg (W : World) (N kb : Nat) (k n : Int) (x y : Nat) (s : ByteArray) (a c d : Int) (z : Int) (X : World) : Prop where
  term : Bx X N k n x y s a c d nl nl
  tab : X.heap[N + 1]? = some (.cells #[pt kb] 54 (0, 0))
  r1 : X.heap[N + 2]? = some (.cells #[.int .i64 0] 3 (0, 0))
  r2 : X.heap[N + 3]? = some (.cells #[.int .i64 0] 26 (0, 0))
  size : X.heap[N + 4]? = some (.cells #[.int .i64 z] 3 (0, 0))
  at_ : X.heap[N + 5]? = some (.cells #[pt N] 60 (0, 0))
  kd : Kd X kb
  gr : Gr (fun _ => False) W X
theorem cell_of {W : World} {b : Nat} {v : Value} {t : TypeId} (h : W.heap[b]? = some (.cells #[v] t (0, 0))) : W.cell? ⟨b, 0, none⟩ = some v ∧ W.frozen? ⟨b, 0, none⟩ = false := by
  simp [World.cell?, World.frozen?, h]
theorem Wg.turn {S : Nat → Prop} {W : World} {N kb : Nat} {k n : Int} {x y : Nat} {s : ByteArray} {a c d z : Int} {X X' : World} (h : Wg W N kb k n x y s a c d z X) (t : Gr S X X') (hS : ∀ i, S i → N + 5 < i) (hkb : kb < N) (hN : W.heap.size ≤ N) : Wg W N kb k n x y s a c d z X' :=
  ⟨h.term.gr t (fun e => by have := hS _ e; omega), t.keep h.tab (fun e => by have := hS _ e; omega), t.keep h.r1 (fun e => by have := hS _ e; omega), t.keep h.r2 (fun e => by have := hS _ e; omega),
   t.keep h.size (fun e => by have := hS _ e; omega), t.keep h.at_ (fun e => by have := hS _ e; omega), h.kd.gr t (fun e => by have := hS _ e; omega), h.gr.trans' t (fun i hi e => by have := hS _ e; omega)⟩

theorem wend {W Z : World} {z e : Int} (h1 : Z.heap[W.heap.size + 2]? = some (.cells #[.int .i64 z] 3 (0, 0))) (h2 : Z.heap[W.heap.size + 3]? = some (.cells #[.int .i64 e] 26 (0, 0))) (hg : Gr (fun _ => False) W Z) :
    (Z.putObj (W.heap.size + 7) (.deferred none)).cell? ⟨W.heap.size + 1 + 1, 0, none⟩ = some (.int .i64 z) ∧ (Z.putObj (W.heap.size + 7) (.deferred none)).cell? ⟨W.heap.size + 1 + 1 + 1, 0, none⟩ = some (.int .i64 e) ∧
    Gr (fun _ => False) W (Z.putObj (W.heap.size + 7) (.deferred none)) := by
  have t : Gr (fun i => i = W.heap.size + 7) Z (Z.putObj (W.heap.size + 7) (.deferred none)) := Gr.of_grown (grownBy_putObj' Z _ _) (fun k e => by cases e; rfl)
  exact ⟨(cell_of (t.keep h1 (by omega))).1, (cell_of (t.keep h2 (by omega))).1, hg.trans' t (fun i hi e => by omega)⟩
end Go.Proofs.Yticgnaikbmnagaa
/-
  Check of a term that has no elements.
-/
namespace Go.Proofs.Yticgnaikbmnagaa
open Go.RowKit Go.Maps
end Go.Proofs.Yticgnaikbmnagaa



