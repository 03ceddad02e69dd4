/-
  Carried over from another seat of ours (R).
  Carried over from another seat of ours (S).
  Carried over from another seat of ours (T).
  Carried over from another seat of ours (V).
  Carried over from another seat of ours (Y).
-/
import Derived.Test.YtfamepdghememaaA
import Derived.Test.YtfamepdghememaaP
import Derived.Deep.RegionWith
import Derived.RangeFuncNested
import Derived.RangeFuncBound
import Derived.RangeFuncCalls
import Derived.RangeFuncLeaves
import Derived.Shelf.Abstract
import Derived.Shelf.RegionOpen
import Derived.OwnWalkIn
import Derived.TacticsInMore
import Derived.LoopNIn
import Derived.LoopIn
import Derived.Stop.RegionWithIn
set_option linter.unusedVariables false
set_option linter.unusedSimpArgs false
namespace Go.Proofs.Ytfamepdghememaa
open Go.RowKit

def fin (x : Nat) : Bool := decide (x % 9223372036854775808 < 9218868437227405312)
@[go_sem] theorem cf71 (x : Nat) (w : World) : (callFunc 86 #[.float .f64 x]).run Try.prog w = .ok (Next.value (.int .u64 x)) w := by
  rw [run_callFunc_extern (e := Extern.MathFloatBits.float64bits) Try.func86 (by kernel_rfl) (by kernel_rfl) (by kernel_rfl) (by kernel_rfl)]
  rfl
/-! ### The reference's word -/
def inR (n : Int) : Bool := decide (-4611686018427387904 ≤ n) && decide (n ≤ 4611686018427387903)
theorem inRange_c (n : Int) (w : World) : Calls Try.prog 66 #[.int .i64 n] w fun e w' => e = .returned (.bool (inR n)) ∧ w = w' := by
  by_cases h1 : -4611686018427387904 ≤ n <;> by_cases h2 : n ≤ 4611686018427387903 <;> simp only [inR, h1, h2, decide_true, decide_false, Bool.and_true, Bool.and_false, Bool.false_and, Bool.true_and]
  all_goals (go_enter Try.func66, Try.ntmps66; go_wp2; go_ret; exact ⟨rfl, rfl⟩)
end Go.Proofs.Ytfamepdghememaa




namespace Go.Proofs.Ytfamepdghememaa
open Go.RowKit
abbrev tv (k n : Int) (x y : Nat) (s : ByteArray) (a c d : Int) (bs l : Value) : Value := .agg #[.int .i64 k, .int .i64 n, .complex .f64 x y, .string s, .int .i64 a, .int .u32 c, .int .u64 d, bs, l]
abbrev nl : Value := .slice none 0 0
abbrev e0 : ByteArray := ⟨#[]⟩
abbrev lf (k n : Int) (x y : Nat) (s : ByteArray) (a c d : Int) : Value := tv k n x y s a c d nl nl
@[go_sem] theorem ord00 : FloatKind.f64.format.order 0 0 = some .eq := by decide
theorem tlower_c (c : Int) (w : World) : Calls Try.prog 69 #[.int .u8 c] w fun e w' => e = .returned (.bool (low c)) ∧ w = w' := by
  by_cases h1 : 97 ≤ c <;> by_cases h2 : c ≤ 122 <;> simp only [low, h1, h2, decide_true, decide_false, Bool.and_true, Bool.and_false, Bool.false_and, Bool.true_and]
  all_goals (go_enter Try.func69, Try.ntmps69; go_wp2; go_ret; exact ⟨rfl, rfl⟩)
set_option maxHeartbeats 800000 in
theorem tinName_c (c : Int) (w : World) : Calls Try.prog 70 #[.int .u8 c] w fun e w' => e = .returned (.bool (inN c)) ∧ w = w' := by
  go_enter Try.func70, Try.ntmps70
  go_wp2_with (first | (go_at_call 69; refine (tlower_c _ _).mono ?_; rintro e w' ⟨rfl, rfl⟩))
  all_goals (go_ret; refine ⟨congrArg (fun b => Ending.returned (Value.bool b)) ?_, rfl⟩; rw [Bool.eq_iff_iff]; simp [inN, dig, low] at *; try omega)

end Go.Proofs.Ytfamepdghememaa




namespace Go.Proofs.Ytfamepdghememaa
open Go.RowKit Go.Maps

/-- A term in a block of its own. -/
def Bx (W : World) (g : Nat) (k n : Int) (x y : Nat) (s : ByteArray) (a c d : Int) (bs l : Value) : Prop :=
  W.heap[g]? = some (.cells #[.int .i64 k, .int .i64 n, .complex .f64 x y, .string s, .int .i64 a, .int .u32 c, .int .u64 d, bs, l] 31 (0, 0))
theorem Bx.facts {W : World} {g : Nat} {k n : Int} {x y : Nat} {s : ByteArray} {a c d : Int} {bs l : Value} (h : Bx W g k n x y s a c d bs l) :
    W.cell? ⟨g, 0, none⟩ = some (.int .i64 k) ∧ W.cell? ⟨g, 1, none⟩ = some (.int .i64 n) ∧ W.cell? ⟨g, 2, none⟩ = some (.complex .f64 x y) ∧ W.cell? ⟨g, 3, none⟩ = some (.string s) ∧
    W.cell? ⟨g, 4, none⟩ = some (.int .i64 a) ∧ W.cell? ⟨g, 5, none⟩ = some (.int .u32 c) ∧ W.cell? ⟨g, 6, none⟩ = some (.int .u64 d) ∧ W.cell? ⟨g, 7, none⟩ = some bs ∧ W.cell? ⟨g, 8, none⟩ = some l := by
  unfold Bx at h
  simp [World.cell?, h]
theorem Bx.gr {S : Nat → Prop} {W W' : World} {g : Nat} {k n : Int} {x y : Nat} {s : ByteArray} {a c d : Int} {bs l : Value} (h : Bx W g k n x y s a c d bs l) (k' : Gr S W W') (hs : ¬ S g) : Bx W' g k n x y s a c d bs l := k'.keep h hs
theorem Bx.lt {W : World} {g : Nat} {k n : Int} {x y : Nat} {s : ByteArray} {a c d : Int} {bs l : Value} (h : Bx W g k n x y s a c d bs l) : g < W.heap.size := (Array.getElem?_eq_some_iff.1 h).1

theorem three87 {W : World} {g : Nat} {x y z : Value} (h : W.heap[g]? = some (.cells #[x, y, z] 84 (0, 0))) :
    W.cell? ⟨g, 0, none⟩ = some x ∧ W.cell? ⟨g, 1, none⟩ = some y ∧ W.cell? ⟨g, 2, none⟩ = some z := by simp [World.cell?, h]
end Go.Proofs.Ytfamepdghememaa




namespace Go.Proofs.Ytfamepdghememaa
open Go.RowKit Go.Maps Go.Shelf
attribute [local go_sem] Oper.semAt_some
theorem parts_c (W : World) (g : Nat) (d : Int) : Calls Try.prog 36 #[pt g, .int .i64 d] W fun e w' => e = .returned (.func (.func 59) #[] #[pt (W.heap.size + 1), pt W.heap.size]) ∧ w' = (W.alloc (.cells #[pt g] 53)).alloc (.cells #[.int .i64 d] 3) := by
  have hmf : ∀ (fn : Fn) (first cap : Array Value) (w : World), (Instr.makeFunc fn first cap).run Try.prog w = .ok (.func fn first cap) w := fun _ _ _ _ => rfl
  go_enter Try.func36, Try.ntmps36
  go_wp2
  go_ret
  exact ⟨rfl, rfl⟩
theorem al (W : World) (o : Obj) (k : Nat) : (W.alloc o).heap[k]? = if k = W.heap.size then some o else W.heap[k]? := by
  by_cases h : k = W.heap.size
  · subst h; rw [if_pos rfl]; exact heap_alloc_new W o
  · rw [if_neg h]
    by_cases h2 : k < W.heap.size
    · exact heap_alloc_old W o h2
    · rw [Array.getElem?_eq_none (by rw [World.size_alloc]; omega), Array.getElem?_eq_none (by omega)]
/-- weigh's own blocks, from N on: the term, the table, the two results, the size, where the term is. -/
structure Wg (W : World) (N kb : Nat) (k n : Int) (x y : Nat) (s : ByteArray) (a c d : Int) (z : Int) (X : World) : Prop where
  term : Bx X N k n x y s a c d nl nl
  tab : X.heap[N + 1]? = some (.cells #[pt kb] 61 (0, 0))
  r1 : X.heap[N + 2]? = some (.cells #[.int .i64 0] 3 (0, 0))
  r2 : X.heap[N + 3]? = some (.cells #[.int .i64 0] 37 (0, 0))
  size : X.heap[N + 4]? = some (.cells #[.int .i64 z] 3 (0, 0))
  at_ : X.heap[N + 5]? = some (.cells #[pt N] 53 (0, 0))
  kd : Kd X kb
  gr : Gr (fun _ => False) W X
theorem cell_of {W : World} {b : Nat} {v : Value} {t : TypeId} (h : W.heap[b]? = some (.cells #[v] t (0, 0))) : W.cell? ⟨b, 0, none⟩ = some v ∧ W.frozen? ⟨b, 0, none⟩ = false := by
  simp [World.cell?, World.frozen?, h]
theorem Wg.turn {S : Nat → Prop} {W : World} {N kb : Nat} {k n : Int} {x y : Nat} {s : ByteArray} {a c d z : Int} {X X' : World} (h : Wg W N kb k n x y s a c d z X) (t : Gr S X X') (hS : ∀ i, S i → N + 5 < i) (hkb : kb < N) (hN : W.heap.size ≤ N) : Wg W N kb k n x y s a c d z X' :=
  ⟨h.term.gr t (fun e => by have := hS _ e; omega), t.keep h.tab (fun e => by have := hS _ e; omega), t.keep h.r1 (fun e => by have := hS _ e; omega), t.keep h.r2 (fun e => by have := hS _ e; omega),
   t.keep h.size (fun e => by have := hS _ e; omega), t.keep h.at_ (fun e => by have := hS _ e; omega), h.kd.gr t (fun e => by have := hS _ e; omega), h.gr.trans' t (fun i hi e => by have := hS _ e; omega)⟩

theorem wend {W Z : World} {z e : Int} (h1 : Z.heap[W.heap.size + 2]? = some (.cells #[.int .i64 z] 3 (0, 0))) (h2 : Z.heap[W.heap.size + 3]? = some (.cells #[.int .i64 e] 37 (0, 0))) (hg : Gr (fun _ => False) W Z) :
    (Z.putObj (W.heap.size + 7) (.deferred none)).cell? ⟨W.heap.size + 1 + 1, 0, none⟩ = some (.int .i64 z) ∧ (Z.putObj (W.heap.size + 7) (.deferred none)).cell? ⟨W.heap.size + 1 + 1 + 1, 0, none⟩ = some (.int .i64 e) ∧
    Gr (fun _ => False) W (Z.putObj (W.heap.size + 7) (.deferred none)) := by
  have t : Gr (fun i => i = W.heap.size + 7) Z (Z.putObj (W.heap.size + 7) (.deferred none)) := Gr.of_grown (grownBy_putObj' Z _ _) (fun k e => by cases e; rfl)
  exact ⟨(cell_of (t.keep h1 (by omega))).1, (cell_of (t.keep h2 (by omega))).1, hg.trans' t (fun i hi e => by omega)⟩
end Go.Proofs.Ytfamepdghememaa
/-
  Check of a term that has no elements.
-/
namespace Go.Proofs.Ytfamepdghememaa
open Go.RowKit Go.Maps
end Go.Proofs.Ytfamepdghememaa




namespace Go.Proofs.Ytfamepdghememaa
open Go.RowKit Go.Maps

/-- A term without elements and bytes. -/
structure Lf where
  k : Int
  n : Int := 0
  x : Nat := 0
  y : Nat := 0
  s : ByteArray := e0
  a : Int := 0
  c : Int := 0
  d : Int := 0
theorem nine {W : World} {g : Nat} {x0 x1 x2 x3 x4 x5 x6 x7 x8 : Value} (h : W.heap[g]? = some (.cells #[x0, x1, x2, x3, x4, x5, x6, x7, x8] 31 (0, 0))) :
    (W.cell? ⟨g, 0, none⟩ = some x0 ∧ W.cell? ⟨g, 1, none⟩ = some x1 ∧ W.cell? ⟨g, 2, none⟩ = some x2 ∧ W.cell? ⟨g, 3, none⟩ = some x3 ∧ W.cell? ⟨g, 4, none⟩ = some x4 ∧ W.cell? ⟨g, 5, none⟩ = some x5 ∧ W.cell? ⟨g, 6, none⟩ = some x6 ∧ W.cell? ⟨g, 7, none⟩ = some x7 ∧ W.cell? ⟨g, 8, none⟩ = some x8) ∧
    (∀ o, W.frozen? ⟨g, o, none⟩ = false) := by
  simp [World.cell?, World.frozen?, h]
theorem Gr.set9 {S : Nat → Prop} {W W' : World} {g : Nat} (h : Gr S W W') (hg : W.heap.size ≤ g) (v0 v1 v2 v3 v4 v5 v6 v7 v8 : Value) :
    Gr S W (((((((((W'.setCell ⟨g, 0, none⟩ v0).setCell ⟨g, 1, none⟩ v1).setCell ⟨g, 2, none⟩ v2).setCell ⟨g, 3, none⟩ v3).setCell ⟨g, 4, none⟩ v4).setCell ⟨g, 5, none⟩ v5).setCell ⟨g, 6, none⟩ v6).setCell ⟨g, 7, none⟩ v7).setCell ⟨g, 8, none⟩ v8) :=
  ((((((((h.setNew hg).setNew hg).setNew hg).setNew hg).setNew hg).setNew hg).setNew hg).setNew hg).setNew hg
end Go.Proofs.Ytfamepdghememaa



