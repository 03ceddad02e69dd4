import Derived.Test.YtancbidpmbjmnaaH
namespace Go.Proofs.Ytancbidpmbjmnaa
open Go.RowKit
set_option linter.unusedVariables false
abbrev arr (k n : Int) : Array Value := #[.int .i64 k, .int .i64 n, .complex .f64 0 0, .string { data := #[] }, .int .i64 0, .int .u32 0, .int .u64 0, .slice none 0 0, .slice none 0 0]
theorem Kp.carryA {a b : World} {d : Array Value} {t : TypeId} (h : Kp (a.alloc (.cells d t)) b) {n : Nat} {c : Array Value} (hn : n < a.heap.size) (hx : ∀ o, a.cell? ⟨n, o, none⟩ = c[o]?) : ∀ o, b.cell? ⟨n, o, none⟩ = c[o]? :=
  fun o => by rw [h.below.cell (p := ⟨n, o, none⟩) (by simp; omega), World.cell?_alloc_lt _ _ _ hn]; exact hx o
theorem Kp.newA {a b : World} {d : Array Value} {t : TypeId} (h : Kp (a.alloc (.cells d t)) b) : ∀ o, b.cell? ⟨a.heap.size, o, none⟩ = d[o]? :=
  fun o => by rw [h.below.cell (p := ⟨a.heap.size, o, none⟩) (by simp), World.cell?_alloc_new]
theorem Kp.ltN {a b : World} {o : Obj} (h : Kp (a.alloc o) b) : a.heap.size < b.heap.size := by have := h.size; simp at this; omega
theorem Kp.freshZ {a b : World} (h : Kp a b) {n : Nat} (hn : a.heap.size ≤ n) : ∀ o, b.frozen? ⟨n, o, none⟩ = false := fun o => by
  rw [h.frozen]; unfold World.frozen?; rw [Array.getElem?_eq_none hn]
def st9 (w : World) (n : Nat) (v0 v1 v2 v3 v4 v5 v6 v7 v8 : Value) : World := (((((((((w.setCell ⟨n, 0, none⟩ v0).setCell ⟨n, 1, none⟩ v1).setCell ⟨n, 2, none⟩ v2).setCell ⟨n, 3, none⟩ v3).setCell ⟨n, 4, none⟩ v4).setCell ⟨n, 5, none⟩ v5).setCell ⟨n, 6, none⟩ v6).setCell ⟨n, 7, none⟩ v7).setCell ⟨n, 8, none⟩ v8)
theorem st9_size (w : World) (n : Nat) (v0 v1 v2 v3 v4 v5 v6 v7 v8 : Value) : (st9 w n v0 v1 v2 v3 v4 v5 v6 v7 v8).heap.size = w.heap.size := by simp [st9, World.setCell]
theorem st9_other {w : World} {n : Nat} {v0 v1 v2 v3 v4 v5 v6 v7 v8 : Value} {m : Nat} (hm : ¬ m = n) (o : Nat) : (st9 w n v0 v1 v2 v3 v4 v5 v6 v7 v8).cell? ⟨m, o, none⟩ = w.cell? ⟨m, o, none⟩ := by
  apply World.cell?_of_block
  show (st9 w n v0 v1 v2 v3 v4 v5 v6 v7 v8).heap[m]? = w.heap[m]?
  unfold st9
  rw [Below.heap_setCell _ _ _ _ hm, Below.heap_setCell _ _ _ _ hm, Below.heap_setCell _ _ _ _ hm, Below.heap_setCell _ _ _ _ hm, Below.heap_setCell _ _ _ _ hm, Below.heap_setCell _ _ _ _ hm, Below.heap_setCell _ _ _ _ hm, Below.heap_setCell _ _ _ _ hm, Below.heap_setCell _ _ _ _ hm]
theorem cell_set {w : World} {n i : Nat} {c : Array Value} {v : Value} (hi : i < c.size) (hx : ∀ o, w.cell? ⟨n, o, none⟩ = c[o]?) : ∀ o, (w.setCell ⟨n, i, none⟩ v).cell? ⟨n, o, none⟩ = (c.setIfInBounds i v)[o]? := fun o => by
  by_cases h : o = i
  · subst h
    rw [World.cell?_setCell_same _ _ v ((hx o).trans (Array.getElem?_eq_getElem hi)), Array.getElem?_setIfInBounds_self_of_lt hi]
  · rw [World.cell?_setCell_other _ _ _ _ (by intro e; cases e; exact h rfl), hx o, Array.getElem?_setIfInBounds_ne (by omega)]
theorem st9_same {w : World} {n : Nat} {c0 c1 c2 c3 c4 c5 c6 c7 c8 v0 v1 v2 v3 v4 v5 v6 v7 v8 : Value} (hx : ∀ o, w.cell? ⟨n, o, none⟩ = #[c0, c1, c2, c3, c4, c5, c6, c7, c8][o]?) : ∀ o, (st9 w n v0 v1 v2 v3 v4 v5 v6 v7 v8).cell? ⟨n, o, none⟩ = #[v0, v1, v2, v3, v4, v5, v6, v7, v8][o]? := by
  have h0 : ∀ o, (w.setCell ⟨n, 0, none⟩ v0).cell? ⟨n, o, none⟩ = #[v0, c1, c2, c3, c4, c5, c6, c7, c8][o]? := fun o => (cell_set (by simp) hx o).trans (congrArg (fun c : Array Value => c[o]?) (by simp))
  have h1 : ∀ o, ((w.setCell ⟨n, 0, none⟩ v0).setCell ⟨n, 1, none⟩ v1).cell? ⟨n, o, none⟩ = #[v0, v1, c2, c3, c4, c5, c6, c7, c8][o]? := fun o => (cell_set (by simp) h0 o).trans (congrArg (fun c : Array Value => c[o]?) (by simp))
  have h2 : ∀ o, (((w.setCell ⟨n, 0, none⟩ v0).setCell ⟨n, 1, none⟩ v1).setCell ⟨n, 2, none⟩ v2).cell? ⟨n, o, none⟩ = #[v0, v1, v2, c3, c4, c5, c6, c7, c8][o]? := fun o => (cell_set (by simp) h1 o).trans (congrArg (fun c : Array Value => c[o]?) (by simp))
  have h3 : ∀ o, ((((w.setCell ⟨n, 0, none⟩ v0).setCell ⟨n, 1, none⟩ v1).setCell ⟨n, 2, none⟩ v2).setCell ⟨n, 3, none⟩ v3).cell? ⟨n, o, none⟩ = #[v0, v1, v2, v3, c4, c5, c6, c7, c8][o]? := fun o => (cell_set (by simp) h2 o).trans (congrArg (fun c : Array Value => c[o]?) (by simp))
  have h4 : ∀ o, (((((w.setCell ⟨n, 0, none⟩ v0).setCell ⟨n, 1, none⟩ v1).setCell ⟨n, 2, none⟩ v2).setCell ⟨n, 3, none⟩ v3).setCell ⟨n, 4, none⟩ v4).cell? ⟨n, o, none⟩ = #[v0, v1, v2, v3, v4, c5, c6, c7, c8][o]? := fun o => (cell_set (by simp) h3 o).trans (congrArg (fun c : Array Value => c[o]?) (by simp))
  have h5 : ∀ o, ((((((w.setCell ⟨n, 0, none⟩ v0).setCell ⟨n, 1, none⟩ v1).setCell ⟨n, 2, none⟩ v2).setCell ⟨n, 3, none⟩ v3).setCell ⟨n, 4, none⟩ v4).setCell ⟨n, 5, none⟩ v5).cell? ⟨n, o, none⟩ = #[v0, v1, v2, v3, v4, v5, c6, c7, c8][o]? := fun o => (cell_set (by simp) h4 o).trans (congrArg (fun c : Array Value => c[o]?) (by simp))
  have h6 : ∀ o, (((((((w.setCell ⟨n, 0, none⟩ v0).setCell ⟨n, 1, none⟩ v1).setCell ⟨n, 2, none⟩ v2).setCell ⟨n, 3, none⟩ v3).setCell ⟨n, 4, none⟩ v4).setCell ⟨n, 5, none⟩ v5).setCell ⟨n, 6, none⟩ v6).cell? ⟨n, o, none⟩ = #[v0, v1, v2, v3, v4, v5, v6, c7, c8][o]? := fun o => (cell_set (by simp) h5 o).trans (congrArg (fun c : Array Value => c[o]?) (by simp))
  have h7 : ∀ o, ((((((((w.setCell ⟨n, 0, none⟩ v0).setCell ⟨n, 1, none⟩ v1).setCell ⟨n, 2, none⟩ v2).setCell ⟨n, 3, none⟩ v3).setCell ⟨n, 4, none⟩ v4).setCell ⟨n, 5, none⟩ v5).setCell ⟨n, 6, none⟩ v6).setCell ⟨n, 7, none⟩ v7).cell? ⟨n, o, none⟩ = #[v0, v1, v2, v3, v4, v5, v6, v7, c8][o]? := fun o => (cell_set (by simp) h6 o).trans (congrArg (fun c : Array Value => c[o]?) (by simp))
  have h8 : ∀ o, (((((((((w.setCell ⟨n, 0, none⟩ v0).setCell ⟨n, 1, none⟩ v1).setCell ⟨n, 2, none⟩ v2).setCell ⟨n, 3, none⟩ v3).setCell ⟨n, 4, none⟩ v4).setCell ⟨n, 5, none⟩ v5).setCell ⟨n, 6, none⟩ v6).setCell ⟨n, 7, none⟩ v7).setCell ⟨n, 8, none⟩ v8).cell? ⟨n, o, none⟩ = #[v0, v1, v2, v3, v4, v5, v6, v7, v8][o]? := fun o => (cell_set (by simp) h7 o).trans (congrArg (fun c : Array Value => c[o]?) (by simp))
  exact h8
theorem Kp.carryS {w b : World} {n : Nat} {v0 v1 v2 v3 v4 v5 v6 v7 v8 : Value} (h : Kp (st9 w n v0 v1 v2 v3 v4 v5 v6 v7 v8) b) {m : Nat} {c : Array Value} (hm : m < w.heap.size) (hne : ¬ m = n) (hx : ∀ o, w.cell? ⟨m, o, none⟩ = c[o]?) : ∀ o, b.cell? ⟨m, o, none⟩ = c[o]? :=
  fun o => by rw [h.below.cell (p := ⟨m, o, none⟩) (by rw [st9_size]; exact hm), st9_other hne]; exact hx o
theorem Kp.newS {w b : World} {n : Nat} {v0 v1 v2 v3 v4 v5 v6 v7 v8 : Value} {c0 c1 c2 c3 c4 c5 c6 c7 c8 : Value} (h : Kp (st9 w n v0 v1 v2 v3 v4 v5 v6 v7 v8) b) (hm : n < w.heap.size) (hx : ∀ o, w.cell? ⟨n, o, none⟩ = #[c0, c1, c2, c3, c4, c5, c6, c7, c8][o]?) : ∀ o, b.cell? ⟨n, o, none⟩ = #[v0, v1, v2, v3, v4, v5, v6, v7, v8][o]? :=
  fun o => by rw [h.below.cell (p := ⟨n, o, none⟩) (by rw [st9_size]; exact hm)]; exact st9_same hx o
theorem Kp.sizeS {w b : World} {n : Nat} {v0 v1 v2 v3 v4 v5 v6 v7 v8 : Value} (h : Kp (st9 w n v0 v1 v2 v3 v4 v5 v6 v7 v8) b) : w.heap.size ≤ b.heap.size := by have := h.size; rw [st9_size] at this; exact this
theorem do_add_y {a b c : Int} (w : World) (ha : InR a) (hb : InR b) (hc : InR c) (e : a + b = c) :
    Calls Try.prog 6 #[.int .i64 1, tNum 1 a, tNum 1 b] w fun e w' => e = .returned (.tuple #[tNum 1 c, .int .i64 0]) ∧ Kp w w' := by
  have := do_add a b w ha hb; subst e; rw [kOf_yes hc, vOf_yes hc, eOf_yes hc] at this; exact this
theorem do_add_n {a b : Int} (w : World) (ha : InR a) (hb : InR b) (hc : ¬ InR (a + b)) :
    Calls Try.prog 6 #[.int .i64 1, tNum 1 a, tNum 1 b] w fun e w' => e = .returned (.tuple #[tNum 0 0, .int .i64 12]) ∧ Kp w w' := by
  have := do_add a b w ha hb; rw [kOf_no hc, vOf_no hc, eOf_no hc] at this; exact this
theorem do_sub_y {a b c : Int} (w : World) (ha : InR a) (hb : InR b) (hc : InR c) (e : a - b = c) :
    Calls Try.prog 6 #[.int .i64 2, tNum 1 a, tNum 1 b] w fun e w' => e = .returned (.tuple #[tNum 1 c, .int .i64 0]) ∧ Kp w w' := by
  have := do_sub a b w ha hb; subst e; rw [kOf_yes hc, vOf_yes hc, eOf_yes hc] at this; exact this
theorem do_mul_y {a b c : Int} (w : World) (ha : InR a) (hb : InR b) (hc : InR c) (e : a * b = c) :
    Calls Try.prog 6 #[.int .i64 3, tNum 1 a, tNum 1 b] w fun e w' => e = .returned (.tuple #[tNum 1 c, .int .i64 0]) ∧ Kp w w' := by
  have := do_mul a b w ha hb; subst e; rw [kOf_yes hc, vOf_yes hc, eOf_yes hc] at this; exact this
theorem do_mul_v {a b k v r : Int} (w : World) (ha : InR a) (hb : InR b) (h1 : kOf (a * b) = k) (h2 : vOf (a * b) = v) (h3 : eOf (a * b) = r) :
    Calls Try.prog 6 #[.int .i64 3, tNum 1 a, tNum 1 b] w fun e w' => e = .returned (.tuple #[tNum k v, .int .i64 r]) ∧ Kp w w' := by
  subst h1 h2 h3; exact do_mul a b w ha hb
theorem do_div_y {a b c : Int} (w : World) (ha : InR a) (hb : InR b) (h0 : ¬ b = 0) (hc : InR c) (e : a.tdiv b = c) :
    Calls Try.prog 6 #[.int .i64 4, tNum 1 a, tNum 1 b] w fun e w' => e = .returned (.tuple #[tNum 1 c, .int .i64 0]) ∧ Kp w w' := by
  have := do_div a b w ha hb h0; subst e; rw [kOf_yes hc, vOf_yes hc, eOf_yes hc] at this; exact this
theorem do_div_n {a b : Int} (w : World) (ha : InR a) (hb : InR b) (h0 : ¬ b = 0) (hc : ¬ InR (a.tdiv b)) :
    Calls Try.prog 6 #[.int .i64 4, tNum 1 a, tNum 1 b] w fun e w' => e = .returned (.tuple #[tNum 0 0, .int .i64 12]) ∧ Kp w w' := by
  have := do_div a b w ha hb h0; rw [kOf_no hc, vOf_no hc, eOf_no hc] at this; exact this
theorem do_rem_y {a b c : Int} (w : World) (ha : InR a) (hb : InR b) (h0 : ¬ b = 0) (hc : InR c) (e : a.tmod b = c) :
    Calls Try.prog 6 #[.int .i64 5, tNum 1 a, tNum 1 b] w fun e w' => e = .returned (.tuple #[tNum 1 c, .int .i64 0]) ∧ Kp w w' := by
  have := do_rem a b w ha hb h0; subst e; rw [kOf_yes hc, vOf_yes hc, eOf_yes hc] at this; exact this
end Go.Proofs.Ytancbidpmbjmnaa
