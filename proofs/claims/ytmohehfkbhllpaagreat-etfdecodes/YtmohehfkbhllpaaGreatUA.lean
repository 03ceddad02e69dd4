/-
  The reference's reader: its small steps.
  The reference's reader: a byte.
-/
import Derived.Test.YtmohehfkbhllpaaGreatKA
import Derived.Test.YtmohehfkbhllpaaGreatR
set_option linter.unusedVariables false
set_option linter.unusedSimpArgs false
namespace Go.Proofs.YtmohehfkbhllpaaGreat
open Go.RowKit Go.Maps
variable {S S' Z : Nat → Prop} {W W1 W' : World}

/-- The reference's state: the bytes, the place, the size, the names, what is wrong. -/
abbrev sv (bv : Value) (i n : Nat) (nv : Value) (c : Int) : Value := .agg #[bv, .int .i64 (i : Int), .int .i64 (n : Int), nv, .int .i64 c]
set_option maxRecDepth 20000 in
theorem fail_new (ba : Option Addr) (bl bc : Nat) (na : Option Addr) (nn nc : Nat) (i n : Nat) (c : Int) (W : World) : Calls Tryz.prog 15 #[sv (.slice ba bl bc) i n (.slice na nn nc) 0, .int .i64 c] W fun e w' => e = .returned (sv (.slice ba bl bc) i n (.slice na nn nc) c) ∧ Gr (fun _ => False) W w' := by
  go_enter Tryz.func15, Tryz.ntmps15
  go_wp2
  exact bodyPost_ret (v := sv (.slice ba bl bc) i n (.slice na nn nc) c) (by simp [results, Tryz.results15, go_sem]) rfl ⟨rfl, (Gr.alloc _ _ _).trans (Gr.alloc _ _ _)⟩
set_option maxRecDepth 20000 in
theorem fail_old (ba : Option Addr) (bl bc : Nat) (na : Option Addr) (nn nc : Nat) (i n : Nat) (k c : Int) (hk : (k == 0) = false) (W : World) : Calls Tryz.prog 15 #[sv (.slice ba bl bc) i n (.slice na nn nc) k, .int .i64 c] W fun e w' => e = .returned (sv (.slice ba bl bc) i n (.slice na nn nc) k) ∧ Gr (fun _ => False) W w' := by
  go_enter Tryz.func15, Tryz.ntmps15
  go_wp2
  exact bodyPost_ret (v := sv (.slice ba bl bc) i n (.slice na nn nc) k) (by simp [results, Tryz.results15, go_sem]) rfl ⟨rfl, (Gr.alloc _ _ _).trans (Gr.alloc _ _ _)⟩
set_option maxRecDepth 20000 in
theorem must_yes (ba : Option Addr) (bl bc : Nat) (na : Option Addr) (nn nc : Nat) (i n : Nat) (k : Int) (W : World) : Calls Tryz.prog 32 #[sv (.slice ba bl bc) i n (.slice na nn nc) k, .bool true] W fun e w' => e = .returned (sv (.slice ba bl bc) i n (.slice na nn nc) k) ∧ Gr (fun _ => False) W w' := by
  go_enter Tryz.func32, Tryz.ntmps32
  go_wp2
  exact bodyPost_ret (v := sv (.slice ba bl bc) i n (.slice na nn nc) k) (by simp [results, Tryz.results32, go_sem]) rfl ⟨rfl, (Gr.alloc _ _ _).trans (Gr.alloc _ _ _)⟩
end Go.Proofs.YtmohehfkbhllpaaGreat

namespace Go.Proofs.YtmohehfkbhllpaaGreat
open Go.RowKit Go.Maps
variable {S S' Z : Nat → Prop} {W W1 W' : World}

theorem five {g : Nat} {x0 x1 x2 x3 x4 : Value} (h : W.heap[g]? = some (.cells #[x0, x1, x2, x3, x4] 51 (0, 0))) :
    (W.cell? ⟨g, 0, none⟩ = some x0 ∧ W.cell? ⟨g, 1, none⟩ = some x1 ∧ W.cell? ⟨g, 2, none⟩ = some x2 ∧ W.cell? ⟨g, 3, none⟩ = some x3 ∧ W.cell? ⟨g, 4, none⟩ = some x4) ∧ W.frozen? ⟨g, 0, none⟩ = false ∧ W.frozen? ⟨g, 1, none⟩ = false ∧ W.frozen? ⟨g, 2, none⟩ = false ∧ W.frozen? ⟨g, 3, none⟩ = false ∧ W.frozen? ⟨g, 4, none⟩ = false := by
  simp [World.cell?, World.frozen?, h]
theorem set5_same {W : World} {g : Nat} {x0 x1 x2 x3 x4 v0 v1 v2 v3 v4 : Value} (h : W.heap[g]? = some (.cells #[x0, x1, x2, x3, x4] 51 (0, 0))) :
    (((((W.setCell ⟨g, 0, none⟩ v0).setCell ⟨g, 1, none⟩ v1).setCell ⟨g, 2, none⟩ v2).setCell ⟨g, 3, none⟩ v3).setCell ⟨g, 4, none⟩ v4).heap[g]? = some (.cells #[v0, v1, v2, v3, v4] 51 (0, 0)) := by
  obtain ⟨W0, hW0⟩ : ∃ W0, W.setCell ⟨g, 0, none⟩ v0 = W0 := ⟨_, rfl⟩
  have h0 : W0.heap[g]? = some (.cells #[v0, x1, x2, x3, x4] 51 (0, 0)) := hW0 ▸ heap_setCell_same W g 0 _ 51 _ h
  obtain ⟨W1, hW1⟩ : ∃ W1, W0.setCell ⟨g, 1, none⟩ v1 = W1 := ⟨_, rfl⟩
  have h1 : W1.heap[g]? = some (.cells #[v0, v1, x2, x3, x4] 51 (0, 0)) := hW1 ▸ heap_setCell_same W0 g 1 _ 51 _ h0
  obtain ⟨W2, hW2⟩ : ∃ W2, W1.setCell ⟨g, 2, none⟩ v2 = W2 := ⟨_, rfl⟩
  have h2 : W2.heap[g]? = some (.cells #[v0, v1, v2, x3, x4] 51 (0, 0)) := hW2 ▸ heap_setCell_same W1 g 2 _ 51 _ h1
  obtain ⟨W3, hW3⟩ : ∃ W3, W2.setCell ⟨g, 3, none⟩ v3 = W3 := ⟨_, rfl⟩
  have h3 : W3.heap[g]? = some (.cells #[v0, v1, v2, v3, x4] 51 (0, 0)) := hW3 ▸ heap_setCell_same W2 g 3 _ 51 _ h2
  rw [hW0, hW1, hW2, hW3]
  exact heap_setCell_same W3 g 4 _ 51 _ h3
theorem own1 (W : World) (g o : Nat) (v : Value) : Gr (fun k => k = g) W (W.setCell ⟨g, o, none⟩ v) := Gr.set _ _ _ rfl
theorem Gr.own5 (W' : World) (g : Nat) (v0 v1 v2 v3 v4 : Value) :
    Gr (fun k => k = g) W' (((((W'.setCell ⟨g, 0, none⟩ v0).setCell ⟨g, 1, none⟩ v1).setCell ⟨g, 2, none⟩ v2).setCell ⟨g, 3, none⟩ v3).setCell ⟨g, 4, none⟩ v4) :=
  ((((own1 _ _ _ _).trans (own1 _ _ _ _)).trans (own1 _ _ _ _)).trans (own1 _ _ _ _)).trans (own1 _ _ _ _)
abbrev zer5 : Obj := .cells #[.slice none 0 0, .int .i64 0, .int .i64 0, .slice none 0 0, .int .i64 0] 51
/-- A state of the reference's in its block, and a block for the answer. -/
structure Sx (W : World) (N : Nat) (bv nv : Value) (i n : Nat) (c : Int) (X : World) : Prop where
  st : X.heap[N]? = some (.cells #[bv, .int .i64 (i : Int), .int .i64 (n : Int), nv, .int .i64 c] 51 (0, 0))
  out : X.heap[N + 1]? = some (.cells #[.slice none 0 0, .int .i64 0, .int .i64 0, .slice none 0 0, .int .i64 0] 51 (0, 0))
  gr : Gr (fun _ => False) W X
theorem Sx.turn {N : Nat} {bv nv : Value} {i n : Nat} {c : Int} {X X' : World} (h : Sx W N bv nv i n c X) (g : Gr (fun _ => False) X X') : Sx W N bv nv i n c X' :=
  ⟨g.keep h.st (fun e => e), g.keep h.out (fun e => e), h.gr.trans g⟩
theorem Sx.new (W : World) (bv nv : Value) (i n : Nat) (c : Int) : Sx W W.heap.size bv nv i n c ((W.alloc (.cells #[bv, .int .i64 (i : Int), .int .i64 (n : Int), nv, .int .i64 c] 51)).alloc zer5) := by
  refine ⟨?_, ?_, (Gr.alloc _ _ _).trans (Gr.alloc _ _ _)⟩ <;> (simp only [al, World.size_alloc]; repeat (first | rw [if_pos trivial] | rw [if_pos (by omega)] | rw [if_neg (by omega)]))
theorem Sx.set {N : Nat} {bv nv : Value} {i n : Nat} {c : Int} {X : World} (hN : W.heap.size ≤ N) (h : Sx W N bv nv i n c X) (bv' nv' : Value) (i' n' : Nat) (c' : Int) :
    Sx W N bv' nv' i' n' c' (((((X.setCell ⟨N, 0, none⟩ bv').setCell ⟨N, 1, none⟩ (.int .i64 (i' : Int))).setCell ⟨N, 2, none⟩ (.int .i64 (n' : Int))).setCell ⟨N, 3, none⟩ nv').setCell ⟨N, 4, none⟩ (.int .i64 c')) :=
  ⟨set5_same h.st, (Gr.own5 X N _ _ _ _ _).keep h.out (by omega), h.gr.trans' (Gr.own5 X N _ _ _ _ _) (fun i hi e => by omega)⟩

set_option maxRecDepth 20000 in
set_option maxHeartbeats 400000 in
theorem must_no (ba : Option Addr) (bl bc : Nat) (na : Option Addr) (nn nc : Nat) (i n : Nat) (W : World) : Calls Tryz.prog 32 #[sv (.slice ba bl bc) i n (.slice na nn nc) 0, .bool false] W fun e w' => e = .returned (sv (.slice ba bl bc) i n (.slice na nn nc) 73) ∧ Gr (fun _ => False) W w' := by
  have hf := fail_new ba bl bc na nn nc i n 73
  have hx := Sx.new W (.slice ba bl bc) (.slice na nn nc) i n 0
  go_enter Tryz.func32, Tryz.ntmps32
  go_wp2_with fail
  refine (hf _).mono ?_
  rintro e w1 ⟨rfl, g1⟩
  have h1 := hx.turn g1
  obtain ⟨⟨q0, q1, q2, q3, q4⟩, f0, f1, f2, f3, f4⟩ := five h1.out
  have hl := (Array.getElem?_eq_some_iff.1 h1.out).1
  have e5 := set5_same (v0 := .slice ba bl bc) (v1 := .int .i64 (i : Int)) (v2 := .int .i64 (n : Int)) (v3 := .slice na nn nc) (v4 := .int .i64 73) h1.out
  have g5 := Gr.own5 w1 (W.heap.size + 1) (.slice ba bl bc) (.int .i64 (i : Int)) (.int .i64 (n : Int)) (.slice na nn nc) (.int .i64 73)
  have E5 := Lib.hid e5
  have G5 := Lib.hid g5
  have H1 := Lib.hid h1
  clear e5 g5 h1 hx
  go_wp2_with fail
  generalize World.setCell (World.setCell (World.setCell (World.setCell (World.setCell w1 _ _) _ _) _ _) _ _) _ _ = wa at E5 G5 ⊢
  obtain ⟨⟨r0, r1, r2, r3, r4⟩, -⟩ := five E5.out
  exact bodyPost_ret (v := sv (.slice ba bl bc) i n (.slice na nn nc) 73) (by simp [results, Tryz.results32, go_sem, r0, r1, r2, r3, r4]) rfl ⟨rfl, H1.out.gr.trans' G5.out (fun i hi e => by omega)⟩

set_option maxRecDepth 20000 in
set_option maxHeartbeats 400000 in
theorem one_old (ba : Option Addr) (bl bc : Nat) (na : Option Addr) (nn nc : Nat) (i n : Nat) (k : Int) (hk : (k == 0) = false) (W : World) : Calls Tryz.prog 14 #[sv (.slice ba bl bc) i n (.slice na nn nc) k] W fun e w' => e = .returned (.tuple #[sv (.slice ba bl bc) i n (.slice na nn nc) k, .int .u8 0]) ∧ Gr (fun _ => False) W w' := by
  have hk2 : ¬ k = 0 := by simpa using hk
  go_enter Tryz.func14, Tryz.ntmps14
  go_wp2
  exact bodyPost_ret (v := .tuple #[sv (.slice ba bl bc) i n (.slice na nn nc) k, .int .u8 0]) (by simp [results, Tryz.results14, go_sem]) rfl ⟨rfl, (Gr.alloc _ _ _).trans (Gr.alloc _ _ _)⟩
set_option maxRecDepth 20000 in
set_option maxHeartbeats 400000 in
theorem rone_ok (ba : Option Addr) (bc : Nat) (na : Option Addr) (nn nc : Nat) (i n : Nat) (m : List Int) (x : Int) (hx : m[i]? = some x) (W : World) (hq : Sq Z W (.slice ba m.length bc) m) : Calls Tryz.prog 14 #[sv (.slice ba m.length bc) i n (.slice na nn nc) 0] W fun e w' => e = .returned (.tuple #[sv (.slice ba m.length bc) (i + 1) n (.slice na nn nc) 0, .int .u8 x]) ∧ Gr (fun _ => False) W w' := by
  have hi : i < m.length := (List.getElem?_eq_some_iff.1 hx).1
  obtain ⟨a, c, e, h1, h2, h3, h4⟩ := hq
  cases e
  obtain ⟨g, o, rfl, hZ, h5⟩ := h4 (fun e => by rw [e] at hi; simp at hi)
  have hc := h5 i x hx
  have hgl := World.block_lt_of_cell? _ _ hc
  obtain ⟨p, hp⟩ : ∃ p, m.length = p := ⟨_, rfl⟩
  rw [hp] at hi h1 ⊢
  have hiI : (i : Int) < (p : Int) := by omega
  have hpI : (p : Int) ≤ 9223372036854775807 := by omega
  have hne : ((i : Int) == (p : Int)) = false := by simp; omega
  clear hx hi h4 h5 hp h3 h1 h2
  go_enter Tryz.func14, Tryz.ntmps14
  go_wp2
  exact bodyPost_ret (v := .tuple #[sv (.slice (some ⟨g, o, none⟩) p bc) (i + 1) n (.slice na nn nc) 0, .int .u8 x]) (by simp [results, Tryz.results14, go_sem]) rfl ⟨rfl, (Gr.alloc _ _ _).trans (Gr.alloc _ _ _)⟩
set_option maxRecDepth 20000 in
set_option maxHeartbeats 400000 in
theorem rone_no (ba : Option Addr) (bc : Nat) (na : Option Addr) (nn nc : Nat) (n p : Nat) (W : World) : Calls Tryz.prog 14 #[sv (.slice ba p bc) p n (.slice na nn nc) 0] W fun e w' => e = .returned (.tuple #[sv (.slice ba p bc) p n (.slice na nn nc) 72, .int .u8 0]) ∧ Gr (fun _ => False) W w' := by
  have hf := fail_new ba p bc na nn nc p n 72
  have hx := Sx.new W (.slice ba p bc) (.slice na nn nc) p n 0
  go_enter Tryz.func14, Tryz.ntmps14
  go_wp2_with fail
  refine (hf _).mono ?_
  rintro e w1 ⟨rfl, g1⟩
  have h1 := hx.turn g1
  obtain ⟨⟨q0, q1, q2, q3, q4⟩, f0, f1, f2, f3, f4⟩ := five h1.out
  have hl := (Array.getElem?_eq_some_iff.1 h1.out).1
  have e5 := set5_same (v0 := .slice ba p bc) (v1 := .int .i64 (p : Int)) (v2 := .int .i64 (n : Int)) (v3 := .slice na nn nc) (v4 := .int .i64 72) h1.out
  have g5 := Gr.own5 w1 (W.heap.size + 1) (.slice ba p bc) (.int .i64 (p : Int)) (.int .i64 (n : Int)) (.slice na nn nc) (.int .i64 72)
  have E5 := Lib.hid e5
  have G5 := Lib.hid g5
  have H1 := Lib.hid h1
  clear e5 g5 h1 hx
  go_wp2_with fail
  generalize World.setCell (World.setCell (World.setCell (World.setCell (World.setCell w1 _ _) _ _) _ _) _ _) _ _ = wa at E5 G5 ⊢
  obtain ⟨⟨r0, r1, r2, r3, r4⟩, -⟩ := five E5.out
  exact bodyPost_ret (v := .tuple #[sv (.slice ba p bc) p n (.slice na nn nc) 72, .int .u8 0]) (by simp [results, Tryz.results14, go_sem, r0, r1, r2, r3, r4]) rfl ⟨rfl, H1.out.gr.trans' G5.out (fun i hi e => by omega)⟩
end Go.Proofs.YtmohehfkbhllpaaGreat
