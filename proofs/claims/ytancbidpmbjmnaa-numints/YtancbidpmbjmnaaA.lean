import Derived.Test.YtancbidpmbjmnaaProg
import Derived.WalkKit
import Derived.WalkLawsBesides
import Derived.ProofKit
import Derived.Test.YtancbidpmbjmnaaM
namespace Go.Proofs.Ytancbidpmbjmnaa
open Go.RowKit
@[go_sem] theorem st_complex (P : Program) (w : World) (a : Addr) (m : Mode) (k : FloatKind) (x y : Nat) : (store a (.complex k x y) m).run P w = stored P w a (.complex k x y) m := run_store P w a _ m rfl
@[go_sem] theorem st_float (P : Program) (w : World) (a : Addr) (m : Mode) (k : FloatKind) (x : Nat) : (store a (.float k x) m).run P w = stored P w a (.float k x) m := run_store P w a _ m rfl

@[go_sem] theorem ord00 : FloatKind.f64.format.order 0 0 = some .eq := by decide

structure Kp (w w' : World) : Prop where
  below : Below w.heap.size w w'
  frozen : ∀ a, w'.frozen? a = w.frozen? a
theorem Kp.refl (w : World) : Kp w w := ⟨Below.refl _ _, fun _ => rfl⟩
theorem Kp.size {a b : World} (h : Kp a b) : a.heap.size ≤ b.heap.size := h.below.size
theorem Kp.trans {a b c : World} (h : Kp a b) (k : Kp b c) : Kp a c :=
  ⟨h.below.trans (k.below.mono h.below.size), fun x => (k.frozen x).trans (h.frozen x)⟩
theorem Kp.alloc {a w : World} (h : Kp a w) (c : Array Value) (t : TypeId) : Kp a (w.alloc (.cells c t)) :=
  ⟨h.below.alloc h.size _, fun x => (frozen?_alloc_cells _ _ _ x).trans (h.frozen x)⟩
theorem Kp.setCell {a w : World} (h : Kp a w) {p : Addr} (hp : a.heap.size ≤ p.block) (u : Value) : Kp a (w.setCell p u) :=
  ⟨h.below.setCell hp u, fun x => (World.frozen?_setCell _ _ _ _).trans (h.frozen x)⟩
theorem Kp.drew {a w : World} (h : Kp a w) : Kp a w.drew := ⟨h.below.drew, h.frozen⟩
theorem Kp.set9 {a w : World} (h : Kp a w) (n : Nat) (hn : a.heap.size ≤ n) (v0 v1 v2 v3 v4 v5 v6 v7 v8 : Value) :
    Kp a (((((((((w.setCell ⟨n, 0, none⟩ v0).setCell ⟨n, 1, none⟩ v1).setCell ⟨n, 2, none⟩ v2).setCell ⟨n, 3, none⟩ v3).setCell ⟨n, 4, none⟩ v4).setCell ⟨n, 5, none⟩ v5).setCell ⟨n, 6, none⟩ v6).setCell ⟨n, 7, none⟩ v7).setCell ⟨n, 8, none⟩ v8) :=
  Kp.setCell (Kp.setCell (Kp.setCell (Kp.setCell (Kp.setCell (Kp.setCell (Kp.setCell (Kp.setCell (Kp.setCell h hn v0) hn v1) hn v2) hn v3) hn v4) hn v5) hn v6) hn v7) hn v8
theorem Kp.facts {a b : World} (h : Kp a b) : (∀ n o, n < a.heap.size → b.cell? ⟨n, o, none⟩ = a.cell? ⟨n, o, none⟩) ∧ (∀ p, b.frozen? p = a.frozen? p) ∧ a.heap.size ≤ b.heap.size :=
  ⟨fun n o hn => h.below.cell (p := ⟨n, o, none⟩) hn, h.frozen, h.size⟩

abbrev tNum (k n : Int) : Value := .agg #[.int .i64 k, .int .i64 n, .complex .f64 0 0, .string { data := #[] }, .int .i64 0, .int .u32 0, .int .u64 0, .slice none 0 0, .slice none 0 0]

set_option maxHeartbeats 400000 in
theorem inRange_yes (n : Int) (w : World) (h1 : -4611686018427387904 ≤ n) (h2 : n ≤ 4611686018427387903) :
    Calls Try.prog 7 #[.int .i64 n] w fun e w' => e = .returned (.bool true) ∧ w' = w := by
  go_enter Try.func7, Try.ntmps7
  go_wp2
  go_ret
  exact ⟨rfl, rfl⟩
set_option maxHeartbeats 400000 in
theorem inRange_no (n : Int) (w : World) (h : ¬ (-4611686018427387904 ≤ n ∧ n ≤ 4611686018427387903)) :
    Calls Try.prog 7 #[.int .i64 n] w fun e w' => e = .returned (.bool false) ∧ w' = w := by
  by_cases h1 : -4611686018427387904 ≤ n
  · have h2 : ¬ n ≤ 4611686018427387903 := fun h2 => h ⟨h1, h2⟩
    clear h
    go_enter Try.func7, Try.ntmps7
    go_wp2
    go_ret
    exact ⟨rfl, rfl⟩
  · clear h
    go_enter Try.func7, Try.ntmps7
    go_wp2
    go_ret
    exact ⟨rfl, rfl⟩
set_option maxHeartbeats 400000 in
theorem int_yes (n : Int) (w : World) (h1 : -4611686018427387904 ≤ n) (h2 : n ≤ 4611686018427387903) :
    Calls Try.prog 5 #[.int .i64 n] w fun e w' => e = .returned (.tuple #[tNum 1 n, .int .i64 0]) ∧ Kp w w' := by
  go_enter Try.func5, Try.ntmps5
  go_wp2_with (first | (go_at_call 7; refine (inRange_yes _ _ h1 h2).mono ?_; rintro e w' ⟨rfl, rfl⟩))
  exact bodyPost_ret (v := .tuple #[tNum 1 n, .int .i64 0]) (by simp [results, Try.results5, go_sem]) rfl ⟨rfl, (Kp.refl _).alloc _ _⟩
set_option maxHeartbeats 400000 in
theorem int_no (n : Int) (w : World) (h : ¬ (-4611686018427387904 ≤ n ∧ n ≤ 4611686018427387903)) :
    Calls Try.prog 5 #[.int .i64 n] w fun e w' => e = .returned (.tuple #[tNum 0 0, .int .i64 12]) ∧ Kp w w' := by
  go_enter Try.func5, Try.ntmps5
  go_wp2_with (first | (go_at_call 7; refine (inRange_no _ _ h).mono ?_; rintro e w' ⟨rfl, rfl⟩))
  exact bodyPost_ret (v := .tuple #[tNum 0 0, .int .i64 12]) (by simp [results, Try.results5, go_sem]) rfl ⟨rfl, (Kp.refl _).alloc _ _⟩
theorem int_any (n : Int) (w : World) :
    Calls Try.prog 5 #[.int .i64 n] w fun e w' => e = .returned (.tuple #[tNum (kOf n) (vOf n), .int .i64 (eOf n)]) ∧ Kp w w' := by
  by_cases h : InR n
  · rw [kOf_yes h, vOf_yes h, eOf_yes h]; exact int_yes n w h.1 h.2
  · rw [kOf_no h, vOf_no h, eOf_no h]; exact int_no n w h
set_option maxHeartbeats 400000 in
theorem right_yes (n : Int) (w : World) (h1 : -4611686018427387904 ≤ n) (h2 : n ≤ 4611686018427387903) :
    Calls Try.prog 8 #[tNum 1 n] w fun e w' => e = .returned (.bool true) ∧ Kp w w' := by
  go_enter Try.func8, Try.ntmps8
  go_wp2_with (first | (go_at_call 7; refine (inRange_yes _ _ h1 h2).mono ?_; rintro e w' ⟨rfl, rfl⟩))
  go_ret
  exact ⟨rfl, (Kp.refl _).alloc _ _⟩
end Go.Proofs.Ytancbidpmbjmnaa
