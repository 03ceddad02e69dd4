import Derived.Test.YtancbidpmbjmnaaB
import Derived.WalkSpells
namespace Go.Proofs.Ytancbidpmbjmnaa
open Go.RowKit
set_option linter.unusedVariables false
@[go_sem] theorem st_nilFunc (P : Program) (w : World) (a : Addr) (m : Mode) : (store a .nilFunc m).run P w = stored P w a .nilFunc m := run_store P w a _ m rfl
@[go_sem] theorem st_func (P : Program) (w : World) (a : Addr) (m : Mode) (fn : Fn) (x y : Array Value) : (store a (.func fn x y) m).run P w = stored P w a (.func fn x y) m := run_store P w a _ m rfl
abbrev tab (p q : Nat) : Value := .agg #[.nilFunc, .func (.func 17) #[] #[.pointer (some ⟨p, 0, none⟩), .pointer (some ⟨q, 0, none⟩)], .func (.func 18) #[] #[.pointer (some ⟨p, 0, none⟩), .pointer (some ⟨q, 0, none⟩)], .func (.func 19) #[] #[.pointer (some ⟨p, 0, none⟩), .pointer (some ⟨q, 0, none⟩)], .func (.func 21) #[] #[.pointer (some ⟨p, 0, none⟩), .pointer (some ⟨q, 0, none⟩)], .func (.func 22) #[] #[.pointer (some ⟨p, 0, none⟩), .pointer (some ⟨q, 0, none⟩)]]
@[go_sem] theorem ix1 (p q : Nat) (w : World) : (Instr.index 45 (tab p q) (.int .i64 1)).run Try.prog w = .ok (.func (.func 17) #[] #[.pointer (some ⟨p, 0, none⟩), .pointer (some ⟨q, 0, none⟩)]) w := by kernel_rfl
@[go_sem] theorem ix2 (p q : Nat) (w : World) : (Instr.index 45 (tab p q) (.int .i64 2)).run Try.prog w = .ok (.func (.func 18) #[] #[.pointer (some ⟨p, 0, none⟩), .pointer (some ⟨q, 0, none⟩)]) w := by kernel_rfl
@[go_sem] theorem ix3 (p q : Nat) (w : World) : (Instr.index 45 (tab p q) (.int .i64 3)).run Try.prog w = .ok (.func (.func 19) #[] #[.pointer (some ⟨p, 0, none⟩), .pointer (some ⟨q, 0, none⟩)]) w := by kernel_rfl
@[go_sem] theorem ix4 (p q : Nat) (w : World) : (Instr.index 45 (tab p q) (.int .i64 4)).run Try.prog w = .ok (.func (.func 21) #[] #[.pointer (some ⟨p, 0, none⟩), .pointer (some ⟨q, 0, none⟩)]) w := by kernel_rfl
@[go_sem] theorem ix5 (p q : Nat) (w : World) : (Instr.index 45 (tab p q) (.int .i64 5)).run Try.prog w = .ok (.func (.func 22) #[] #[.pointer (some ⟨p, 0, none⟩), .pointer (some ⟨q, 0, none⟩)]) w := by kernel_rfl
set_option maxHeartbeats 800000 in
theorem pair_any (a b : Int) (w : World) :
    Calls Try.prog 13 #[.int .i64 a, .int .i64 b] w fun e w' => ∃ p q, e = .returned (tab p q) ∧ w'.cell? ⟨p, 0, none⟩ = some (.int .i64 a) ∧ w'.cell? ⟨q, 0, none⟩ = some (.int .i64 b) ∧ p < w'.heap.size ∧ q < w'.heap.size ∧ Kp w w' := by
  go_enter Try.func13, Try.ntmps13
  go_wp2
  exact bodyPost_ret (v := tab w.heap.size (w.heap.size + 1)) (by simp [results, Try.results13, go_sem]) rfl ⟨_, _, rfl, by simp [go_sem], by simp [go_sem], by simp; omega, by simp, (((Kp.refl _).alloc _ _).alloc _ _).alloc _ _⟩
set_option maxHeartbeats 800000 in
theorem doInts_add (a b : Int) (w : World) (ha : InR a) (hb : InR b) :
    Calls Try.prog 9 #[.int .i64 1, .int .i64 a, .int .i64 b] w fun e w' => e = .returned (.tuple #[tNum (kOf (a + b)) (vOf (a + b)), .int .i64 (eOf (a + b))]) ∧ Kp w w' := by
  have HA : Hid (InR a) := ha
  have HB : Hid (InR b) := hb
  clear ha hb
  cases hbz : b == 0
  all_goals
    go_enter Try.func9, Try.ntmps9
    go_wp2_with (first | (go_at_call 13; refine (pair_any a b _).mono ?_; rintro e w1 ⟨p, q, rfl, hp, hq, hp1, hq1, hk1⟩; obtain ⟨hc1, hf1, hz1⟩ := hk1.facts; have HK1 : Hid _ := hk1; clear hk1; have hz : w.heap.size < w1.heap.size := (by simp at hz1; omega); clear hz1) | (go_at_call 17; refine (c_add a b _ _ _ hp hq hp1 hq1 HA.out HB.out).mono ?_; rintro e w2 ⟨rfl, hk2⟩; obtain ⟨hc2, hf2, hz2⟩ := hk2.facts))
    have hk := (((Kp.refl w).alloc _ _).trans HK1.out).trans hk2
    exact bodyPost_ret (v := .tuple #[tNum (kOf (a + b)) (vOf (a + b)), .int .i64 (eOf (a + b))]) (by simp [results, Try.results9, go_sem, hc1, hc2, hz]) rfl ⟨rfl, Kp.set9 hk _ (Nat.le_refl _) _ _ _ _ _ _ _ _ _⟩
set_option maxHeartbeats 800000 in
theorem doInts_sub (a b : Int) (w : World) (ha : InR a) (hb : InR b) :
    Calls Try.prog 9 #[.int .i64 2, .int .i64 a, .int .i64 b] w fun e w' => e = .returned (.tuple #[tNum (kOf (a - b)) (vOf (a - b)), .int .i64 (eOf (a - b))]) ∧ Kp w w' := by
  have HA : Hid (InR a) := ha
  have HB : Hid (InR b) := hb
  clear ha hb
  cases hbz : b == 0
  all_goals
    go_enter Try.func9, Try.ntmps9
    go_wp2_with (first | (go_at_call 13; refine (pair_any a b _).mono ?_; rintro e w1 ⟨p, q, rfl, hp, hq, hp1, hq1, hk1⟩; obtain ⟨hc1, hf1, hz1⟩ := hk1.facts; have HK1 : Hid _ := hk1; clear hk1; have hz : w.heap.size < w1.heap.size := (by simp at hz1; omega); clear hz1) | (go_at_call 18; refine (c_sub a b _ _ _ hp hq hp1 hq1 HA.out HB.out).mono ?_; rintro e w2 ⟨rfl, hk2⟩; obtain ⟨hc2, hf2, hz2⟩ := hk2.facts))
    have hk := (((Kp.refl w).alloc _ _).trans HK1.out).trans hk2
    exact bodyPost_ret (v := .tuple #[tNum (kOf (a - b)) (vOf (a - b)), .int .i64 (eOf (a - b))]) (by simp [results, Try.results9, go_sem, hc1, hc2, hz]) rfl ⟨rfl, Kp.set9 hk _ (Nat.le_refl _) _ _ _ _ _ _ _ _ _⟩
set_option maxHeartbeats 800000 in
theorem doInts_mul (a b : Int) (w : World) (ha : InR a) (hb : InR b) :
    Calls Try.prog 9 #[.int .i64 3, .int .i64 a, .int .i64 b] w fun e w' => e = .returned (.tuple #[tNum (kOf (a * b)) (vOf (a * b)), .int .i64 (eOf (a * b))]) ∧ Kp w w' := by
  have HA : Hid (InR a) := ha
  have HB : Hid (InR b) := hb
  clear ha hb
  cases hbz : b == 0
  all_goals
    go_enter Try.func9, Try.ntmps9
    go_wp2_with (first | (go_at_call 13; refine (pair_any a b _).mono ?_; rintro e w1 ⟨p, q, rfl, hp, hq, hp1, hq1, hk1⟩; obtain ⟨hc1, hf1, hz1⟩ := hk1.facts; have HK1 : Hid _ := hk1; clear hk1; have hz : w.heap.size < w1.heap.size := (by simp at hz1; omega); clear hz1) | (go_at_call 19; refine (c_mul a b _ _ _ hp hq hp1 hq1 HA.out HB.out).mono ?_; rintro e w2 ⟨rfl, hk2⟩; obtain ⟨hc2, hf2, hz2⟩ := hk2.facts))
    have hk := (((Kp.refl w).alloc _ _).trans HK1.out).trans hk2
    exact bodyPost_ret (v := .tuple #[tNum (kOf (a * b)) (vOf (a * b)), .int .i64 (eOf (a * b))]) (by simp [results, Try.results9, go_sem, hc1, hc2, hz]) rfl ⟨rfl, Kp.set9 hk _ (Nat.le_refl _) _ _ _ _ _ _ _ _ _⟩
set_option maxHeartbeats 800000 in
theorem doInts_div (a b : Int) (w : World) (ha : InR a) (hb : InR b) (h0 : ¬ b = 0) :
    Calls Try.prog 9 #[.int .i64 4, .int .i64 a, .int .i64 b] w fun e w' => e = .returned (.tuple #[tNum (kOf (a.tdiv b)) (vOf (a.tdiv b)), .int .i64 (eOf (a.tdiv b))]) ∧ Kp w w' := by
  have HA : Hid (InR a) := ha
  have HB : Hid (InR b) := hb
  clear ha hb
  go_enter Try.func9, Try.ntmps9
  go_wp2_with (first | (go_at_call 13; refine (pair_any a b _).mono ?_; rintro e w1 ⟨p, q, rfl, hp, hq, hp1, hq1, hk1⟩; obtain ⟨hc1, hf1, hz1⟩ := hk1.facts; have HK1 : Hid _ := hk1; clear hk1; have hz : w.heap.size < w1.heap.size := (by simp at hz1; omega); clear hz1) | (go_at_call 21; refine (c_div a b _ _ _ hp hq hp1 hq1 HA.out HB.out h0).mono ?_; rintro e w2 ⟨rfl, hk2⟩; obtain ⟨hc2, hf2, hz2⟩ := hk2.facts))
  have hk := (((Kp.refl w).alloc _ _).trans HK1.out).trans hk2
  exact bodyPost_ret (v := .tuple #[tNum (kOf (a.tdiv b)) (vOf (a.tdiv b)), .int .i64 (eOf (a.tdiv b))]) (by simp [results, Try.results9, go_sem, hc1, hc2, hz]) rfl ⟨rfl, Kp.set9 hk _ (Nat.le_refl _) _ _ _ _ _ _ _ _ _⟩
set_option maxHeartbeats 800000 in
theorem doInts_rem (a b : Int) (w : World) (ha : InR a) (hb : InR b) (h0 : ¬ b = 0) :
    Calls Try.prog 9 #[.int .i64 5, .int .i64 a, .int .i64 b] w fun e w' => e = .returned (.tuple #[tNum (kOf (a.tmod b)) (vOf (a.tmod b)), .int .i64 (eOf (a.tmod b))]) ∧ Kp w w' := by
  have HA : Hid (InR a) := ha
  have HB : Hid (InR b) := hb
  clear ha hb
  go_enter Try.func9, Try.ntmps9
  go_wp2_with (first | (go_at_call 13; refine (pair_any a b _).mono ?_; rintro e w1 ⟨p, q, rfl, hp, hq, hp1, hq1, hk1⟩; obtain ⟨hc1, hf1, hz1⟩ := hk1.facts; have HK1 : Hid _ := hk1; clear hk1; have hz : w.heap.size < w1.heap.size := (by simp at hz1; omega); clear hz1) | (go_at_call 22; refine (c_rem a b _ _ _ hp hq hp1 hq1 HA.out HB.out h0).mono ?_; rintro e w2 ⟨rfl, hk2⟩; obtain ⟨hc2, hf2, hz2⟩ := hk2.facts))
  have hk := (((Kp.refl w).alloc _ _).trans HK1.out).trans hk2
  exact bodyPost_ret (v := .tuple #[tNum (kOf (a.tmod b)) (vOf (a.tmod b)), .int .i64 (eOf (a.tmod b))]) (by simp [results, Try.results9, go_sem, hc1, hc2, hz]) rfl ⟨rfl, Kp.set9 hk _ (Nat.le_refl _) _ _ _ _ _ _ _ _ _⟩
set_option maxHeartbeats 800000 in
theorem doInts_zero4 (a : Int) (w : World) :
    Calls Try.prog 9 #[.int .i64 4, .int .i64 a, .int .i64 0] w fun e w' => e = .returned (.tuple #[tNum 0 0, .int .i64 11]) ∧ Kp w w' := by
  go_enter Try.func9, Try.ntmps9
  go_wp2_with fail
  exact bodyPost_ret (v := .tuple #[tNum 0 0, .int .i64 11]) (by simp [results, Try.results9, go_sem]) rfl ⟨rfl, (Kp.refl _).alloc _ _⟩
set_option maxHeartbeats 800000 in
theorem doInts_zero5 (a : Int) (w : World) :
    Calls Try.prog 9 #[.int .i64 5, .int .i64 a, .int .i64 0] w fun e w' => e = .returned (.tuple #[tNum 0 0, .int .i64 11]) ∧ Kp w w' := by
  go_enter Try.func9, Try.ntmps9
  go_wp2_with fail
  exact bodyPost_ret (v := .tuple #[tNum 0 0, .int .i64 11]) (by simp [results, Try.results9, go_sem]) rfl ⟨rfl, (Kp.refl _).alloc _ _⟩
end Go.Proofs.Ytancbidpmbjmnaa
