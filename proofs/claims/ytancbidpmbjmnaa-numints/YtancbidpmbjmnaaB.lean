import Derived.Test.YtancbidpmbjmnaaA
namespace Go.Proofs.Ytancbidpmbjmnaa
open Go.RowKit
set_option linter.unusedVariables false
set_option maxHeartbeats 400000 in
theorem product_any (a b : Int) (w : World) (ha : InR a) (hb : InR b) :
    Calls Try.prog 20 #[.int .i64 a, .int .i64 b] w fun e w' => e = .returned (.tuple #[tNum (kOf (a * b)) (vOf (a * b)), .int .i64 (eOf (a * b))]) ∧ Kp w w' := by
  by_cases h0 : b = 0
  · subst h0
    simp only [Int.mul_zero]
    have e0 : wrap64 0 = 0 := wrap_in (by decide) (by decide)
    clear ha hb
    go_enter Try.func20, Try.ntmps20
    go_wp2_with (first | (go_at_call 5; refine (int_any _ _).mono ?_; rintro e w' ⟨rfl, hb⟩; obtain ⟨hc, hf, hz⟩ := hb.facts))
    have hk := ((Kp.refl w).alloc _ _).trans hb
    exact bodyPost_ret (v := .tuple #[tNum (kOf 0) (vOf 0), .int .i64 (eOf 0)]) (by simp [results, Try.results20, go_sem, hc]) rfl ⟨rfl, Kp.set9 hk _ (Nat.le_refl _) _ _ _ _ _ _ _ _ _⟩
  · by_cases h1 : wrap64 ((wrap64 (a * b)).tdiv b) = a
    · have hw := mul_yes ha hb h0 h1
      rw [hw] at h1
      have t0 : (b != 0) = true := by simpa using h0
      have t1 : (wrap64 ((a * b).tdiv b) != a) = false := by simpa using h1
      have t2 : wrap64 a = a := wrap_in (by have := ha.1; omega) (by have := ha.2; omega)
      clear ha hb h1
      go_enter Try.func20, Try.ntmps20
      go_wp2_with (first | (go_at_call 5; refine (int_any _ _).mono ?_; rintro e w' ⟨rfl, hb⟩; obtain ⟨hc, hf, hz⟩ := hb.facts))
      have hk := ((Kp.refl w).alloc _ _).trans hb
      exact bodyPost_ret (v := .tuple #[tNum (kOf (a * b)) (vOf (a * b)), .int .i64 (eOf (a * b))]) (by simp [results, Try.results20, go_sem, hc]) rfl ⟨rfl, Kp.set9 hk _ (Nat.le_refl _) _ _ _ _ _ _ _ _ _⟩
    · have hn := mul_no ha h0 h1
      rw [kOf_no hn, vOf_no hn, eOf_no hn]
      have t0 : (b != 0) = true := by simpa using h0
      have t1 : (wrap64 ((wrap64 (a * b)).tdiv b) != a) = true := by simpa using h1
      clear ha hb hn h1
      go_enter Try.func20, Try.ntmps20
      go_wp2_with fail
      exact bodyPost_ret (v := .tuple #[tNum 0 0, .int .i64 12]) (by simp [results, Try.results20, go_sem]) rfl ⟨rfl, (Kp.refl _).alloc _ _⟩
set_option maxHeartbeats 400000 in
theorem c_add (a b : Int) (w : World) (p q : Nat) (hp : w.cell? ⟨p, 0, none⟩ = some (.int .i64 a)) (hq : w.cell? ⟨q, 0, none⟩ = some (.int .i64 b)) (hp1 : p < w.heap.size) (hq1 : q < w.heap.size) (ha : InR a) (hb : InR b) :
    Calls Try.prog 17 #[.pointer (some ⟨p, 0, none⟩), .pointer (some ⟨q, 0, none⟩)] w fun e w' => e = .returned (.tuple #[tNum (kOf (a + b)) (vOf (a + b)), .int .i64 (eOf (a + b))]) ∧ Kp w w' := by
  obtain ⟨a1, a2⟩ := ha
  obtain ⟨b1, b2⟩ := hb
  go_enter Try.func17, Try.ntmps17
  go_wp2_with (first | (go_at_call 5; refine (int_any _ _).mono ?_; rintro e w' ⟨rfl, hb⟩; obtain ⟨hc, hf, hz⟩ := hb.facts))
  have hk := ((Kp.refl w).alloc _ _).trans hb
  exact bodyPost_ret (v := .tuple #[tNum (kOf (a + b)) (vOf (a + b)), .int .i64 (eOf (a + b))]) (by simp [results, Try.results17, go_sem, hc]) rfl ⟨rfl, Kp.set9 hk _ (Nat.le_refl _) _ _ _ _ _ _ _ _ _⟩
set_option maxHeartbeats 400000 in
theorem c_sub (a b : Int) (w : World) (p q : Nat) (hp : w.cell? ⟨p, 0, none⟩ = some (.int .i64 a)) (hq : w.cell? ⟨q, 0, none⟩ = some (.int .i64 b)) (hp1 : p < w.heap.size) (hq1 : q < w.heap.size) (ha : InR a) (hb : InR b) :
    Calls Try.prog 18 #[.pointer (some ⟨p, 0, none⟩), .pointer (some ⟨q, 0, none⟩)] w fun e w' => e = .returned (.tuple #[tNum (kOf (a - b)) (vOf (a - b)), .int .i64 (eOf (a - b))]) ∧ Kp w w' := by
  obtain ⟨a1, a2⟩ := ha
  obtain ⟨b1, b2⟩ := hb
  go_enter Try.func18, Try.ntmps18
  go_wp2_with (first | (go_at_call 5; refine (int_any _ _).mono ?_; rintro e w' ⟨rfl, hb⟩; obtain ⟨hc, hf, hz⟩ := hb.facts))
  have hk := ((Kp.refl w).alloc _ _).trans hb
  exact bodyPost_ret (v := .tuple #[tNum (kOf (a - b)) (vOf (a - b)), .int .i64 (eOf (a - b))]) (by simp [results, Try.results18, go_sem, hc]) rfl ⟨rfl, Kp.set9 hk _ (Nat.le_refl _) _ _ _ _ _ _ _ _ _⟩
set_option maxHeartbeats 400000 in
theorem c_mul (a b : Int) (w : World) (p q : Nat) (hp : w.cell? ⟨p, 0, none⟩ = some (.int .i64 a)) (hq : w.cell? ⟨q, 0, none⟩ = some (.int .i64 b)) (hp1 : p < w.heap.size) (hq1 : q < w.heap.size) (ha : InR a) (hb : InR b) :
    Calls Try.prog 19 #[.pointer (some ⟨p, 0, none⟩), .pointer (some ⟨q, 0, none⟩)] w fun e w' => e = .returned (.tuple #[tNum (kOf (a * b)) (vOf (a * b)), .int .i64 (eOf (a * b))]) ∧ Kp w w' := by
  go_enter Try.func19, Try.ntmps19
  go_wp2_with (first | (go_at_call 20; refine (product_any _ _ _ ha hb).mono ?_; rintro e w' ⟨rfl, hb⟩; obtain ⟨hc, hf, hz⟩ := hb.facts))
  have hk := ((Kp.refl w).alloc _ _).trans hb
  exact bodyPost_ret (v := .tuple #[tNum (kOf (a * b)) (vOf (a * b)), .int .i64 (eOf (a * b))]) (by simp [results, Try.results19, go_sem, hc]) rfl ⟨rfl, Kp.set9 hk _ (Nat.le_refl _) _ _ _ _ _ _ _ _ _⟩
set_option maxHeartbeats 400000 in
theorem c_div (a b : Int) (w : World) (p q : Nat) (hp : w.cell? ⟨p, 0, none⟩ = some (.int .i64 a)) (hq : w.cell? ⟨q, 0, none⟩ = some (.int .i64 b)) (hp1 : p < w.heap.size) (hq1 : q < w.heap.size) (ha : InR a) (hb : InR b) (h0 : ¬ b = 0) :
    Calls Try.prog 21 #[.pointer (some ⟨p, 0, none⟩), .pointer (some ⟨q, 0, none⟩)] w fun e w' => e = .returned (.tuple #[tNum (kOf (a.tdiv b)) (vOf (a.tdiv b)), .int .i64 (eOf (a.tdiv b))]) ∧ Kp w w' := by
  have hw : wrap64 (a.tdiv b) = a.tdiv b := div_wrap ha
  clear ha hb
  go_enter Try.func21, Try.ntmps21
  go_wp2_with (first | (go_at_call 5; refine (int_any _ _).mono ?_; rintro e w' ⟨rfl, hb⟩; obtain ⟨hc, hf, hz⟩ := hb.facts))
  have hk := ((Kp.refl w).alloc _ _).trans hb
  exact bodyPost_ret (v := .tuple #[tNum (kOf (a.tdiv b)) (vOf (a.tdiv b)), .int .i64 (eOf (a.tdiv b))]) (by simp [results, Try.results21, go_sem, hc]) rfl ⟨rfl, Kp.set9 hk _ (Nat.le_refl _) _ _ _ _ _ _ _ _ _⟩
set_option maxHeartbeats 400000 in
theorem c_rem (a b : Int) (w : World) (p q : Nat) (hp : w.cell? ⟨p, 0, none⟩ = some (.int .i64 a)) (hq : w.cell? ⟨q, 0, none⟩ = some (.int .i64 b)) (hp1 : p < w.heap.size) (hq1 : q < w.heap.size) (ha : InR a) (hb : InR b) (h0 : ¬ b = 0) :
    Calls Try.prog 22 #[.pointer (some ⟨p, 0, none⟩), .pointer (some ⟨q, 0, none⟩)] w fun e w' => e = .returned (.tuple #[tNum (kOf (a.tmod b)) (vOf (a.tmod b)), .int .i64 (eOf (a.tmod b))]) ∧ Kp w w' := by
  clear ha hb
  go_enter Try.func22, Try.ntmps22
  go_wp2_with (first | (go_at_call 5; refine (int_any _ _).mono ?_; rintro e w' ⟨rfl, hb⟩; obtain ⟨hc, hf, hz⟩ := hb.facts))
  have hk := ((Kp.refl w).alloc _ _).trans hb
  exact bodyPost_ret (v := .tuple #[tNum (kOf (a.tmod b)) (vOf (a.tmod b)), .int .i64 (eOf (a.tmod b))]) (by simp [results, Try.results22, go_sem, hc]) rfl ⟨rfl, Kp.set9 hk _ (Nat.le_refl _) _ _ _ _ _ _ _ _ _⟩
end Go.Proofs.Ytancbidpmbjmnaa
