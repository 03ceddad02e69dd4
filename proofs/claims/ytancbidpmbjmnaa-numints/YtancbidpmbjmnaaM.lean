import Derived.RowKit
namespace Go.Proofs.Ytancbidpmbjmnaa
open Go.RowKit
def InR (n : Int) : Prop := -4611686018427387904 ≤ n ∧ n ≤ 4611686018427387903
theorem InR.lo {n : Int} (h : InR n) : -4611686018427387904 ≤ n := h.1
theorem InR.hi {n : Int} (h : InR n) : n ≤ 4611686018427387903 := h.2
def kOf (n : Int) : Int := if -4611686018427387904 ≤ n ∧ n ≤ 4611686018427387903 then 1 else 0
def vOf (n : Int) : Int := if -4611686018427387904 ≤ n ∧ n ≤ 4611686018427387903 then n else 0
def eOf (n : Int) : Int := if -4611686018427387904 ≤ n ∧ n ≤ 4611686018427387903 then 0 else 12
theorem kOf_yes {n : Int} (h : InR n) : kOf n = 1 := if_pos h
theorem vOf_yes {n : Int} (h : InR n) : vOf n = n := if_pos h
theorem eOf_yes {n : Int} (h : InR n) : eOf n = 0 := if_pos h
theorem kOf_no {n : Int} (h : ¬ InR n) : kOf n = 0 := if_neg h
theorem vOf_no {n : Int} (h : ¬ InR n) : vOf n = 0 := if_neg h
theorem eOf_no {n : Int} (h : ¬ InR n) : eOf n = 12 := if_neg h
theorem wrap_in {n : Int} (h1 : -9223372036854775808 ≤ n) (h2 : n ≤ 9223372036854775807) : wrap64 n = n := by unfold wrap64; omega
theorem wrap_lo (n : Int) : -9223372036854775808 ≤ wrap64 n := by unfold wrap64; omega
theorem wrap_hi (n : Int) : wrap64 n ≤ 9223372036854775807 := by unfold wrap64; omega
theorem wrap_near {n : Int} (h1 : wrap64 n - n < 9223372036854775808) (h2 : -9223372036854775808 < wrap64 n - n) : wrap64 n = n := by unfold wrap64 at *; omega
theorem tdiv_abs (a b : Int) : (a.tdiv b).natAbs ≤ a.natAbs := by
  rw [Int.natAbs_tdiv]; exact Nat.div_le_self _ _
theorem tmod_abs (a : Int) {b : Int} (hb : ¬ b = 0) : (a.tmod b).natAbs < b.natAbs := by
  rw [Int.natAbs_tmod]; exact Nat.mod_lt _ (by omega)
theorem tmod_abs_le (a b : Int) : (a.tmod b).natAbs ≤ a.natAbs := by
  rw [Int.natAbs_tmod]; exact Nat.mod_le _ _
theorem mul_yes {a b : Int} (ha : InR a) (hb : InR b) (h0 : ¬ b = 0) (h : wrap64 ((wrap64 (a * b)).tdiv b) = a) : wrap64 (a * b) = a * b := by
  have h1 := tdiv_abs (wrap64 (a * b)) b
  have h2 := tmod_abs (wrap64 (a * b)) h0
  have h3 := Int.mul_tdiv_add_tmod (wrap64 (a * b)) b
  have l := wrap_lo (a * b)
  have u := wrap_hi (a * b)
  obtain ⟨a1, a2⟩ := ha
  obtain ⟨b1, b2⟩ := hb
  have hq : (wrap64 (a * b)).tdiv b = a := by
    generalize (wrap64 (a * b)).tdiv b = q at *
    unfold wrap64 at h
    omega
  rw [hq] at h3
  apply wrap_near
  · rw [Int.mul_comm b a] at h3; omega
  · rw [Int.mul_comm b a] at h3; omega
theorem mul_no {a b : Int} (ha : InR a) (h0 : ¬ b = 0) (h : ¬ wrap64 ((wrap64 (a * b)).tdiv b) = a) : ¬ InR (a * b) := by
  intro hm
  obtain ⟨a1, a2⟩ := ha
  obtain ⟨m1, m2⟩ := hm
  apply h
  rw [wrap_in (n := a * b) (by omega) (by omega), Int.mul_tdiv_cancel _ h0]
  exact wrap_in (by omega) (by omega)
theorem div_wrap {a b : Int} (ha : InR a) : wrap64 (a.tdiv b) = a.tdiv b := by
  have := tdiv_abs a b
  obtain ⟨a1, a2⟩ := ha
  exact wrap_in (by omega) (by omega)
theorem mod_in {a b : Int} (hb : InR b) (h0 : ¬ b = 0) : -4611686018427387904 < a.tmod b ∧ a.tmod b ≤ 4611686018427387903 := by
  have := tmod_abs a h0
  obtain ⟨b1, b2⟩ := hb
  omega
theorem mod_sign (a b : Int) : (0 ≤ a → 0 ≤ a.tmod b) ∧ (a ≤ 0 → a.tmod b ≤ 0) := by
  constructor
  · intro h; exact Int.tmod_nonneg b h
  · intro h
    have := Int.tmod_nonneg b (a := -a) (by omega)
    rw [Int.neg_tmod] at this
    omega
theorem div_in {a b : Int} (ha : InR a) (h : ¬ InR (a.tdiv b)) : a = -4611686018427387904 ∧ b = -1 := by
  have h1 := tdiv_abs a b
  have h2 : (a.tdiv b).natAbs = a.natAbs / b.natAbs := Int.natAbs_tdiv a b
  obtain ⟨a1, a2⟩ := ha
  have h3 : a.tdiv b = 4611686018427387904 := by
    unfold InR at h
    omega
  have h4 : a = -4611686018427387904 := by rw [h3] at h2; have := Nat.div_le_self a.natAbs b.natAbs; omega
  subst h4
  refine ⟨rfl, ?_⟩
  have h5 : b.natAbs = 1 := by
    rw [h3] at h2
    by_cases hb : b.natAbs = 0
    · rw [hb] at h2; simp at h2
    · by_cases hb1 : b.natAbs = 1
      · exact hb1
      · have : (4611686018427387904 : Nat) / b.natAbs ≤ 4611686018427387904 / 2 := Nat.div_le_div_left (by omega) (by omega)
        have e : (-4611686018427387904 : Int).natAbs = 4611686018427387904 := rfl
        rw [e] at h2
        omega
  by_cases hb : b = 1
  · subst hb; rw [Int.tdiv_one] at h3; omega
  · omega
theorem back_in {a b : Int} (ha : InR a) : InR (a.tdiv b * b) := by
  have h := Int.mul_tdiv_add_tmod a b
  have h1 := tmod_abs_le a b
  have h2 := mod_sign a b
  obtain ⟨a1, a2⟩ := ha
  rw [Int.mul_comm]
  constructor <;> omega
theorem back_eq (a b : Int) : a.tdiv b * b + a.tmod b = a := by
  rw [Int.mul_comm]; exact Int.mul_tdiv_add_tmod a b
end Go.Proofs.Ytancbidpmbjmnaa
