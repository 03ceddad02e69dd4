/-
  Floats by their bits: which are finite, which are zero, and how they stand to the greatest ones.
-/
import Ieee.Arith
import GoSem.Core.Float
set_option linter.unusedVariables false
set_option linter.unusedSimpArgs false
namespace Go.Proofs.Ytedmfnleckelaaa
open Ieee

theorem sw : double.signWeight = 9223372036854775808 := by decide
theorem bn : double.binade = 4503599627370496 := by decide
theorem ir : double.infRung = 9218868437227405312 := by decide
theorem lp : double.leastPlace = -1074 := by decide

theorem read_fin (x : Nat) (h : x % 9223372036854775808 < 9218868437227405312) : ∃ n m i, double.read x = .number n m i ∧ n = (x / 9223372036854775808 % 2 == 1) ∧ m ≤ 9007199254740991 ∧ -1074 ≤ i ∧ i ≤ 971 ∧ (m = 0 ↔ x % 9223372036854775808 = 0) := by
  unfold Format.read
  simp only [sw, bn, ir, lp]
  by_cases h1 : x % 9223372036854775808 < 4503599627370496
  · rw [if_pos h1]
    exact ⟨_, _, _, rfl, rfl, by omega, by omega, by omega, Iff.rfl⟩
  · rw [if_neg h1, if_pos h]
    refine ⟨_, _, _, rfl, rfl, by omega, by omega, ?_, ?_⟩
    · have h2 : x % 9223372036854775808 / 4503599627370496 ≤ 2046 := by omega
      have h3 : x % 9223372036854775808 / 4503599627370496 - 1 ≤ 2045 := by omega
      omega
    · constructor <;> intro h3 <;> omega
theorem read_inf (x : Nat) (h : x % 9223372036854775808 = 9218868437227405312) : double.read x = .infinity (x / 9223372036854775808 % 2 == 1) := by
  unfold Format.read
  simp only [sw, bn, ir, lp]
  rw [if_neg (by omega), if_neg (by omega), if_pos (by omega)]
theorem read_nan (x : Nat) (h : 9218868437227405312 < x % 9223372036854775808) : ∃ n f, double.read x = .nan n f := by
  unfold Format.read
  simp only [sw, bn, ir, lp]
  rw [if_neg (by omega), if_neg (by omega), if_neg (by omega)]
  exact ⟨_, _, rfl⟩
theorem read_max : double.read 9218868437227405311 = .number false 9007199254740991 971 := by decide
theorem read_min : double.read 18442240474082181119 = .number true 9007199254740991 971 := by decide
theorem read_zero : double.read 0 = .number false 0 (-1074) := by decide

theorem shl_le {m k : Nat} (hm : m ≤ 9007199254740991) : m ≤ 9007199254740991 <<< k := by
  rw [Nat.shiftLeft_eq]
  have : 1 ≤ 2 ^ k := Nat.one_le_two_pow
  calc m ≤ 9007199254740991 * 1 := by omega
    _ ≤ _ := Nat.mul_le_mul_left _ this
theorem signed_abs (n : Bool) (m k : Nat) : -((m <<< k : Nat) : Int) ≤ signed n m k ∧ signed n m k ≤ ((m <<< k : Nat) : Int) := by
  unfold signed
  generalize m <<< k = q
  split <;> omega

abbrev ord (x y : Nat) : Option Ordering := FloatKind.f64.format.order x y

theorem cmp_not_gt {a b : Int} (h : a ≤ b) : compare a b ≠ .gt := by
  intro e
  simp only [compare, compareOfLessAndEq] at e
  split at e
  · cases e
  · split at e
    · cases e
    · omega
theorem cmp_not_lt {a b : Int} (h : b ≤ a) : compare a b ≠ .lt := by
  intro e
  simp only [compare, compareOfLessAndEq] at e
  split at e
  · omega
  · split at e <;> cases e

theorem cmp_eq {a b : Int} : compare a b = .eq ↔ a = b := by
  simp only [compare, compareOfLessAndEq]
  split
  · simp; omega
  · split <;> simp <;> omega

theorem fin_max (x : Nat) (h : x % 9223372036854775808 < 9218868437227405312) : (ord x 9218868437227405311 == some .gt) = false ∧ ((ord x 9218868437227405311 == some .lt) || (ord x 9218868437227405311 == some .eq)) = true := by
  obtain ⟨n, m, i, hr, _, hm, hi1, hi2, _⟩ := read_fin x h
  have e : ord x 9218868437227405311 = some (compare (signed n m (i - min i 971).toNat) (signed false 9007199254740991 (971 - min i 971).toNat)) := by
    show (double.read x).order (double.read 9218868437227405311) = _
    rw [hr, read_max]; rfl
  have hb : min i 971 = i := by omega
  rw [hb] at e
  have h0 : (i - i).toNat = 0 := by omega
  rw [h0] at e
  have h1 := (signed_abs n m 0).2
  have h2 : signed false 9007199254740991 (971 - i).toNat = ((9007199254740991 <<< (971 - i).toNat : Nat) : Int) := rfl
  have h3 := shl_le (k := (971 - i).toNat) hm
  rw [Nat.shiftLeft_zero] at h1
  have h4 := cmp_not_gt (a := signed n m 0) (b := signed false 9007199254740991 (971 - i).toNat) (by rw [h2]; omega)
  rw [e]
  cases hc : compare (signed n m 0) (signed false 9007199254740991 (971 - i).toNat) with
  | lt => exact ⟨rfl, rfl⟩
  | eq => exact ⟨rfl, rfl⟩
  | gt => exact absurd hc h4
theorem fin_min (x : Nat) (h : x % 9223372036854775808 < 9218868437227405312) : ((ord x 18442240474082181119 == some .gt) || (ord x 18442240474082181119 == some .eq)) = true := by
  obtain ⟨n, m, i, hr, _, hm, hi1, hi2, _⟩ := read_fin x h
  have e : ord x 18442240474082181119 = some (compare (signed n m (i - min i 971).toNat) (signed true 9007199254740991 (971 - min i 971).toNat)) := by
    show (double.read x).order (double.read 18442240474082181119) = _
    rw [hr, read_min]; rfl
  have hb : min i 971 = i := by omega
  rw [hb] at e
  have h0 : (i - i).toNat = 0 := by omega
  rw [h0] at e
  have h1 := (signed_abs n m 0).1
  have h2 : signed true 9007199254740991 (971 - i).toNat = -((9007199254740991 <<< (971 - i).toNat : Nat) : Int) := rfl
  have h3 := shl_le (k := (971 - i).toNat) hm
  rw [Nat.shiftLeft_zero] at h1
  have h4 := cmp_not_lt (a := signed n m 0) (b := signed true 9007199254740991 (971 - i).toNat) (by rw [h2]; omega)
  rw [e]
  cases hc : compare (signed n m 0) (signed true 9007199254740991 (971 - i).toNat) with
  | gt => rfl
  | eq => rfl
  | lt => exact absurd hc h4
theorem self_fin (x : Nat) (h : x % 9223372036854775808 ≤ 9218868437227405312) : ord x x = some .eq := by
  by_cases h1 : x % 9223372036854775808 < 9218868437227405312
  · obtain ⟨n, m, i, hr, _⟩ := read_fin x h1
    show (double.read x).order (double.read x) = _
    rw [hr]
    simp [Datum.order]
  · show (double.read x).order (double.read x) = _
    rw [read_inf x (by omega)]
    simp [Datum.order]
theorem nan_any (x y : Nat) (h : 9218868437227405312 < x % 9223372036854775808) : ord x y = none := by
  obtain ⟨n, f, hr⟩ := read_nan x h
  show (double.read x).order (double.read y) = _
  rw [hr]; rfl
theorem inf_max (x : Nat) (h : x % 9223372036854775808 = 9218868437227405312) : ord x 9218868437227405311 = some (if (x / 9223372036854775808 % 2 == 1) = true then .lt else .gt) ∧ ord x 18442240474082181119 = some (if (x / 9223372036854775808 % 2 == 1) = true then .lt else .gt) := by
  constructor
  · show (double.read x).order (double.read 9218868437227405311) = _
    rw [read_inf x h, read_max]; rfl
  · show (double.read x).order (double.read 18442240474082181119) = _
    rw [read_inf x h, read_min]; rfl
theorem zero_iff (x : Nat) : (ord x 0 == some .eq) = decide (x % 9223372036854775808 = 0) := by
  by_cases h1 : x % 9223372036854775808 < 9218868437227405312
  · obtain ⟨n, m, i, hr, _, hm, hi1, hi2, hz⟩ := read_fin x h1
    have e : ord x 0 = some (compare (signed n m (i - min i (-1074)).toNat) (signed false 0 (-1074 - min i (-1074)).toNat)) := by
      show (double.read x).order (double.read 0) = _
      rw [hr, read_zero]; rfl
    have h2 : signed false 0 (-1074 - min i (-1074)).toNat = 0 := by simp [signed]
    rw [e, h2]
    by_cases h3 : x % 9223372036854775808 = 0
    · have hm0 := hz.2 h3
      subst hm0
      have h4 : signed n 0 (i - min i (-1074)).toNat = 0 := by simp [signed]
      rw [h4]
      simp [h3]
    · have hm0 : m ≠ 0 := fun e => h3 (hz.1 e)
      have h4 : signed n m (i - min i (-1074)).toNat ≠ 0 := by
        have : 0 < m <<< (i - min i (-1074)).toNat := by
          rw [Nat.shiftLeft_eq]; exact Nat.mul_pos (by omega) (Nat.two_pow_pos _)
        unfold signed
        generalize m <<< (i - min i (-1074)).toNat = q at this
        split <;> omega
      simp [h3, cmp_eq, h4]
  · by_cases h2 : x % 9223372036854775808 = 9218868437227405312
    · have e : ord x 0 = some (if (x / 9223372036854775808 % 2 == 1) = true then .lt else .gt) := by
        show (double.read x).order (double.read 0) = _
        rw [read_inf x h2, read_zero]; rfl
      rw [e]
      split <;> simp <;> omega
    · rw [nan_any x 0 (by omega)]
      simp; omega
end Go.Proofs.Ytedmfnleckelaaa
