/-
  Whole numbers below 2^53 as floats: sums, differences and squares of them are exact.
-/
import Derived.Test.YtedmfnleckelaaaP
import Derived.Laws.Cover2
set_option linter.unusedVariables false
set_option linter.unusedSimpArgs false
namespace Go.Proofs.Ytedmfnleckelaaa
open Ieee

theorem fb : double.fractionBits = 52 := rfl
theorem shl_ne {m : Nat} (k : Nat) (h : m ≠ 0) : m <<< k ≠ 0 := by
  rw [Nat.shiftLeft_eq]
  have := Nat.two_pow_pos k
  exact Nat.mul_ne_zero h (by omega)
theorem lg_shl (m k : Nat) (h : m ≠ 0) : (m <<< k).log2 = m.log2 + k := by
  induction k with
  | zero => simp
  | succ k ih => rw [Nat.shiftLeft_succ, Nat.log2_two_mul (shl_ne k h), ih]; omega
theorem cut_exact (neg : Bool) (n d : Nat) (h : n ≠ 0) : Toward.even.cut neg (n <<< d) d = n := by
  have e : min d ((n <<< d).log2 + 2) = d := by rw [lg_shl n d h]; omega
  have hp := Nat.two_pow_pos d
  have e1 : n <<< d / 1 <<< d = n := by rw [Nat.shiftLeft_eq, Nat.shiftLeft_eq, Nat.one_mul]; exact Nat.mul_div_cancel _ hp
  have e2 : n <<< d % 1 <<< d = 0 := by rw [Nat.shiftLeft_eq, Nat.shiftLeft_eq, Nat.one_mul]; exact Nat.mul_mod_left _ _
  have e3 : (1 <<< d == 0) = false := by rw [Nat.shiftLeft_eq, Nat.one_mul]; simp
  unfold Toward.cut
  simp only [e, e1, e2]
  simp [e3]

/-- The digits of a whole number, 53 of them. -/
def mant (m : Nat) : Nat := m * 2 ^ (52 - m.log2)
def rung (m : Nat) : Nat := (m.log2 + 1022) * 4503599627370496 + mant m
theorem lg_le {m : Nat} (h : m ≠ 0) (hm : m < 9007199254740992) : m.log2 ≤ 52 := by
  have : m.log2 < 53 := (Nat.log2_lt h).2 (by simpa using hm)
  omega
theorem mant_lo {m : Nat} (h : m ≠ 0) (hm : m < 9007199254740992) : 4503599627370496 ≤ mant m := by
  have h1 := Nat.log2_self_le h
  have h2 := lg_le h hm
  have h3 : 2 ^ m.log2 * 2 ^ (52 - m.log2) = 4503599627370496 := by rw [← Nat.pow_add, show m.log2 + (52 - m.log2) = 52 by omega]
  have := Nat.mul_le_mul_right (2 ^ (52 - m.log2)) h1
  unfold mant
  omega
theorem mant_hi {m : Nat} (h : m ≠ 0) (hm : m < 9007199254740992) : mant m < 9007199254740992 := by
  have h1 := Nat.lt_log2_self (n := m)
  have h2 := lg_le h hm
  have h3 : 2 ^ (m.log2 + 1) * 2 ^ (52 - m.log2) = 9007199254740992 := by rw [← Nat.pow_add, show m.log2 + 1 + (52 - m.log2) = 53 by omega]
  have := Nat.mul_lt_mul_of_pos_right h1 (Nat.two_pow_pos (52 - m.log2))
  unfold mant
  omega
theorem near_w (neg : Bool) (m k : Nat) (h0 : m ≠ 0) (hm : m < 9007199254740992) : double.nearest neg (m <<< k) (-(k : Int)) = double.word neg (rung m) := by
  have hz := shl_ne k h0
  have hg := lg_le h0 hm
  have hl : max (-(k : Int) + ((m <<< k).log2 : Nat) - (double.fractionBits : Nat)) double.leastPlace = (m.log2 : Int) - 52 := by
    rw [lg_shl m k h0, lp, fb]; omega
  have hk : Toward.even.cut neg ((m <<< k) <<< (-(k : Int) - ((m.log2 : Int) - 52)).toNat) (((m.log2 : Int) - 52) - -(k : Int)).toNat = mant m := by
    have hq : m <<< (52 - m.log2) = mant m := by rw [Nat.shiftLeft_eq]; rfl
    have hc0 := shl_ne (52 - m.log2) h0
    by_cases hc : k + m.log2 ≤ 52
    · have e1 : (-(k : Int) - ((m.log2 : Int) - 52)).toNat = 52 - m.log2 - k := by omega
      have e2 : (((m.log2 : Int) - 52) - -(k : Int)).toNat = 0 := by omega
      rw [e1, e2, ← Nat.shiftLeft_add, show k + (52 - m.log2 - k) = 52 - m.log2 by omega]
      have := cut_exact neg (m <<< (52 - m.log2)) 0 hc0
      rw [Nat.shiftLeft_zero] at this
      rw [this, hq]
    · have e1 : (-(k : Int) - ((m.log2 : Int) - 52)).toNat = 0 := by omega
      have e2 : (((m.log2 : Int) - 52) - -(k : Int)).toNat = k - (52 - m.log2) := by omega
      rw [e1, e2, Nat.shiftLeft_zero]
      have e3 : m <<< k = (m <<< (52 - m.log2)) <<< (k - (52 - m.log2)) := by rw [← Nat.shiftLeft_add]; congr 1; omega
      rw [e3, cut_exact neg _ _ hc0, hq]
  have hr : min ((((m.log2 : Int) - 52) - double.leastPlace).toNat * double.binade + mant m) double.infRung = rung m := by
    rw [lp, bn, ir]
    have e : (((m.log2 : Int) - 52) - -1074).toNat = m.log2 + 1022 := by omega
    have := mant_hi h0 hm
    rw [e]
    unfold rung
    omega
  unfold Format.nearest
  rw [if_neg hz]
  simp only [hl, hk, hr]
theorem read_w (neg : Bool) (m : Nat) (h0 : m ≠ 0) (hm : m < 9007199254740992) : double.read (double.word neg (rung m)) = .number neg (mant m) ((m.log2 : Int) - 52) := by
  have hg := lg_le h0 hm
  have h1 := mant_lo h0 hm
  have h2 := mant_hi h0 hm
  have hr : rung m = (m.log2 + 1022) * 4503599627370496 + mant m := rfl
  have e1 : double.word neg (rung m) % 9223372036854775808 = rung m := by
    unfold Format.word; rw [sw]; split <;> omega
  have e2 : (double.word neg (rung m) / 9223372036854775808 % 2 == 1) = neg := by
    unfold Format.word; rw [sw]
    cases neg
    · rw [if_neg (by decide)]
      have : rung m / 9223372036854775808 % 2 = 0 := by omega
      rw [this]; rfl
    · rw [if_pos rfl]
      have : (9223372036854775808 + rung m) / 9223372036854775808 % 2 = 1 := by omega
      rw [this]; rfl
  unfold Format.read
  simp only [sw, bn, ir, lp, e1, e2]
  rw [if_neg (by omega), if_pos (by omega)]
  have e3 : 4503599627370496 + rung m % 4503599627370496 = mant m := by omega
  have e4 : rung m / 4503599627370496 = m.log2 + 1023 := by omega
  rw [e3, e4]
  exact congrArg (Datum.number neg (mant m)) (by omega)

/-- The float of a whole number. -/
abbrev fi (n : Int) : Nat := floatOfInt .f64 n
def Sm (n : Int) : Prop := -9007199254740992 < n ∧ n < 9007199254740992
theorem fi_zero : fi 0 = 0 := by decide
theorem fi_eq (n : Int) : fi n = double.nearest (decide (n < 0)) n.natAbs 0 := rfl
theorem fi_word {n : Int} (h : n ≠ 0) (hs : Sm n) : fi n = double.word (decide (n < 0)) (rung n.natAbs) := by
  have := near_w (decide (n < 0)) n.natAbs 0 (by omega) (by have := hs.1; have := hs.2; omega)
  rw [Nat.shiftLeft_zero] at this
  exact this
/-- What a float stands for, over 2^k. -/
def Rd (x : Nat) (n : Int) : Prop := ∃ (neg : Bool) (m k : Nat), double.read x = .number neg m (-(k : Int)) ∧ signed neg m 0 = n * 2 ^ k ∧ neg = decide (n < 0)
theorem signed_shl (neg : Bool) (m a : Nat) : signed neg m a = signed neg m 0 * 2 ^ a := by
  unfold signed
  rw [Nat.shiftLeft_eq, Nat.shiftLeft_zero]
  split <;> simp [Int.neg_mul]
theorem rd_fi {n : Int} (hs : Sm n) : Rd (fi n) n := by
  by_cases h : n = 0
  · subst h
    exact ⟨false, 0, 1074, by rw [fi_zero]; exact read_zero, by rw [Int.zero_mul]; rfl, by decide⟩
  · have h1 : n.natAbs ≠ 0 := by omega
    have h2 : n.natAbs < 9007199254740992 := by have := hs.1; have := hs.2; omega
    have hg := lg_le h1 h2
    refine ⟨decide (n < 0), mant n.natAbs, 52 - n.natAbs.log2, ?_, ?_, rfl⟩
    · rw [fi_word h hs, read_w _ _ h1 h2]
      exact congrArg (Datum.number (decide (n < 0)) (mant n.natAbs)) (by omega)
    · have e : (mant n.natAbs : Int) = (n.natAbs : Int) * 2 ^ (52 - n.natAbs.log2) := by unfold mant; simp
      unfold signed
      rw [Nat.shiftLeft_zero, e]
      by_cases hn : n < 0
      · rw [if_pos (by simpa using hn), show ((n.natAbs : Nat) : Int) = -n by omega, Int.neg_mul, Int.neg_neg]
      · rw [if_neg (by simpa using hn), show ((n.natAbs : Nat) : Int) = n by omega]
theorem wr_fi (neg : Bool) (n : Int) (K : Nat) (hs : Sm n) (hn : neg = decide (n < 0)) : double.nearest neg ((n * 2 ^ K).natAbs) (-(K : Int)) = fi n := by
  have e : (n * 2 ^ K).natAbs = n.natAbs <<< K := by rw [Int.natAbs_mul, Nat.shiftLeft_eq]; congr 1
  rw [e]
  by_cases h : n = 0
  · subst h
    subst hn
    rw [fi_zero]
    unfold Format.nearest
    rw [if_pos (by simp)]
    decide
  · rw [near_w neg _ K (by omega) (by have := hs.1; have := hs.2; omega), fi_word h hs, hn]
theorem neg_shl (x : Int) (K : Nat) : decide (x * 2 ^ K < 0) = decide (x < 0) := by
  have hp : (0 : Int) < 2 ^ K := Int.pow_pos (by decide)
  rw [decide_eq_decide]
  constructor
  · intro h
    rcases Int.lt_or_le x 0 with h1 | h1
    · exact h1
    · have := Int.mul_nonneg h1 (by omega : (0 : Int) ≤ 2 ^ K)
      omega
  · intro h
    exact Int.mul_neg_of_neg_of_pos h hp
theorem sum_rd {x y : Nat} {a b : Int} (hx : Rd x a) (s : Bool) (m k : Nat) (hy : double.read y = .number s m (-(k : Int)) ∨ (double.read y).opposite = .number s m (-(k : Int))) (hv : signed s m 0 = b * 2 ^ k)
    (hsg : s = decide (b < 0) ∨ (b = 0 ∧ 0 ≤ a)) (hs : Sm (a + b)) :
    ((double.read x).sum (.number s m (-(k : Int)))).map double.write = some (fi (a + b)) := by
  obtain ⟨n1, m1, k1, e1, v1, g1⟩ := hx
  rw [e1]
  have e : Datum.sum (.number n1 m1 (-(k1 : Int))) (.number s m (-(k : Int))) = some (.number (decide (a + b < 0)) ((a + b) * 2 ^ (max k1 k)).natAbs (-((max k1 k : Nat) : Int))) := by
    have hb : min (-(k1 : Int)) (-(k : Int)) = -((max k1 k : Nat) : Int) := by omega
    have t1 : signed n1 m1 (-(k1 : Int) - -((max k1 k : Nat) : Int)).toNat = a * 2 ^ (max k1 k) := by
      rw [show (-(k1 : Int) - -((max k1 k : Nat) : Int)).toNat = max k1 k - k1 by omega, signed_shl, v1, Int.mul_assoc, ← Int.pow_add]
      congr 2; omega
    have t2 : signed s m (-(k : Int) - -((max k1 k : Nat) : Int)).toNat = b * 2 ^ (max k1 k) := by
      rw [show (-(k : Int) - -((max k1 k : Nat) : Int)).toNat = max k1 k - k by omega, signed_shl, hv, Int.mul_assoc, ← Int.pow_add]
      congr 2; omega
    have hp : (0 : Int) < 2 ^ (max k1 k) := Int.pow_pos (by decide)
    simp only [Datum.sum, hb, t1, t2, ← Int.add_mul]
    congr 2
    by_cases h0 : a + b = 0
    · rw [h0, Int.zero_mul, if_pos rfl, g1]
      rcases hsg with h | ⟨h, h'⟩
      · rw [h]
        by_cases ha : a < 0 <;> by_cases hb : b < 0 <;> simp [ha, hb] <;> omega
      · have : ¬ a < 0 := by omega
        simp [this]
    · have hne : (a + b) * 2 ^ (max k1 k) ≠ 0 := Int.mul_ne_zero h0 (by omega)
      rw [if_neg hne, neg_shl]
  rw [e]
  show some (double.nearest _ _ _) = _
  rw [wr_fi _ _ _ hs rfl]
theorem add_fi {a b : Int} (ha : Sm a) (hb : Sm b) (hs : Sm (a + b)) : double.add (fi a) (fi b) = some (fi (a + b)) := by
  obtain ⟨s, m, k, e, v, g⟩ := rd_fi hb
  unfold Format.add
  rw [e]
  exact sum_rd (rd_fi ha) s m k (.inl e) v (.inl g) hs
theorem sub_fi {a b : Int} (ha : Sm a) (hb : Sm b) (hs : Sm (a - b)) : double.sub (fi a) (fi b) = some (fi (a - b)) := by
  obtain ⟨s, m, k, e, v, g⟩ := rd_fi hb
  unfold Format.sub
  have e' : (double.read (fi b)).opposite = .number (!s) m (-(k : Int)) := by rw [e]; rfl
  have v' : signed (!s) m 0 = -b * 2 ^ k := by
    rw [Int.neg_mul, ← v]; unfold signed; cases s <;> simp
  rw [e']
  obtain ⟨n1, m1, k1, e1, v1, g1⟩ := rd_fi ha
  rw [e1]
  have ee : Datum.sum (.number n1 m1 (-(k1 : Int))) (.number (!s) m (-(k : Int))) = some (.number (decide (a - b < 0)) ((a - b) * 2 ^ (max k1 k)).natAbs (-((max k1 k : Nat) : Int))) := by
    have hb : min (-(k1 : Int)) (-(k : Int)) = -((max k1 k : Nat) : Int) := by omega
    have t1 : signed n1 m1 (-(k1 : Int) - -((max k1 k : Nat) : Int)).toNat = a * 2 ^ (max k1 k) := by
      rw [show (-(k1 : Int) - -((max k1 k : Nat) : Int)).toNat = max k1 k - k1 by omega, signed_shl, v1, Int.mul_assoc, ← Int.pow_add]
      congr 2; omega
    have t2 : signed (!s) m (-(k : Int) - -((max k1 k : Nat) : Int)).toNat = -b * 2 ^ (max k1 k) := by
      rw [show (-(k : Int) - -((max k1 k : Nat) : Int)).toNat = max k1 k - k by omega, signed_shl, v', Int.mul_assoc, ← Int.pow_add]
      congr 2; omega
    have hp : (0 : Int) < 2 ^ (max k1 k) := Int.pow_pos (by decide)
    simp only [Datum.sum, hb, t1, t2, ← Int.add_mul]
    rw [show a + -b = a - b by omega]
    congr 2
    by_cases h0 : a - b = 0
    · rw [h0, Int.zero_mul, if_pos rfl, g1, g, show b = a by omega]
      by_cases ha : a < 0 <;> simp [ha]
    · have hne : (a - b) * 2 ^ (max k1 k) ≠ 0 := Int.mul_ne_zero h0 (by omega)
      rw [if_neg hne, neg_shl]
  rw [ee]
  show some (double.nearest _ _ _) = _
  rw [wr_fi _ _ _ hs rfl]
theorem sq_fi {a : Int} (ha : Sm a) (hs : Sm (a * a)) : double.mul (fi a) (fi a) = some (fi (a * a)) := by
  obtain ⟨s, m, k, e, v, g⟩ := rd_fi ha
  unfold Format.mul
  rw [e]
  have hv : ((m * m : Nat) : Int) = a * a * 2 ^ (k + k) := by
    have h2 : (m : Int) * m = signed s m 0 * signed s m 0 := by unfold signed; rw [Nat.shiftLeft_zero]; cases s <;> simp [Int.neg_mul_neg]
    rw [Int.natCast_mul, h2, v, Int.pow_add]
    ac_rfl
  have hn : 0 ≤ a * a := by rcases Int.le_total 0 a with h | h; exact Int.mul_nonneg h h; exact Int.mul_nonneg_of_nonpos_of_nonpos h h
  have e3 : m * m = (a * a * 2 ^ (k + k)).natAbs := by omega
  show some (double.nearest (s ^^ s) (m * m) (-(k : Int) + -(k : Int))) = _
  rw [e3, show -(k : Int) + -(k : Int) = -((k + k : Nat) : Int) by omega, wr_fi _ _ _ hs (by rw [Bool.xor_self]; simp; omega)]
theorem div_fi {n : Int} (h : 0 < n) (hs : Sm n) : double.div 0 (fi n) = some 0 := by
  obtain ⟨s, m, k, e, v, g⟩ := rd_fi hs
  have hm : m ≠ 0 := by
    rintro rfl
    have h2 : signed s 0 0 = 0 := by cases s <;> rfl
    rw [h2] at v
    have hp : (0 : Int) < 2 ^ k := Int.pow_pos (by decide)
    have := Int.mul_pos h hp
    omega
  unfold Format.div
  rw [e, read_zero]
  simp only [Datum.quotient, if_neg hm]
  have hs' : s = false := by rw [g]; simp; omega
  subst hs'
  simp [Format.write, Format.nearest, Format.word]
theorem mulz_fi {a : Int} (ha : Sm a) : ∃ b, double.mul (fi a) 0 = some (double.word b 0) := by
  obtain ⟨s, m, k, e, v, g⟩ := rd_fi ha
  refine ⟨s, ?_⟩
  unfold Format.mul
  rw [e, read_zero]
  simp [Datum.product, Format.write, Format.nearest]
theorem read_z (b : Bool) : double.read (double.word b 0) = .number b 0 (-((1074 : Nat) : Int)) := by cases b <;> decide
theorem addz_fi {a : Int} (ha : Sm a) (b : Bool) : double.add (fi a) (double.word b 0) = some (fi a) := by
  obtain ⟨n1, m1, k1, e1, v1, g1⟩ := rd_fi ha
  have hp : (0 : Int) < 2 ^ (max k1 1074) := Int.pow_pos (by decide)
  unfold Format.add
  rw [e1, read_z b]
  have ee : Datum.sum (.number n1 m1 (-(k1 : Int))) (.number b 0 (-((1074 : Nat) : Int))) = some (.number (decide (a < 0)) (a * 2 ^ (max k1 1074)).natAbs (-((max k1 1074 : Nat) : Int))) := by
    have hb : min (-(k1 : Int)) (-((1074 : Nat) : Int)) = -((max k1 1074 : Nat) : Int) := by omega
    have t1 : signed n1 m1 (-(k1 : Int) - -((max k1 1074 : Nat) : Int)).toNat = a * 2 ^ (max k1 1074) := by
      rw [show (-(k1 : Int) - -((max k1 1074 : Nat) : Int)).toNat = max k1 1074 - k1 by omega, signed_shl, v1, Int.mul_assoc, ← Int.pow_add]
      congr 2; omega
    have t2 : ∀ q, signed b 0 q = 0 := by intro q; cases b <;> simp [signed]
    simp only [Datum.sum, hb, t1, t2, Int.add_zero]
    congr 2
    by_cases h0 : a = 0
    · rw [h0, Int.zero_mul, if_pos rfl, g1, h0]; simp
    · have hne : a * 2 ^ (max k1 1074) ≠ 0 := Int.mul_ne_zero h0 (by omega)
      rw [if_neg hne, neg_shl]
  rw [ee]
  show some (double.nearest _ _ _) = _
  rw [wr_fi _ _ _ ha rfl]
/-- Which word it is. -/
theorem fi_fin {n : Int} (hs : Sm n) : fi n < 18446744073709551616 ∧ fi n % 9223372036854775808 < 9218868437227405312 ∧ fi n ≠ 9223372036854775808 ∧ (fi n % 9223372036854775808 = 0 ↔ n = 0) := by
  by_cases h : n = 0
  · subst h; rw [fi_zero]; decide
  · have h1 : n.natAbs ≠ 0 := by omega
    have h2 : n.natAbs < 9007199254740992 := by have := hs.1; have := hs.2; omega
    have hg := lg_le h1 h2
    have q1 := mant_lo h1 h2
    have q2 := mant_hi h1 h2
    have hr : rung n.natAbs = (n.natAbs.log2 + 1022) * 4503599627370496 + mant n.natAbs := rfl
    rw [fi_word h hs]
    generalize rung n.natAbs = r at *
    unfold Format.word
    rw [sw]
    split <;> omega
end Go.Proofs.Ytedmfnleckelaaa
