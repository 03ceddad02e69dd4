/-
  The sum as arithmetic: bytes are one great number, the sum is linear over exclusive-or, and a change within 32 bits in a row always shows.
-/
import Derived.Test.YtnaapgjjombdpaaProg
namespace Go.Proofs.Ytnaapgjjombdpaa

/-- One bit further. -/
def sh (c : Nat) : Nat := if c % 2 = 1 then (c / 2) ^^^ 3988292384 else c / 2
def shn : Nat → Nat → Nat
  | 0, c => c
  | k + 1, c => sh (shn k c)
/-- One byte further. -/
def ad (c x : Nat) : Nat := shn 8 (c ^^^ x)
def crc (l : List Nat) (c : Nat) : Nat := l.foldl ad c
def sum (l : List Nat) : Nat := crc l 4294967295 ^^^ 4294967295

theorem xor_left_comm (a b c : Nat) : a ^^^ (b ^^^ c) = b ^^^ (a ^^^ c) := by rw [← Nat.xor_assoc, Nat.xor_comm a b, Nat.xor_assoc]
theorem xor_cancel (a b : Nat) : a ^^^ (a ^^^ b) = b := by rw [← Nat.xor_assoc, Nat.xor_self, Nat.zero_xor]
theorem sh_xor (a b : Nat) : sh (a ^^^ b) = sh a ^^^ sh b := by
  unfold sh
  rcases Nat.mod_two_eq_zero_or_one a with ha | ha <;> rcases Nat.mod_two_eq_zero_or_one b with hb | hb <;>
    simp only [ha, hb, Nat.xor_div_two, Nat.xor_mod_two_eq_one, if_true, if_false, Nat.xor_assoc, true_iff, false_iff, not_true, not_false_eq_true, Nat.zero_ne_one]
  · rw [Nat.xor_comm (b / 2)]
  · rw [Nat.xor_comm 3988292384, Nat.xor_assoc, Nat.xor_self, Nat.xor_zero]
theorem shn_xor (k a b : Nat) : shn k (a ^^^ b) = shn k a ^^^ shn k b := by
  induction k with
  | zero => rfl
  | succ k ih => simp only [shn, ih, sh_xor]
theorem sh_lt {c : Nat} (h : c < 4294967296) : sh c < 4294967296 := by
  unfold sh
  split
  · exact Nat.xor_lt_two_pow (n := 32) (by omega) (by omega)
  · omega
theorem shn_lt (k : Nat) {c : Nat} (h : c < 4294967296) : shn k c < 4294967296 := by
  induction k with
  | zero => exact h
  | succ k ih => exact sh_lt ih
theorem sh_zero {c : Nat} (h : c < 4294967296) (e : sh c = 0) : c = 0 := by
  unfold sh at e
  split at e
  · have : c / 2 = 3988292384 := by
      have h2 : (c / 2 ^^^ 3988292384) ^^^ 3988292384 = 0 ^^^ 3988292384 := by rw [e]
      simpa [Nat.xor_assoc] using h2
    omega
  · omega
theorem shn_zero (k : Nat) {c : Nat} (h : c < 4294967296) (e : shn k c = 0) : c = 0 := by
  induction k with
  | zero => exact e
  | succ k ih => exact ih (sh_zero (shn_lt k h) e)
theorem shn_add (a b c : Nat) : shn (a + b) c = shn a (shn b c) := by
  induction a with
  | zero => simp [shn]
  | succ a ih => rw [Nat.succ_add]; simp only [shn, ih]
theorem shn_left (k c : Nat) : shn k (c <<< k) = c := by
  induction k with
  | zero => simp [shn]
  | succ k ih =>
    rw [shn_add k 1]
    have : shn 1 (c <<< (k + 1)) = c <<< k := by
      simp only [shn, sh, Nat.shiftLeft_eq, Nat.pow_succ, ← Nat.mul_assoc]
      rw [if_neg (by omega)]
      omega
    rw [this, ih]
theorem xor_inj {a b c : Nat} (h : a ^^^ c = b ^^^ c) : a = b := by
  have : (a ^^^ c) ^^^ c = (b ^^^ c) ^^^ c := by rw [h]
  simpa [Nat.xor_assoc] using this
theorem xor_zero_iff {a b : Nat} (h : a ^^^ b = 0) : a = b := by
  apply xor_inj (c := b); rw [h]; simp
theorem shn_inj (k : Nat) {a b : Nat} (ha : a < 4294967296) (hb : b < 4294967296) (h : shn k a = shn k b) : a = b := by
  apply xor_zero_iff
  apply shn_zero k (Nat.xor_lt_two_pow (n := 32) ha hb)
  rw [shn_xor, h]; simp

/-- The bytes as one number, the lowest first. -/
def le : List Nat → Nat
  | [] => 0
  | x :: r => x ^^^ (le r <<< 8)
theorem le_append (a b : List Nat) : le (a ++ b) = le a ^^^ (le b <<< (8 * a.length)) := by
  induction a with
  | nil => simp [le]
  | cons x r ih =>
    simp only [List.cons_append, le, ih, List.length_cons, Nat.shiftLeft_xor_distrib, ← Nat.shiftLeft_add, Nat.xor_assoc]
    rw [show 8 * r.length + 8 = 8 * (r.length + 1) by omega]
theorem le_set (l : List Nat) (k x : Nat) (h : k < l.length) : le (l.set k (l.getD k 0 ^^^ x)) = le l ^^^ (x <<< (8 * k)) := by
  induction l generalizing k with
  | nil => cases h
  | cons y r ih =>
    cases k with
    | zero => simp only [List.set_cons_zero, List.getD_cons_zero, le, Nat.xor_assoc, Nat.mul_zero, Nat.shiftLeft_zero, Nat.xor_comm x]
    | succ k =>
      have := ih k (by simpa using h)
      simp only [List.set_cons_succ, List.getD_cons_succ, le, this, Nat.shiftLeft_xor_distrib, ← Nat.shiftLeft_add, Nat.xor_assoc]
      rw [show 8 * k + 8 = 8 * (k + 1) by omega]
theorem crc_le (l : List Nat) (c : Nat) : crc l c = shn (8 * l.length) (c ^^^ le l) := by
  induction l generalizing c with
  | nil => simp [crc, le, shn]
  | cons x r ih =>
    have e : crc (x :: r) c = crc r (ad c x) := rfl
    rw [e, ih, ad, List.length_cons, show 8 * (r.length + 1) = 8 * r.length + 8 by omega, shn_add, le, ← Nat.xor_assoc, shn_xor 8 (c ^^^ x) (le r <<< 8), shn_left]
theorem crc_lt (l : List Nat) (c : Nat) (hl : ∀ x ∈ l, x < 256) (hc : c < 4294967296) : crc l c < 4294967296 := by
  induction l generalizing c with
  | nil => exact hc
  | cons x r ih =>
    refine ih _ (fun y hy => hl y (List.mem_cons_of_mem _ hy)) ?_
    have := hl x (List.mem_cons_self ..)
    exact shn_lt 8 (Nat.xor_lt_two_pow (n := 32) hc (by omega))
theorem sum_lt (l : List Nat) (hl : ∀ x ∈ l, x < 256) : sum l < 4294967296 :=
  Nat.xor_lt_two_pow (n := 32) (crc_lt l _ hl (by omega)) (by omega)
/-- A change within 32 bits in a row shows. -/
theorem crc_burst (a b : List Nat) (c d k : Nat) (hl : b.length = a.length) (hd : d < 4294967296) (hd0 : d ≠ 0) (hk : k ≤ 8 * a.length) (h : le b = le a ^^^ (d <<< k)) : crc b c ≠ crc a c := by
  intro e
  rw [crc_le, crc_le, hl, h, ← Nat.xor_assoc, shn_xor _ (c ^^^ le a)] at e
  have e2 : shn (8 * a.length) (d <<< k) = 0 := by
    have := xor_inj (a := shn (8 * a.length) (d <<< k)) (b := 0) (c := shn (8 * a.length) (c ^^^ le a)) (by rw [Nat.xor_comm, e]; simp)
    exact this
  rw [show 8 * a.length = (8 * a.length - k) + k by omega, shn_add, shn_left] at e2
  exact hd0 (shn_zero _ hd e2)
theorem sum_burst (a b : List Nat) (d k : Nat) (hl : b.length = a.length) (hd : d < 4294967296) (hd0 : d ≠ 0) (hk : k ≤ 8 * a.length) (h : le b = le a ^^^ (d <<< k)) : sum b ≠ sum a :=
  fun e => crc_burst a b 4294967295 d k hl hd hd0 hk h (xor_inj e)
theorem crc_append (a b : List Nat) (c : Nat) : crc (a ++ b) c = crc b (crc a c) := List.foldl_append ..
/-- Bytes end with their sum just where the whole leaves one number over. -/
theorem sum_whole (a s : List Nat) (hs : s.length = 4) (hl : le s < 4294967296) (ha : ∀ x ∈ a, x < 256) : le s = sum a ↔ crc (a ++ s) 4294967295 = shn 32 4294967295 := by
  rw [crc_append, crc_le s, hs]
  constructor
  · intro e
    rw [e, sum, xor_cancel]
  · intro e
    have h1 := crc_lt a 4294967295 ha (by omega)
    have := shn_inj 32 (Nat.xor_lt_two_pow (n := 32) h1 hl) (by omega) e
    have h3 : crc a 4294967295 ^^^ (crc a 4294967295 ^^^ le s) = crc a 4294967295 ^^^ 4294967295 := by rw [this]
    rwa [xor_cancel] at h3
end Go.Proofs.Ytnaapgjjombdpaa
