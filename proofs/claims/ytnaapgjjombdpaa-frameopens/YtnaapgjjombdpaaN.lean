/-
  Rows of the call's own that are written to; changes of bits in a row.
-/
import Derived.Test.YtnaapgjjombdpaaK
namespace Go.Proofs.Ytnaapgjjombdpaa
open Go.RowKit Go.Maps
variable {S S' : Nat → Prop} {W W1 W' : World}

theorem Ow.form {base : Nat} {v : Value} {l : List Nat} (h : Ow base W v l) (hl : l ≠ []) : ∃ g cap, v = .slice (some ⟨g, 0, none⟩) l.length cap ∧ base ≤ g := by
  rcases h.row.2 with ⟨_, h2⟩ | ⟨g, cap, cur, rfl, hb, _⟩
  · exact absurd (List.length_eq_zero_iff.1 h2) hl
  · exact ⟨g, cap, rfl, hb⟩
theorem Ow.cell {base g n cap : Nat} {l : List Nat} (h : Ow base W (.slice (some ⟨g, 0, none⟩) n cap) l) (hn : n = l.length) {j : Nat} (hj : j < l.length) : W.cell? ⟨g, j, none⟩ = some (.int .u8 ((l.getD j 0 : Nat) : Int)) ∧ W.frozen? ⟨g, j, none⟩ = false := by
  subst hn
  exact ⟨by rw [h.row.cellAt j (by omega), bs_get l j hj], h.row.frozenAt j⟩
theorem bs_set (l : List Nat) (j x : Nat) : bs (l.set j x) = (bs l).set j (.int .u8 (x : Int)) := by simp [bs, List.map_set]
theorem Ow.stored {base g n cap : Nat} {l : List Nat} (h : Ow base W (.slice (some ⟨g, 0, none⟩) n cap) l) (hn : n = l.length) (j x : Nat) (hx : x < 256) :
    Ow base (W.setCell ⟨g, j, none⟩ (.int .u8 (x : Int))) (.slice (some ⟨g, 0, none⟩) n cap) (l.set j x) := by
  subst hn
  refine ⟨fun y hy => ?_, by simpa using h.len, ?_⟩
  · rcases List.mem_or_eq_of_mem_set hy with h1 | rfl
    · exact h.byte y h1
    · exact hx
  · have := (h.row.stored j (.int .u8 (x : Int))).1
    rw [bs_set, List.length_set]
    exact this

theorem xor_split (n a b : Nat) : n % 2 ^ a ^^^ ((n / 2 ^ a % 2 ^ b) <<< a) = n % 2 ^ (a + b) := by
  apply Nat.eq_of_testBit_eq
  intro i
  simp only [Nat.testBit_xor, Nat.testBit_mod_two_pow, Nat.testBit_shiftLeft, Nat.testBit_div_two_pow]
  by_cases h : i < a
  · have h1 : ¬ a ≤ i := by omega
    have h2 : i < a + b := by omega
    simp [h, h1, h2]
  · have h1 : a ≤ i := by omega
    have e : i - a + a = i := by omega
    by_cases h2 : i - a < b
    · have h3 : i < a + b := by omega
      simp [h, h1, h2, h3, e]
    · have h3 : ¬ i < a + b := by omega
      simp [h, h1, h2, h3]

/-- Bytes turned from place k on, j of them. -/
def chg (l : List Nat) (k y : Nat) : Nat → List Nat
  | 0 => l
  | j + 1 => (chg l k y j).set (k + j) ((chg l k y j).getD (k + j) 0 ^^^ (y / 2 ^ (8 * j) % 256))
theorem chg_len (l : List Nat) (k y j : Nat) : (chg l k y j).length = l.length := by
  induction j with
  | zero => rfl
  | succ j ih => simp [chg, ih]
theorem chg_le (l : List Nat) (k y j : Nat) (h : k + j ≤ l.length) : le (chg l k y j) = le l ^^^ ((y % 2 ^ (8 * j)) <<< (8 * k)) := by
  induction j with
  | zero => simp [chg, Nat.mod_one]
  | succ j ih =>
    rw [chg, le_set _ _ _ (by rw [chg_len]; omega), ih (by omega), Nat.xor_assoc]
    have e := xor_split y (8 * j) 8
    rw [show 8 * (j + 1) = 8 * j + 8 by omega, ← e, Nat.shiftLeft_xor_distrib, ← Nat.shiftLeft_add, show 8 * j + 8 * k = 8 * (k + j) by omega]
end Go.Proofs.Ytnaapgjjombdpaa
