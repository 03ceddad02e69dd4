/-
  Carried over from another seat of ours (P).
-/
import Derived.Test.YtggkjkkbkpnkiaaGreatDoorH
set_option linter.unusedVariables false
set_option linter.unusedSimpArgs false
namespace Go.Proofs.YtggkjkkbkpnkiaaGreatDoor
open Go.RowKit Go.Maps

theorem mts_ok {s : ByteArray} : ∀ (l : List Int) (i : Nat), (∀ c ∈ l, c ≠ 0) → mts s i l = true → i ≤ s.size → i + l.length ≤ s.size
  | [], i, _, _, hi => by simpa using hi
  | c :: l, i, h0, h, hi => by
    rw [mts, Bool.and_eq_true] at h
    have h1 : pk s i = c := by simpa using h.1
    have h2 : i < s.size := lt_of_pk (by rw [h1]; exact h0 c (by simp))
    have := mts_ok l (i + 1) (fun x hx => h0 x (by simp [hx])) h.2 h2
    simp; omega
theorem signs_all : ∀ l ∈ signs, 1 ≤ l.length ∧ ∀ c ∈ l, c ≠ 0 := by decide +kernel
theorem sgn_ok {s : ByteArray} {i : Nat} {l : List Int} (h : sgn s i = some l) (hi : i ≤ s.size) : l ∈ signs ∧ mts s i l = true ∧ 1 ≤ l.length ∧ i + l.length ≤ s.size := by
  have h1 := List.mem_of_find?_eq_some h
  have h2 : mts s i l = true := List.find?_some h
  have h3 := signs_all l h1
  exact ⟨h1, h2, h3.1, mts_ok l i h3.2 h2 hi⟩
theorem qts_ok {s : ByteArray} : ∀ (f i : Nat) (l : List Int) (m : List Int) (j : Nat), qts s f i l = some (m, j) → i < j ∧ j ≤ s.size ∧ l.length ≤ m.length ∧ m.length + i < l.length + j + 1
  | 0, i, l, m, j, h => by cases h
  | f + 1, i, l, m, j, h => by
    rw [qts] at h
    by_cases h1 : pk s i = 34
    · rw [if_pos h1] at h
      cases h
      have := lt_of_pk (s := s) (i := i) (by rw [h1]; decide)
      omega
    · rw [if_neg h1] at h
      cases ho : one s i with
      | none => rw [ho] at h; cases h
      | some p =>
        obtain ⟨c, k⟩ := p
        rw [ho] at h
        have h2 := one_ok ho
        have h3 := qts_ok f k (l ++ [c]) m j h
        simp at h3
        omega
theorem tokV_ok {s : ByteArray} {i j : Nat} {t : Tok} (hi : i < s.size) (h : tokV s i = .ok (t, j)) : i < j ∧ j ≤ s.size ∧ t.at' = i ∧ t.b.length ≤ s.size := by
  unfold tokV at h
  by_cases h1 : dig (pk s i) = true
  · rw [if_pos h1] at h
    have h2 := span_yes (p := dig) h1 rfl
    have h3 := span_ge dig s (i + 1)
    have h4 := span_le (p := dig) (s := s) (i := i) (by omega)
    split at h
    · cases h
    · cases h; exact ⟨by omega, h4, rfl, by simp⟩
  · rw [if_neg h1] at h
    by_cases h2 : pk s i = 34
    · rw [if_pos h2] at h
      cases hq : qtd s i with
      | none => rw [hq] at h; cases h
      | some p =>
        obtain ⟨l, k⟩ := p
        rw [hq] at h
        cases h
        have := qts_ok _ _ _ _ _ hq
        simp at this
        exact ⟨by omega, by omega, rfl, by simp; omega⟩
    · rw [if_neg h2] at h
      by_cases h3 : low (pk s i) = true ∨ vab (pk s i) = true
      · rw [if_pos h3] at h
        have hin : inN (pk s i) = true := by rcases h3 with h3 | h3 <;> simp [inN, h3]
        have h4 := span_yes (p := inN) hin rfl
        have h5 := span_ge inN s (i + 1)
        have h6 := span_le (p := inN) (s := s) (i := i) (by omega)
        split at h
        · cases h
        · cases h; exact ⟨by omega, h6, rfl, by simp⟩
      · rw [if_neg h3] at h
        cases hq : sgn s i with
        | none => rw [hq] at h; cases h
        | some l =>
          rw [hq] at h
          cases h
          have := sgn_ok hq (by omega)
          exact ⟨by omega, by omega, rfl, by simp⟩
theorem tokV_err {s : ByteArray} {i : Nat} {c : Int} (h : tokV s i = .error c) : 151 ≤ c ∧ c ≤ 154 := by
  unfold tokV at h
  split at h
  · split at h <;> cases h; decide
  · split at h
    · split at h <;> cases h; decide
    · split at h
      · split at h <;> cases h; decide
      · split at h <;> cases h; decide

/-- The tokens from i on, where no blank stands, behind those that are there. -/
def scn (s : ByteArray) : Nat → Nat → List Tok → Except (Nat × Int) (List Tok)
  | 0, _, l => .ok l
  | f + 1, i, l => if i < s.size then (if l.length = 4000 then .error (i, 155) else match tokV s i with
      | .error c => .error (i, c)
      | .ok (t, j) => scn s f (skp s j false) (l ++ [t])) else .ok l
/-- A text's tokens, or the place of what is wrong and what it is. -/
def scanV (s : ByteArray) : Except (Nat × Int) (List Tok) :=
  if 16384 < s.size then .error (0, 150) else scn s (s.size + 1) (skp s 0 false) []
end Go.Proofs.YtggkjkkbkpnkiaaGreatDoor



