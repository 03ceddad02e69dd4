/-
  A token hangs on its own bytes, and on the next one only by where it stops: the same bytes elsewhere are the same token.
-/
import Derived.Test.YtbmbgnmkakkpfaaDoorS
import Derived.Test.YtbmbgnmkakkpfaaDoorO
set_option linter.unusedVariables false
set_option linter.unusedSimpArgs false
namespace Go.Proofs.YtbmbgnmkakkpfaaDoor
open Go.RowKit Go.Maps

/-- From j on u has the bytes that s has from i on, so many. -/
def Sh (u : ByteArray) (j : Nat) (s : ByteArray) (i d : Nat) : Prop := ∀ k, k < d → pk u (j + k) = pk s (i + k)
/-- A token may stop ahead of this byte. -/
def Stp (c e : Int) : Prop := c = e ∨ c = 32 ∨ c = 10
theorem span_end (p : Int → Bool) (h0 : p 0 = false) (s : ByteArray) (i : Nat) : p (pk s (span p s i)) = false := by
  fun_induction span p s i with
  | case1 i hlt hp ih => exact ih
  | case2 i hlt hp => rw [pk_lt_size hlt]; simpa using hp
  | case3 i hlt => rw [pk, if_neg hlt]; exact h0
theorem span_to {p : Int → Bool} (h0 : p 0 = false) {s : ByteArray} : ∀ (d i : Nat), (∀ k, k < d → p (pk s (i + k)) = true) → p (pk s (i + d)) = false → span p s i = i + d
  | 0, i, _, h => span_no h
  | d + 1, i, h1, h => by
    have := (span_yes (p := p) (s := s) (i := i) (h1 0 (by omega)) h0).2
    rw [this, span_to h0 d (i + 1) (fun k hk => by have := h1 (k + 1) (by omega); rwa [show i + 1 + k = i + (k + 1) by omega]) (by rwa [show i + 1 + d = i + (d + 1) by omega])]
    omega
theorem span_in {p : Int → Bool} {s : ByteArray} {i : Nat} (hi : i ≤ s.size) (k : Nat) (hk : k < span p s i - i) : p (pk s (i + k)) = true := by
  have h1 := span_all (p := p) (s := s) (i := i) (i + k) (by omega) (by omega)
  have h2 := span_le (p := p) (s := s) (i := i) hi
  rw [pk_lt_size (by omega)]; exact h1
theorem ext_sh {u s : ByteArray} {j i d : Nat} (h : Sh u j s i d) (h1 : j + d ≤ u.size) (h2 : i + d ≤ s.size) : u.extract j (j + d) = s.extract i (i + d) := by
  apply ba_ext
  · rw [size_ext u j _ h1, size_ext s i _ h2]; omega
  · intro k hk
    rw [size_ext u j _ h1] at hk
    rw [bt_ext u j _ k h1 hk, bt_ext s i _ k h2 (by omega)]
    have := h k (by omega)
    rwa [pk_lt_size (by omega), pk_lt_size (by omega)] at this
theorem Sh.fits {u s : ByteArray} {j i d : Nat} (h : Sh u j s i d) (hd : 0 < d) (hn : pk s (i + (d - 1)) ≠ 0) : j + d ≤ u.size := by
  have := lt_of_pk (s := u) (i := j + (d - 1)) (by rw [h (d - 1) (by omega)]; exact hn)
  omega
theorem Sh.mono {u s : ByteArray} {j i d d' : Nat} (h : Sh u j s i d) (hd : d' ≤ d) : Sh u j s i d' := fun k hk => h k (by omega)
theorem Sh.shift {u s : ByteArray} {j i d : Nat} (h : Sh u j s i d) (e : Nat) (d' : Nat) (hd : e + d' ≤ d) : Sh u (j + e) s (i + e) d' := fun k hk => by
  have := h (e + k) (by omega)
  rwa [← Nat.add_assoc, ← Nat.add_assoc] at this

theorem esc_sh {u s : ByteArray} {j i : Nat} {c : Int} {n : Nat} (h : esc s i = some (c, n)) (hs : Sh u j s i (n - i)) : esc u j = some (c, j + (n - i)) := by
  unfold esc at h
  by_cases h1 : pk s i = 110
  · rw [if_pos h1] at h; cases h
    have e := hs 0 (by omega)
    simp only [Nat.add_zero] at e
    rw [esc, e, if_pos h1]; congr 2; omega
  rw [if_neg h1] at h
  by_cases h2 : pk s i = 116
  · rw [if_pos h2] at h; cases h
    have e := hs 0 (by omega)
    simp only [Nat.add_zero] at e
    rw [esc, e, if_neg h1, if_pos h2]; congr 2; omega
  rw [if_neg h2] at h
  by_cases h3 : pk s i = 92
  · rw [if_pos h3] at h; cases h
    have e := hs 0 (by omega)
    simp only [Nat.add_zero] at e
    rw [esc, e, if_neg h1, if_neg h2, if_pos h3]; congr 2; omega
  rw [if_neg h3] at h
  by_cases h4 : pk s i = 34
  · rw [if_pos h4] at h; cases h
    have e := hs 0 (by omega)
    simp only [Nat.add_zero] at e
    rw [esc, e, if_neg h1, if_neg h2, if_neg h3, if_pos h4]; congr 2; omega
  rw [if_neg h4] at h
  by_cases h5 : pk s i = 120
  · rw [if_pos h5] at h
    by_cases h6 : 0 ≤ hexv (pk s (i + 1)) ∧ 0 ≤ hexv (pk s (i + 2))
    · rw [if_pos h6] at h; cases h
      have e := hs 0 (by omega)
      simp only [Nat.add_zero] at e
      rw [esc, e, if_neg h1, if_neg h2, if_neg h3, if_neg h4, if_pos h5, hs 1 (by omega), hs 2 (by omega), if_pos h6]
      congr 2; omega
    · rw [if_neg h6] at h; cases h
  · rw [if_neg h5] at h; cases h
theorem esc_gt {s : ByteArray} {i n : Nat} {c : Int} (h : esc s i = some (c, n)) : i < n := by
  unfold esc at h
  repeat' split at h
  all_goals first
    | (cases h; done)
    | (cases h; omega)
theorem one_sh {u s : ByteArray} {j i : Nat} {c : Int} {n : Nat} (h : one s i = some (c, n)) (hs : Sh u j s i (n - i)) : one u j = some (c, j + (n - i)) := by
  have hgt := (one_ok h).1
  have e := hs 0 (by omega)
  simp only [Nat.add_zero] at e
  unfold one at h
  by_cases h1 : pk s i = 92
  · rw [if_pos h1] at h
    have hg := esc_gt h
    have := esc_sh (u := u) (j := j + 1) h (by have := hs.shift 1 (n - (i + 1)) (by omega); exact this)
    rw [one, e, if_pos h1, this]; congr 2; omega
  · rw [if_neg h1] at h
    by_cases h2 : shw (pk s i) = true
    · rw [if_pos h2] at h
      cases h
      rw [one, e, if_neg h1, if_pos h2]; congr 2; omega
    · rw [if_neg h2] at h; cases h
theorem qts_sh {u s : ByteArray} : ∀ (f i : Nat) (l m : List Int) (n : Nat), qts s f i l = some (m, n) → ∀ (g j : Nat), n - i ≤ g → Sh u j s i (n - i) → qts u g j l = some (m, j + (n - i))
  | 0, i, l, m, n, h, g, j, hg, hs => by cases h
  | f + 1, i, l, m, n, h, g, j, hg, hs => by
    have hb := qts_ok _ _ _ _ _ h
    obtain ⟨g, rfl⟩ : ∃ k, g = k + 1 := ⟨g - 1, by omega⟩
    have e := hs 0 (by omega)
    simp only [Nat.add_zero] at e
    rw [qts] at h
    by_cases h1 : pk s i = 34
    · rw [if_pos h1] at h
      cases h
      rw [qts, e, if_pos h1]; congr 2; omega
    · rw [if_neg h1] at h
      cases ho : one s i with
      | none => rw [ho] at h; cases h
      | some p =>
        obtain ⟨c, k⟩ := p
        rw [ho] at h
        have h2 := one_ok ho
        have h3 := qts_ok _ _ _ _ _ h
        have := one_sh (u := u) (j := j) ho (hs.mono (by omega))
        rw [qts, e, if_neg h1, this]
        simp only []
        have h4 := qts_sh f k (l ++ [c]) m n h g (j + (k - i)) (by omega) (by have := hs.shift (k - i) (n - k) (by omega); rwa [show i + (k - i) = k by omega] at this)
        rw [h4]; congr 2; omega

theorem qts_last {s : ByteArray} : ∀ (f i : Nat) (l m : List Int) (n : Nat), qts s f i l = some (m, n) → pk s (n - 1) = 34
  | 0, i, l, m, n, h => by cases h
  | f + 1, i, l, m, n, h => by
    rw [qts] at h
    by_cases h1 : pk s i = 34
    · rw [if_pos h1] at h; cases h; exact h1
    · rw [if_neg h1] at h
      cases ho : one s i with
      | none => rw [ho] at h; cases h
      | some p => rw [ho] at h; exact qts_last f _ _ _ _ h

/-! ### Signs -/
def m2 (x y : Int) : List Int → Bool
  | [a] => x == a
  | [a, b] => (x == a) && (y == b)
  | _ => false
def sg2 (x y : Int) : Option (List Int) := signs.find? (m2 x y)
theorem signs_short : ∀ g ∈ signs, g.length = 1 ∨ g.length = 2 := by decide +kernel
theorem mts_m2 (s : ByteArray) (i : Nat) (g : List Int) (h : g.length = 1 ∨ g.length = 2) : mts s i g = m2 (pk s i) (pk s (i + 1)) g := by
  match g, h with
  | [a], _ => simp [mts, m2]
  | [a, b], _ => simp [mts, m2]
theorem find_alike {p q : List Int → Bool} : ∀ l : List (List Int), (∀ g ∈ l, p g = q g) → l.find? p = l.find? q
  | [], _ => rfl
  | g :: l, h => by rw [List.find?_cons, List.find?_cons, h g (by simp), find_alike l (fun x hx => h x (by simp [hx]))]
theorem sgn_sg2 (s : ByteArray) (i : Nat) : sgn s i = sg2 (pk s i) (pk s (i + 1)) := find_alike signs (fun g hg => mts_m2 s i g (signs_short g hg))
theorem sg2_one : ∀ g ∈ signs, g.length = 1 → sg2 (g.getD 0 0) 32 = some g ∧ sg2 (g.getD 0 0) 10 = some g := by decide +kernel
theorem sgn_sh {u s : ByteArray} {j i : Nat} {l : List Int} (h : sgn s i = some l) (hi : i ≤ s.size) (hs : Sh u j s i l.length) (hn : Stp (pk u (j + l.length)) (pk s (i + l.length))) : sgn u j = some l := by
  obtain ⟨h1, h2, h3, h4⟩ := sgn_ok h hi
  have e := hs 0 (by omega)
  simp only [Nat.add_zero] at e
  rw [sgn_sg2] at h ⊢
  rw [e]
  rcases signs_short l h1 with h5 | h5
  · rw [h5] at hn
    have h6 : pk s i = l.getD 0 0 := by have := mts_get l i h2 0 (by omega); simpa using this
    rcases hn with hn | hn | hn
    · rw [hn]; exact h
    · rw [hn, h6]; exact (sg2_one l h1 h5).1
    · rw [hn, h6]; exact (sg2_one l h1 h5).2
  · rw [hs 1 (by omega)]; exact h

theorem stp_no {p : Int → Bool} {c e : Int} (h : Stp c e) (he : p e = false) (h1 : p 32 = false) (h2 : p 10 = false) : p c = false := by
  rcases h with rfl | rfl | rfl
  · exact he
  · exact h1
  · exact h2
theorem inN_dig_no {c : Int} (h : inN c = false) : dig c = false := by
  simp [inN] at h; exact h.2

/-- The same bytes elsewhere are the same token. -/
theorem tok_sh {u s : ByteArray} {j i n : Nat} {t : Tok} (hi : i < s.size) (h : tokV s i = .ok (t, n)) (hs : Sh u j s i (n - i)) (hn : Stp (pk u (j + (n - i))) (pk s n)) :
    tokV u j = .ok ({ t with at' := j }, j + (n - i)) := by
  obtain ⟨o1, o2, -, -⟩ := tokV_ok hi h
  have e := hs 0 (by omega)
  simp only [Nat.add_zero] at e
  have hni : i + (n - i) = n := by omega
  unfold tokV at h
  by_cases h1 : dig (pk s i) = true
  · rw [if_pos h1] at h
    have hse := span_end dig rfl s i
    by_cases h2 : 4611686018427387903 < dvx s i (span dig s i) ∨ inN (pk s (span dig s i)) = true
    · rw [if_pos h2] at h; cases h
    rw [if_neg h2] at h
    cases h
    have hin : ∀ k, k < span dig s i - i → dig (pk s (i + k)) = true := fun k hk => span_in (by omega) k hk
    have hnz : pk s (i + (span dig s i - i - 1)) ≠ 0 := fun e => by have := hin (span dig s i - i - 1) (by omega); rw [e] at this; exact absurd this (by decide)
    have hfit := hs.fits (by omega) hnz
    have hu : span dig u j = j + (span dig s i - i) := span_to rfl _ j (fun k hk => by rw [hs k hk]; exact hin k hk) (stp_no hn hse rfl rfl)
    have hx := ext_sh hs hfit (by omega)
    rw [hni] at hx
    have hno : inN (pk s (span dig s i)) = false := by simpa using fun e => h2 (.inr e)
    have hd : dvx u j (j + (span dig s i - i)) = dvx s i (span dig s i) := by rw [dvx, hx]; rfl
    rw [tokV, e, if_pos h1, hu, hd, if_neg]
    · rintro (h3 | h3)
      · exact h2 (.inl h3)
      · rw [stp_no (p := inN) hn hno rfl rfl] at h3; cases h3
  rw [if_neg h1] at h
  by_cases h2 : pk s i = 34
  · rw [if_pos h2] at h
    cases hq : qtd s i with
    | none => rw [hq] at h; cases h
    | some p =>
      obtain ⟨l, k⟩ := p
      rw [hq] at h
      cases h
      have hb := qts_ok _ _ _ _ _ hq
      have h34 : pk s (i + (n - i - 1)) ≠ 0 := by
        rw [show i + (n - i - 1) = n - 1 by omega, qts_last _ _ _ _ _ hq]; decide
      have hfit := hs.fits (by omega) h34
      have := qts_sh (u := u) _ _ _ _ _ hq (u.size + 1) (j + 1) (by omega) (by have := hs.shift 1 (n - (i + 1)) (by omega); exact this)
      rw [tokV, e, if_neg h1, if_pos h2, qtd, this]
      simp only []
      congr 2; omega
  rw [if_neg h2] at h
  by_cases h3 : low (pk s i) = true ∨ vab (pk s i) = true
  · rw [if_pos h3] at h
    by_cases h4 : 32 < span inN s i - i
    · rw [if_pos h4] at h; cases h
    rw [if_neg h4] at h
    cases h
    have hse := span_end inN rfl s i
    have hin : ∀ k, k < span inN s i - i → inN (pk s (i + k)) = true := fun k hk => span_in (by omega) k hk
    have hnz : pk s (i + (span inN s i - i - 1)) ≠ 0 := fun e => by have := hin (span inN s i - i - 1) (by omega); rw [e] at this; exact absurd this (by decide)
    have hfit := hs.fits (by omega) hnz
    have hu : span inN u j = j + (span inN s i - i) := span_to rfl _ j (fun k hk => by rw [hs k hk]; exact hin k hk) (stp_no hn hse rfl rfl)
    have hx := ext_sh hs hfit (by omega)
    rw [hni] at hx
    rw [tokV, e, if_neg h1, if_neg h2, if_pos h3, hu, hx, if_neg (by omega)]
  rw [if_neg h3] at h
  cases hq : sgn s i with
  | none => rw [hq] at h; cases h
  | some l =>
    rw [hq] at h
    cases h
    have hl : i + l.length - i = l.length := by omega
    rw [hl] at hs hn ⊢
    rw [tokV, e, if_neg h1, if_neg h2, if_neg h3, sgn_sh hq (by omega) hs hn]
end Go.Proofs.YtbmbgnmkakkpfaaDoor
