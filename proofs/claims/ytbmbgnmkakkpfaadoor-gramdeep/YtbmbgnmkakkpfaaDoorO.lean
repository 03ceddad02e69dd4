/-
  Places of tokens: they rise, and what was scanned stands there.
-/
import Derived.Test.YtbmbgnmkakkpfaaDoorN
set_option linter.unusedVariables false
set_option linter.unusedSimpArgs false
namespace Go.Proofs.YtbmbgnmkakkpfaaDoor
open Go.RowKit Go.Maps

theorem size_ext (s : ByteArray) (i j : Nat) (h : j ≤ s.size) : (s.extract i j).size = j - i := by rw [ByteArray.size_extract]; omega
theorem sb_size (l : List Int) : (sb l).size = l.length := by simp [sb, ByteArray.size]
theorem ba_ext {s t : ByteArray} (hl : s.size = t.size) (h : ∀ k, k < s.size → bt s k = bt t k) : s = t := by
  apply ByteArray.ext
  apply Array.ext
  · exact hl
  · intro k h1 h2
    have := h k h1
    unfold bt at this
    rw [Array.getElem?_eq_getElem h1, Array.getElem?_eq_getElem h2, Option.getD_some, Option.getD_some] at this
    exact UInt8.toNat_inj.1 (by omega)
theorem bt_sb (l : List Int) (k : Nat) (hk : k < l.length) (hb : 0 ≤ l.getD k 0 ∧ l.getD k 0 < 256) : bt (sb l) k = l.getD k 0 := by
  simp only [bt, sb, List.getElem?_toArray, List.getElem?_map, List.getElem?_eq_getElem hk, Option.map_some, Option.getD_some]
  rw [List.getD_eq_getElem?_getD, List.getElem?_eq_getElem hk, Option.getD_some] at hb ⊢
  rw [UInt8.toNat_ofNat']
  omega
theorem mts_get {s : ByteArray} : ∀ (l : List Int) (i : Nat), mts s i l = true → ∀ k, k < l.length → pk s (i + k) = l.getD k 0
  | [], i, _, k, hk => by simp at hk
  | c :: l, i, h, k, hk => by
    rw [mts, Bool.and_eq_true] at h
    match k with
    | 0 => simpa using h.1
    | k + 1 =>
      have := mts_get l (i + 1) h.2 k (by simpa using hk)
      rw [show i + (k + 1) = i + 1 + k by omega, this]
      simp
theorem signs_bytes : ∀ l ∈ signs, ∀ c ∈ l, 0 < c ∧ c < 256 := by decide +kernel
theorem sgn_ext {s : ByteArray} {i : Nat} {l : List Int} (h : sgn s i = some l) (hi : i ≤ s.size) : s.extract i (i + l.length) = sb l := by
  obtain ⟨h1, h2, h3, h4⟩ := sgn_ok h hi
  apply ba_ext
  · rw [size_ext s i _ h4, sb_size]; omega
  · intro k hk
    rw [size_ext s i _ h4] at hk
    rw [bt_ext s i _ k h4 hk]
    have hk2 : k < l.length := by omega
    have hm := mts_get l i h2 k hk2
    have hb := signs_bytes l h1 (l.getD k 0) (by rw [List.getD_eq_getElem?_getD, List.getElem?_eq_getElem hk2]; exact List.getElem_mem hk2)
    rw [bt_sb l k hk2 ⟨by omega, by omega⟩, ← hm, pk, if_pos (by omega)]
/-- What stands at a token's place. -/
def TokAt (s : ByteArray) (t : Tok) : Prop := t.at' < s.size ∧ (0 < t.s.size → t.at' + t.s.size ≤ s.size ∧ s.extract t.at' (t.at' + t.s.size) = t.s) ∧ (t.k = 4 → bt s t.at' = 34)
theorem tokV_at {s : ByteArray} {i j : Nat} {t : Tok} (hi : i < s.size) (h : tokV s i = .ok (t, j)) : TokAt s t := by
  unfold tokV at h
  by_cases h1 : dig (pk s i) = true
  · rw [if_pos h1] at h
    split at h
    · cases h
    · cases h; exact ⟨hi, fun e => absurd e (show ¬ 0 < e0.size by decide), fun e => absurd e (show ¬ (1 : Int) = 4 by decide)⟩
  · rw [if_neg h1] at h
    by_cases h2 : pk s i = 34
    · rw [if_pos h2] at h
      split at h
      · cases h
      · cases h
        rw [pk, if_pos hi] at h2
        exact ⟨hi, fun e => absurd e (show ¬ 0 < e0.size by decide), fun e => h2⟩
    · rw [if_neg h2] at h
      by_cases h3 : low (pk s i) = true ∨ vab (pk s i) = true
      · rw [if_pos h3] at h
        split at h
        · cases h
        · cases h
          have hin : inN (pk s i) = true := by rcases h3 with h3 | h3 <;> simp [inN, h3]
          have h4 := span_yes (p := inN) hin rfl
          have h5 := span_ge inN s (i + 1)
          have h6 := span_le (p := inN) (s := s) (i := i) (by omega)
          have h7 := size_ext s i _ h6
          have e : i + (span inN s i - i) = span inN s i := by omega
          refine ⟨hi, fun _ => ?_, fun e => ?_⟩
          · show i + (s.extract i (span inN s i)).size ≤ s.size ∧ s.extract i (i + (s.extract i (span inN s i)).size) = _
            rw [h7, e]
            exact ⟨h6, rfl⟩
          · exfalso
            revert e
            show (if _ then (6 : Int) else if _ then 2 else 3) = 4 → False
            split
            · decide
            · split <;> decide
      · rw [if_neg h3] at h
        cases hq : sgn s i with
        | none => rw [hq] at h; cases h
        | some l =>
          rw [hq] at h
          cases h
          have h4 := sgn_ok hq (by omega)
          have h5 := sgn_ext hq (by omega)
          refine ⟨hi, fun _ => ?_, fun e => absurd e (show ¬ (5 : Int) = 4 by decide)⟩
          show i + (sb l).size ≤ s.size ∧ s.extract i (i + (sb l).size) = sb l
          rw [sb_size]
          exact ⟨h4.2.2.2, h5⟩
theorem scn_at {s : ByteArray} : ∀ (f i : Nat) (l m : List Tok), scn s f i l = .ok m → (∀ t ∈ l, TokAt s t ∧ t.at' < i) → l.Pairwise (fun a b => a.at' < b.at') → (∀ t ∈ m, TokAt s t) ∧ m.Pairwise (fun a b => a.at' < b.at')
  | 0, i, l, m, h, h1, h2 => by cases h; exact ⟨fun t ht => (h1 t ht).1, h2⟩
  | f + 1, i, l, m, h, h1, h2 => by
    rw [scn] at h
    by_cases hlt : i < s.size
    · rw [if_pos hlt] at h
      split at h
      · cases h
      · cases ht : tokV s i with
        | error c => rw [ht] at h; cases h
        | ok p =>
          obtain ⟨t, j⟩ := p
          rw [ht] at h
          obtain ⟨o1, o2, o3, o4⟩ := tokV_ok hlt ht
          have n1 := skp_ge s j false
          refine scn_at f (skp s j false) (l ++ [t]) m h (fun u hu => ?_) ?_
          · rcases List.mem_append.1 hu with hu | hu
            · have := h1 u hu; exact ⟨this.1, by omega⟩
            · simp at hu; subst hu; exact ⟨tokV_at hlt ht, by omega⟩
          · rw [List.pairwise_append]
            refine ⟨h2, by simp, fun a ha b hb => ?_⟩
            simp at hb; subst hb
            have := (h1 a ha).2; omega
    · rw [if_neg hlt] at h
      cases h; exact ⟨fun t ht => (h1 t ht).1, h2⟩
theorem scn_errO {s : ByteArray} : ∀ (f i : Nat) (l : List Tok) (j : Nat) (c : Int), scn s f i l = .error (j, c) → j ≤ s.size ∧ 151 ≤ c ∧ c ≤ 155
  | 0, i, l, j, c, h => by cases h
  | f + 1, i, l, j, c, h => by
    rw [scn] at h
    by_cases hlt : i < s.size
    · rw [if_pos hlt] at h
      split at h
      · cases h; exact ⟨by omega, by decide, by decide⟩
      · cases ht : tokV s i with
        | error d =>
          rw [ht] at h; cases h
          have := tokV_err ht
          exact ⟨by omega, this.1, by omega⟩
        | ok p => rw [ht] at h; exact scn_errO f _ _ j c h
    · rw [if_neg hlt] at h; cases h
theorem scanV_errO {s : ByteArray} {j : Nat} {c : Int} (h : scanV s = .error (j, c)) : j ≤ s.size ∧ 150 ≤ c ∧ c ≤ 155 := by
  unfold scanV at h
  split at h
  · cases h; exact ⟨Nat.zero_le _, by decide, by decide⟩
  · have := scn_errO _ _ _ _ _ h; exact ⟨this.1, by omega, this.2.2⟩
theorem scanV_at {s : ByteArray} {m : List Tok} (h : scanV s = .ok m) : s.size ≤ 16384 ∧ (∀ t ∈ m, TokAt s t) ∧ m.Pairwise (fun a b => a.at' < b.at') := by
  unfold scanV at h
  split at h
  · cases h
  · exact ⟨by omega, scn_at _ _ _ _ h (by simp) (by simp)⟩
theorem scn_len {s : ByteArray} : ∀ (f i : Nat) (l m : List Tok), scn s f i l = .ok m → l.length ≤ 4000 → m.length ≤ 4000
  | 0, i, l, m, h, h1 => by cases h; exact h1
  | f + 1, i, l, m, h, h1 => by
    rw [scn] at h
    by_cases hlt : i < s.size
    · rw [if_pos hlt] at h
      split at h
      · cases h
      · cases ht : tokV s i with
        | error c => rw [ht] at h; cases h
        | ok p => rw [ht] at h; exact scn_len f _ _ m h (by simp; omega)
    · rw [if_neg hlt] at h; cases h; exact h1
theorem scanV_len {s : ByteArray} {m : List Tok} (h : scanV s = .ok m) : m.length ≤ 4000 := by
  unfold scanV at h
  split at h
  · cases h
  · exact scn_len _ _ _ _ h (by simp)
end Go.Proofs.YtbmbgnmkakkpfaaDoor
