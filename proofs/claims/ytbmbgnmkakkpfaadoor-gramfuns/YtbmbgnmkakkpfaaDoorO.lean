/-
  Places of tokens: they rise, and what was scanned stands there.
  LexMany: 4000 tokens, and not one more.
  A token hangs on its own bytes, and on the next one only by where it stops: the same bytes elsewhere are the same token.
  Two texts one behind the other, a line's end between: the tokens of both.
-/
import Derived.Test.YtbmbgnmkakkpfaaDoorN
set_option linter.unusedVariables false
set_option linter.unusedSimpArgs false
namespace Go.Proofs.YtbmbgnmkakkpfaaDoor
open Go.RowKit Go.Maps

theorem size_ext (s : ByteArray) (i j : Nat) (h : j ≤ s.size) : (s.extract i j).size = j - i := by rw [ByteArray.size_extract]; omega
theorem sb_size (l : List Int) : (sb l).size = l.length := by simp [sb, ByteArray.size]
theorem ba_ext {s t : ByteArray} (hl : s.size = t.size) (h : ∀ k, k < s.size → bt s k = bt t k) : s = t := by
  apply ByteArray.ext
  apply Array.ext
  · exact hl
  · intro k h1 h2
    have := h k h1
    unfold bt at this
    rw [Array.getElem?_eq_getElem h1, Array.getElem?_eq_getElem h2, Option.getD_some, Option.getD_some] at this
    exact UInt8.toNat_inj.1 (by omega)
theorem bt_sb (l : List Int) (k : Nat) (hk : k < l.length) (hb : 0 ≤ l.getD k 0 ∧ l.getD k 0 < 256) : bt (sb l) k = l.getD k 0 := by
  simp only [bt, sb, List.getElem?_toArray, List.getElem?_map, List.getElem?_eq_getElem hk, Option.map_some, Option.getD_some]
  rw [List.getD_eq_getElem?_getD, List.getElem?_eq_getElem hk, Option.getD_some] at hb ⊢
  rw [UInt8.toNat_ofNat']
  omega
theorem mts_get {s : ByteArray} : ∀ (l : List Int) (i : Nat), mts s i l = true → ∀ k, k < l.length → pk s (i + k) = l.getD k 0
  | [], i, _, k, hk => by simp at hk
  | c :: l, i, h, k, hk => by
    rw [mts, Bool.and_eq_true] at h
    match k with
    | 0 => simpa using h.1
    | k + 1 =>
      have := mts_get l (i + 1) h.2 k (by simpa using hk)
      rw [show i + (k + 1) = i + 1 + k by omega, this]
      simp
theorem signs_bytes : ∀ l ∈ signs, ∀ c ∈ l, 0 < c ∧ c < 256 := by decide +kernel
theorem sgn_ext {s : ByteArray} {i : Nat} {l : List Int} (h : sgn s i = some l) (hi : i ≤ s.size) : s.extract i (i + l.length) = sb l := by
  obtain ⟨h1, h2, h3, h4⟩ := sgn_ok h hi
  apply ba_ext
  · rw [size_ext s i _ h4, sb_size]; omega
  · intro k hk
    rw [size_ext s i _ h4] at hk
    rw [bt_ext s i _ k h4 hk]
    have hk2 : k < l.length := by omega
    have hm := mts_get l i h2 k hk2
    have hb := signs_bytes l h1 (l.getD k 0) (by rw [List.getD_eq_getElem?_getD, List.getElem?_eq_getElem hk2]; exact List.getElem_mem hk2)
    rw [bt_sb l k hk2 ⟨by omega, by omega⟩, ← hm, pk, if_pos (by omega)]
/-- What stands at a token's place. -/
def TokAt (s : ByteArray) (t : Tok) : Prop := t.at' < s.size ∧ (0 < t.s.size → t.at' + t.s.size ≤ s.size ∧ s.extract t.at' (t.at' + t.s.size) = t.s) ∧ (t.k = 4 → bt s t.at' = 34)
theorem tokV_at {s : ByteArray} {i j : Nat} {t : Tok} (hi : i < s.size) (h : tokV s i = .ok (t, j)) : TokAt s t := by
  unfold tokV at h
  by_cases h1 : dig (pk s i) = true
  · rw [if_pos h1] at h
    split at h
    · cases h
    · cases h; exact ⟨hi, fun e => absurd e (show ¬ 0 < e0.size by decide), fun e => absurd e (show ¬ (1 : Int) = 4 by decide)⟩
  · rw [if_neg h1] at h
    by_cases h2 : pk s i = 34
    · rw [if_pos h2] at h
      split at h
      · cases h
      · cases h
        rw [pk, if_pos hi] at h2
        exact ⟨hi, fun e => absurd e (show ¬ 0 < e0.size by decide), fun e => h2⟩
    · rw [if_neg h2] at h
      by_cases h3 : low (pk s i) = true ∨ vab (pk s i) = true
      · rw [if_pos h3] at h
        split at h
        · cases h
        · cases h
          have hin : inN (pk s i) = true := by rcases h3 with h3 | h3 <;> simp [inN, h3]
          have h4 := span_yes (p := inN) hin rfl
          have h5 := span_ge inN s (i + 1)
          have h6 := span_le (p := inN) (s := s) (i := i) (by omega)
          have h7 := size_ext s i _ h6
          have e : i + (span inN s i - i) = span inN s i := by omega
          refine ⟨hi, fun _ => ?_, fun e => ?_⟩
          · show i + (s.extract i (span inN s i)).size ≤ s.size ∧ s.extract i (i + (s.extract i (span inN s i)).size) = _
            rw [h7, e]
            exact ⟨h6, rfl⟩
          · exfalso
            revert e
            show (if _ then (6 : Int) else if _ then 2 else 3) = 4 → False
            split
            · decide
            · split <;> decide
      · rw [if_neg h3] at h
        cases hq : sgn s i with
        | none => rw [hq] at h; cases h
        | some l =>
          rw [hq] at h
          cases h
          have h4 := sgn_ok hq (by omega)
          have h5 := sgn_ext hq (by omega)
          refine ⟨hi, fun _ => ?_, fun e => absurd e (show ¬ (5 : Int) = 4 by decide)⟩
          show i + (sb l).size ≤ s.size ∧ s.extract i (i + (sb l).size) = sb l
          rw [sb_size]
          exact ⟨h4.2.2.2, h5⟩
theorem scn_at {s : ByteArray} : ∀ (f i : Nat) (l m : List Tok), scn s f i l = .ok m → (∀ t ∈ l, TokAt s t ∧ t.at' < i) → l.Pairwise (fun a b => a.at' < b.at') → (∀ t ∈ m, TokAt s t) ∧ m.Pairwise (fun a b => a.at' < b.at')
  | 0, i, l, m, h, h1, h2 => by cases h; exact ⟨fun t ht => (h1 t ht).1, h2⟩
  | f + 1, i, l, m, h, h1, h2 => by
    rw [scn] at h
    by_cases hlt : i < s.size
    · rw [if_pos hlt] at h
      split at h
      · cases h
      · cases ht : tokV s i with
        | error c => rw [ht] at h; cases h
        | ok p =>
          obtain ⟨t, j⟩ := p
          rw [ht] at h
          obtain ⟨o1, o2, o3, o4⟩ := tokV_ok hlt ht
          have n1 := skp_ge s j false
          refine scn_at f (skp s j false) (l ++ [t]) m h (fun u hu => ?_) ?_
          · rcases List.mem_append.1 hu with hu | hu
            · have := h1 u hu; exact ⟨this.1, by omega⟩
            · simp at hu; subst hu; exact ⟨tokV_at hlt ht, by omega⟩
          · rw [List.pairwise_append]
            refine ⟨h2, by simp, fun a ha b hb => ?_⟩
            simp at hb; subst hb
            have := (h1 a ha).2; omega
    · rw [if_neg hlt] at h
      cases h; exact ⟨fun t ht => (h1 t ht).1, h2⟩
theorem scn_errO {s : ByteArray} : ∀ (f i : Nat) (l : List Tok) (j : Nat) (c : Int), scn s f i l = .error (j, c) → j ≤ s.size ∧ 151 ≤ c ∧ c ≤ 155
  | 0, i, l, j, c, h => by cases h
  | f + 1, i, l, j, c, h => by
    rw [scn] at h
    by_cases hlt : i < s.size
    · rw [if_pos hlt] at h
      split at h
      · cases h; exact ⟨by omega, by decide, by decide⟩
      · cases ht : tokV s i with
        | error d =>
          rw [ht] at h; cases h
          have := tokV_err ht
          exact ⟨by omega, this.1, by omega⟩
        | ok p => rw [ht] at h; exact scn_errO f _ _ j c h
    · rw [if_neg hlt] at h; cases h
theorem scanV_errO {s : ByteArray} {j : Nat} {c : Int} (h : scanV s = .error (j, c)) : j ≤ s.size ∧ 150 ≤ c ∧ c ≤ 155 := by
  unfold scanV at h
  split at h
  · cases h; exact ⟨Nat.zero_le _, by decide, by decide⟩
  · have := scn_errO _ _ _ _ _ h; exact ⟨this.1, by omega, this.2.2⟩
theorem scanV_at {s : ByteArray} {m : List Tok} (h : scanV s = .ok m) : s.size ≤ 16384 ∧ (∀ t ∈ m, TokAt s t) ∧ m.Pairwise (fun a b => a.at' < b.at') := by
  unfold scanV at h
  split at h
  · cases h
  · exact ⟨by omega, scn_at _ _ _ _ h (by simp) (by simp)⟩
theorem scn_len {s : ByteArray} : ∀ (f i : Nat) (l m : List Tok), scn s f i l = .ok m → l.length ≤ 4000 → m.length ≤ 4000
  | 0, i, l, m, h, h1 => by cases h; exact h1
  | f + 1, i, l, m, h, h1 => by
    rw [scn] at h
    by_cases hlt : i < s.size
    · rw [if_pos hlt] at h
      split at h
      · cases h
      · cases ht : tokV s i with
        | error c => rw [ht] at h; cases h
        | ok p => rw [ht] at h; exact scn_len f _ _ m h (by simp; omega)
    · rw [if_neg hlt] at h; cases h; exact h1
theorem scanV_len {s : ByteArray} {m : List Tok} (h : scanV s = .ok m) : m.length ≤ 4000 := by
  unfold scanV at h
  split at h
  · cases h
  · exact scn_len _ _ _ _ h (by simp)
end Go.Proofs.YtbmbgnmkakkpfaaDoor

namespace Go.Proofs.YtbmbgnmkakkpfaaDoor
open Go.RowKit Go.Maps

/-! ### Tokens one behind the other, at known places -/
theorem scn_ok {s : ByteArray} (P : Nat → Nat) (N : Nat) (hN : P N = s.size) (hst : ∀ k, k < N → P k < s.size ∧ ∃ t j, tokV s (P k) = .ok (t, j) ∧ skp s j false = P (k + 1)) (h4 : N ≤ 4000) :
    ∀ (m f k : Nat) (l : List Tok), k + m = N → m < f → l.length = k → ∃ l', scn s f (P k) l = .ok l' ∧ l'.length = N
  | 0, f, k, l, hk, hf, hl => by
    obtain ⟨f, rfl⟩ : ∃ g, f = g + 1 := ⟨f - 1, by omega⟩
    have : k = N := by omega
    subst this
    rw [scn, if_neg (by omega)]
    exact ⟨l, rfl, hl⟩
  | m + 1, f, k, l, hk, hf, hl => by
    obtain ⟨f, rfl⟩ : ∃ g, f = g + 1 := ⟨f - 1, by omega⟩
    obtain ⟨h1, t, j, h2, h3⟩ := hst k (by omega)
    rw [scn, if_pos h1, if_neg (by omega), h2]
    simp only []
    rw [h3]
    exact scn_ok P N hN hst h4 m f (k + 1) (l ++ [t]) (by omega) (by omega) (by simp; omega)
theorem scn_many {s : ByteArray} (P : Nat → Nat) (N : Nat) (hst : ∀ k, k < N → P k < s.size ∧ ∃ t j, tokV s (P k) = .ok (t, j) ∧ skp s j false = P (k + 1)) (h4 : 4000 < N) :
    ∀ (m f k : Nat) (l : List Tok), k + m = 4000 → m < f → l.length = k → scn s f (P k) l = .error (P 4000, 155)
  | 0, f, k, l, hk, hf, hl => by
    obtain ⟨f, rfl⟩ : ∃ g, f = g + 1 := ⟨f - 1, by omega⟩
    have : k = 4000 := by omega
    subst this
    rw [scn, if_pos (hst 4000 h4).1, if_pos hl]
  | m + 1, f, k, l, hk, hf, hl => by
    obtain ⟨f, rfl⟩ : ∃ g, f = g + 1 := ⟨f - 1, by omega⟩
    obtain ⟨h1, t, j, h2, h3⟩ := hst k (by omega)
    rw [scn, if_pos h1, if_neg (by omega), h2]
    simp only []
    rw [h3]
    exact scn_many P N hst h4 m f (k + 1) (l ++ [t]) (by omega) (by omega) (by simp; omega)

theorem pk_sb (l : List Int) (h : ∀ c ∈ l, 0 ≤ c ∧ c < 256) (i : Nat) : pk (sb l) i = l.getD i 0 := by
  unfold pk
  by_cases hi : i < l.length
  · rw [if_pos (by rw [sb_size]; exact hi)]
    simp only [bt, sb, List.getElem?_toArray, List.getElem?_map, List.getElem?_eq_getElem hi, Option.map_some, Option.getD_some]
    have hb := h l[i] (List.getElem_mem hi)
    rw [List.getD_eq_getElem?_getD, List.getElem?_eq_getElem hi, Option.getD_some, UInt8.toNat_ofNat']
    omega
  · rw [if_neg (by rw [sb_size]; exact hi), List.getD_eq_getElem?_getD, List.getElem?_eq_none (by omega)]; rfl
theorem pk_lt_size {s : ByteArray} {i : Nat} (h : i < s.size) : pk s i = bt s i := by rw [pk, if_pos h]
/-- One step of what stands between tokens. -/
theorem skp_blank {s : ByteArray} {i : Nat} (h : i < s.size) (hb : pk s i = 32) : skp s i false = skp s (i + 1) false := by
  rw [pk_lt_size h] at hb
  rw [skp, dif_pos h, hb, if_neg (by decide), if_neg (by decide), if_neg (by decide)]
theorem skp_stop {s : ByteArray} {i : Nat} (h : blk (pk s i) = false) (h37 : pk s i ≠ 37) : skp s i false = i := by
  rw [skp]
  by_cases hlt : i < s.size
  · rw [pk_lt_size hlt] at h h37
    have h10 : bt s i ≠ 10 := fun e => by rw [e] at h; exact absurd h (by decide)
    rw [dif_pos hlt, if_neg h10, if_neg h37, if_pos ⟨rfl, h⟩]
  · rw [dif_neg hlt]

/-- So many times two bytes. -/
def rp (c d : Int) (k : Nat) : List Int := (List.range (2 * k)).map fun i => if i % 2 = 0 then c else d
theorem rp_len (c d : Int) (k : Nat) : (rp c d k).length = 2 * k := by simp [rp]
theorem rp_succ (c d : Int) (k : Nat) : rp c d (k + 1) = rp c d k ++ [c, d] := by
  rw [rp, show 2 * (k + 1) = 2 * k + 1 + 1 by omega, List.range_succ, List.range_succ]
  simp only [List.map_append, List.map_cons, List.map_nil, List.append_assoc]
  rw [if_pos (by omega), if_neg (by omega)]
  rfl
theorem rp_get (c d : Int) (k i : Nat) (h : i < 2 * k) : (rp c d k).getD i 0 = if i % 2 = 0 then c else d := by
  rw [List.getD_eq_getElem?_getD, List.getElem?_eq_getElem (by rw [rp_len]; exact h), Option.getD_some]
  simp [rp]
theorem rp_out (c d : Int) (k i : Nat) (h : 2 * k ≤ i) : (rp c d k).getD i 0 = 0 := by
  rw [List.getD_eq_getElem?_getD, List.getElem?_eq_none (by rw [rp_len]; exact h)]; rfl
theorem rp_bytes (c d : Int) (hc : 0 ≤ c ∧ c < 256) (hd : 0 ≤ d ∧ d < 256) (k : Nat) : ∀ x ∈ rp c d k, 0 ≤ x ∧ x < 256 := by
  intro x hx
  simp only [rp, List.mem_map] at hx
  obtain ⟨i, -, rfl⟩ := hx
  split
  · exact hc
  · exact hd

theorem tok_a {s : ByteArray} {i : Nat} (h : pk s i = 97) (h1 : pk s (i + 1) = 32) : ∃ t, tokV s i = .ok (t, i + 1) := by
  have e : span inN s i = i + 1 := by
    rw [(span_yes (p := inN) (s := s) (i := i) (by rw [h]; decide) rfl).2]
    exact span_no (by rw [h1]; decide)
  refine ⟨?_, ?_⟩
  rotate_left
  · rw [tokV, h, if_neg (by decide), if_neg (by decide), if_pos (by decide), e, if_neg (by omega)]
theorem tok_c {s : ByteArray} {i : Nat} (h : pk s i = 44) : ∃ t, tokV s i = .ok (t, i + 1) := by
  have e : sgn s i = some [44] := by
    simp [sgn, signs, List.find?, mts, h]
  refine ⟨?_, ?_⟩
  rotate_left
  · rw [tokV, h, if_neg (by decide), if_neg (by decide), if_neg (by decide), e]
    rfl
theorem many_a (n : Nat) (hn : n ≤ 8000) : (n ≤ 4000 → ∃ l, scanV (sb (rp 97 32 n)) = .ok l ∧ l.length = n) ∧ (4000 < n → scanV (sb (rp 97 32 n)) = .error (8000, 155)) := by
  have hz : (sb (rp 97 32 n)).size = 2 * n := by rw [sb_size, rp_len]
  have hp := pk_sb (rp 97 32 n) (rp_bytes 97 32 (by decide) (by decide) n)
  generalize sb (rp 97 32 n) = s at hz hp ⊢
  have h0 : ∀ k, k < n → pk s (2 * k) = 97 := fun k hk => by rw [hp, rp_get _ _ _ _ (by omega), if_pos (by omega)]
  have h1 : ∀ k, k < n → pk s (2 * k + 1) = 32 := fun k hk => by rw [hp, rp_get _ _ _ _ (by omega), if_neg (by omega)]
  have h2 : ∀ k, k ≤ n → skp s (2 * k) false = 2 * k := fun k hk => by
    by_cases hk2 : k < n
    · exact skp_stop (by rw [h0 k hk2]; decide) (by rw [h0 k hk2]; decide)
    · exact skp_stop (by rw [hp, rp_out _ _ _ _ (by omega)]; decide) (by rw [hp, rp_out _ _ _ _ (by omega)]; decide)
  have hst : ∀ k, k < n → 2 * k < s.size ∧ ∃ t j, tokV s (2 * k) = .ok (t, j) ∧ skp s j false = 2 * (k + 1) := fun k hk => by
    obtain ⟨t, ht⟩ := tok_a (h0 k hk) (h1 k hk)
    refine ⟨by omega, t, _, ht, ?_⟩
    rw [skp_blank (by omega) (h1 k hk), show 2 * k + 1 + 1 = 2 * (k + 1) by omega, h2 (k + 1) (by omega)]
  have hs0 : scanV s = scn s (s.size + 1) (2 * 0) [] := by rw [scanV, if_neg (by omega), h2 0 (by omega)]
  rw [hs0]
  exact ⟨fun h => scn_ok (fun k => 2 * k) n (by omega) hst h n _ 0 [] (by omega) (by omega) rfl, fun h => scn_many (fun k => 2 * k) n hst h 4000 _ 0 [] (by omega) (by omega) rfl⟩
theorem many_c (n : Nat) (hn : n ≤ 4000) : (2 * n ≤ 4000 → ∃ l, scanV (sb (rp 44 44 n)) = .ok l ∧ l.length = 2 * n) ∧ (4000 < 2 * n → scanV (sb (rp 44 44 n)) = .error (4000, 155)) := by
  have hz : (sb (rp 44 44 n)).size = 2 * n := by rw [sb_size, rp_len]
  have hp := pk_sb (rp 44 44 n) (rp_bytes 44 44 (by decide) (by decide) n)
  generalize sb (rp 44 44 n) = s at hz hp ⊢
  have h0 : ∀ k, k < 2 * n → pk s k = 44 := fun k hk => by rw [hp, rp_get _ _ _ _ hk]; split <;> rfl
  have h2 : ∀ k, k ≤ 2 * n → skp s k false = k := fun k hk => by
    by_cases hk2 : k < 2 * n
    · exact skp_stop (by rw [h0 k hk2]; decide) (by rw [h0 k hk2]; decide)
    · exact skp_stop (by rw [hp, rp_out _ _ _ _ (by omega)]; decide) (by rw [hp, rp_out _ _ _ _ (by omega)]; decide)
  have hst : ∀ k, k < 2 * n → k < s.size ∧ ∃ t j, tokV s k = .ok (t, j) ∧ skp s j false = k + 1 := fun k hk => by
    obtain ⟨t, ht⟩ := tok_c (h0 k hk)
    exact ⟨by omega, t, _, ht, h2 (k + 1) (by omega)⟩
  have hs0 : scanV s = scn s (s.size + 1) 0 [] := by rw [scanV, if_neg (by omega), h2 0 (by omega)]
  rw [hs0]
  exact ⟨fun h => scn_ok (fun k => k) (2 * n) (by omega) hst h (2 * n) _ 0 [] (by omega) (by omega) rfl, fun h => scn_many (fun k => k) (2 * n) hst h 4000 _ 0 [] (by omega) (by omega) rfl⟩
end Go.Proofs.YtbmbgnmkakkpfaaDoor

namespace Go.Proofs.YtbmbgnmkakkpfaaDoor
open Go.RowKit Go.Maps

/-- From j on u has the bytes that s has from i on, so many. -/
def Sh (u : ByteArray) (j : Nat) (s : ByteArray) (i d : Nat) : Prop := ∀ k, k < d → pk u (j + k) = pk s (i + k)
/-- A token may stop ahead of this byte. -/
def Stp (c e : Int) : Prop := c = e ∨ c = 32 ∨ c = 10
theorem span_end (p : Int → Bool) (h0 : p 0 = false) (s : ByteArray) (i : Nat) : p (pk s (span p s i)) = false := by
  fun_induction span p s i with
  | case1 i hlt hp ih => exact ih
  | case2 i hlt hp => rw [pk_lt_size hlt]; simpa using hp
  | case3 i hlt => rw [pk, if_neg hlt]; exact h0
theorem span_to {p : Int → Bool} (h0 : p 0 = false) {s : ByteArray} : ∀ (d i : Nat), (∀ k, k < d → p (pk s (i + k)) = true) → p (pk s (i + d)) = false → span p s i = i + d
  | 0, i, _, h => span_no h
  | d + 1, i, h1, h => by
    have := (span_yes (p := p) (s := s) (i := i) (h1 0 (by omega)) h0).2
    rw [this, span_to h0 d (i + 1) (fun k hk => by have := h1 (k + 1) (by omega); rwa [show i + 1 + k = i + (k + 1) by omega]) (by rwa [show i + 1 + d = i + (d + 1) by omega])]
    omega
theorem span_in {p : Int → Bool} {s : ByteArray} {i : Nat} (hi : i ≤ s.size) (k : Nat) (hk : k < span p s i - i) : p (pk s (i + k)) = true := by
  have h1 := span_all (p := p) (s := s) (i := i) (i + k) (by omega) (by omega)
  have h2 := span_le (p := p) (s := s) (i := i) hi
  rw [pk_lt_size (by omega)]; exact h1
theorem ext_sh {u s : ByteArray} {j i d : Nat} (h : Sh u j s i d) (h1 : j + d ≤ u.size) (h2 : i + d ≤ s.size) : u.extract j (j + d) = s.extract i (i + d) := by
  apply ba_ext
  · rw [size_ext u j _ h1, size_ext s i _ h2]; omega
  · intro k hk
    rw [size_ext u j _ h1] at hk
    rw [bt_ext u j _ k h1 hk, bt_ext s i _ k h2 (by omega)]
    have := h k (by omega)
    rwa [pk_lt_size (by omega), pk_lt_size (by omega)] at this
theorem Sh.fits {u s : ByteArray} {j i d : Nat} (h : Sh u j s i d) (hd : 0 < d) (hn : pk s (i + (d - 1)) ≠ 0) : j + d ≤ u.size := by
  have := lt_of_pk (s := u) (i := j + (d - 1)) (by rw [h (d - 1) (by omega)]; exact hn)
  omega
theorem Sh.mono {u s : ByteArray} {j i d d' : Nat} (h : Sh u j s i d) (hd : d' ≤ d) : Sh u j s i d' := fun k hk => h k (by omega)
theorem Sh.shift {u s : ByteArray} {j i d : Nat} (h : Sh u j s i d) (e : Nat) (d' : Nat) (hd : e + d' ≤ d) : Sh u (j + e) s (i + e) d' := fun k hk => by
  have := h (e + k) (by omega)
  rwa [← Nat.add_assoc, ← Nat.add_assoc] at this

theorem esc_sh {u s : ByteArray} {j i : Nat} {c : Int} {n : Nat} (h : esc s i = some (c, n)) (hs : Sh u j s i (n - i)) : esc u j = some (c, j + (n - i)) := by
  unfold esc at h
  by_cases h1 : pk s i = 110
  · rw [if_pos h1] at h; cases h
    have e := hs 0 (by omega)
    simp only [Nat.add_zero] at e
    rw [esc, e, if_pos h1]; congr 2; omega
  rw [if_neg h1] at h
  by_cases h2 : pk s i = 116
  · rw [if_pos h2] at h; cases h
    have e := hs 0 (by omega)
    simp only [Nat.add_zero] at e
    rw [esc, e, if_neg h1, if_pos h2]; congr 2; omega
  rw [if_neg h2] at h
  by_cases h3 : pk s i = 92
  · rw [if_pos h3] at h; cases h
    have e := hs 0 (by omega)
    simp only [Nat.add_zero] at e
    rw [esc, e, if_neg h1, if_neg h2, if_pos h3]; congr 2; omega
  rw [if_neg h3] at h
  by_cases h4 : pk s i = 34
  · rw [if_pos h4] at h; cases h
    have e := hs 0 (by omega)
    simp only [Nat.add_zero] at e
    rw [esc, e, if_neg h1, if_neg h2, if_neg h3, if_pos h4]; congr 2; omega
  rw [if_neg h4] at h
  by_cases h5 : pk s i = 120
  · rw [if_pos h5] at h
    by_cases h6 : 0 ≤ hexv (pk s (i + 1)) ∧ 0 ≤ hexv (pk s (i + 2))
    · rw [if_pos h6] at h; cases h
      have e := hs 0 (by omega)
      simp only [Nat.add_zero] at e
      rw [esc, e, if_neg h1, if_neg h2, if_neg h3, if_neg h4, if_pos h5, hs 1 (by omega), hs 2 (by omega), if_pos h6]
      congr 2; omega
    · rw [if_neg h6] at h; cases h
  · rw [if_neg h5] at h; cases h
theorem esc_gt {s : ByteArray} {i n : Nat} {c : Int} (h : esc s i = some (c, n)) : i < n := by
  unfold esc at h
  repeat' split at h
  all_goals first
    | (cases h; done)
    | (cases h; omega)
theorem one_sh {u s : ByteArray} {j i : Nat} {c : Int} {n : Nat} (h : one s i = some (c, n)) (hs : Sh u j s i (n - i)) : one u j = some (c, j + (n - i)) := by
  have hgt := (one_ok h).1
  have e := hs 0 (by omega)
  simp only [Nat.add_zero] at e
  unfold one at h
  by_cases h1 : pk s i = 92
  · rw [if_pos h1] at h
    have hg := esc_gt h
    have := esc_sh (u := u) (j := j + 1) h (by have := hs.shift 1 (n - (i + 1)) (by omega); exact this)
    rw [one, e, if_pos h1, this]; congr 2; omega
  · rw [if_neg h1] at h
    by_cases h2 : shw (pk s i) = true
    · rw [if_pos h2] at h
      cases h
      rw [one, e, if_neg h1, if_pos h2]; congr 2; omega
    · rw [if_neg h2] at h; cases h
theorem qts_sh {u s : ByteArray} : ∀ (f i : Nat) (l m : List Int) (n : Nat), qts s f i l = some (m, n) → ∀ (g j : Nat), n - i ≤ g → Sh u j s i (n - i) → qts u g j l = some (m, j + (n - i))
  | 0, i, l, m, n, h, g, j, hg, hs => by cases h
  | f + 1, i, l, m, n, h, g, j, hg, hs => by
    have hb := qts_ok _ _ _ _ _ h
    obtain ⟨g, rfl⟩ : ∃ k, g = k + 1 := ⟨g - 1, by omega⟩
    have e := hs 0 (by omega)
    simp only [Nat.add_zero] at e
    rw [qts] at h
    by_cases h1 : pk s i = 34
    · rw [if_pos h1] at h
      cases h
      rw [qts, e, if_pos h1]; congr 2; omega
    · rw [if_neg h1] at h
      cases ho : one s i with
      | none => rw [ho] at h; cases h
      | some p =>
        obtain ⟨c, k⟩ := p
        rw [ho] at h
        have h2 := one_ok ho
        have h3 := qts_ok _ _ _ _ _ h
        have := one_sh (u := u) (j := j) ho (hs.mono (by omega))
        rw [qts, e, if_neg h1, this]
        simp only []
        have h4 := qts_sh f k (l ++ [c]) m n h g (j + (k - i)) (by omega) (by have := hs.shift (k - i) (n - k) (by omega); rwa [show i + (k - i) = k by omega] at this)
        rw [h4]; congr 2; omega

theorem qts_last {s : ByteArray} : ∀ (f i : Nat) (l m : List Int) (n : Nat), qts s f i l = some (m, n) → pk s (n - 1) = 34
  | 0, i, l, m, n, h => by cases h
  | f + 1, i, l, m, n, h => by
    rw [qts] at h
    by_cases h1 : pk s i = 34
    · rw [if_pos h1] at h; cases h; exact h1
    · rw [if_neg h1] at h
      cases ho : one s i with
      | none => rw [ho] at h; cases h
      | some p => rw [ho] at h; exact qts_last f _ _ _ _ h

/-! ### Signs -/
def m2 (x y : Int) : List Int → Bool
  | [a] => x == a
  | [a, b] => (x == a) && (y == b)
  | _ => false
def sg2 (x y : Int) : Option (List Int) := signs.find? (m2 x y)
theorem signs_short : ∀ g ∈ signs, g.length = 1 ∨ g.length = 2 := by decide +kernel
theorem mts_m2 (s : ByteArray) (i : Nat) (g : List Int) (h : g.length = 1 ∨ g.length = 2) : mts s i g = m2 (pk s i) (pk s (i + 1)) g := by
  match g, h with
  | [a], _ => simp [mts, m2]
  | [a, b], _ => simp [mts, m2]
theorem find_alike {p q : List Int → Bool} : ∀ l : List (List Int), (∀ g ∈ l, p g = q g) → l.find? p = l.find? q
  | [], _ => rfl
  | g :: l, h => by rw [List.find?_cons, List.find?_cons, h g (by simp), find_alike l (fun x hx => h x (by simp [hx]))]
theorem sgn_sg2 (s : ByteArray) (i : Nat) : sgn s i = sg2 (pk s i) (pk s (i + 1)) := find_alike signs (fun g hg => mts_m2 s i g (signs_short g hg))
theorem sg2_one : ∀ g ∈ signs, g.length = 1 → sg2 (g.getD 0 0) 32 = some g ∧ sg2 (g.getD 0 0) 10 = some g := by decide +kernel
theorem sgn_sh {u s : ByteArray} {j i : Nat} {l : List Int} (h : sgn s i = some l) (hi : i ≤ s.size) (hs : Sh u j s i l.length) (hn : Stp (pk u (j + l.length)) (pk s (i + l.length))) : sgn u j = some l := by
  obtain ⟨h1, h2, h3, h4⟩ := sgn_ok h hi
  have e := hs 0 (by omega)
  simp only [Nat.add_zero] at e
  rw [sgn_sg2] at h ⊢
  rw [e]
  rcases signs_short l h1 with h5 | h5
  · rw [h5] at hn
    have h6 : pk s i = l.getD 0 0 := by have := mts_get l i h2 0 (by omega); simpa using this
    rcases hn with hn | hn | hn
    · rw [hn]; exact h
    · rw [hn, h6]; exact (sg2_one l h1 h5).1
    · rw [hn, h6]; exact (sg2_one l h1 h5).2
  · rw [hs 1 (by omega)]; exact h

theorem stp_no {p : Int → Bool} {c e : Int} (h : Stp c e) (he : p e = false) (h1 : p 32 = false) (h2 : p 10 = false) : p c = false := by
  rcases h with rfl | rfl | rfl
  · exact he
  · exact h1
  · exact h2
theorem inN_dig_no {c : Int} (h : inN c = false) : dig c = false := by
  simp [inN] at h; exact h.2

/-- The same bytes elsewhere are the same token. -/
theorem tok_sh {u s : ByteArray} {j i n : Nat} {t : Tok} (hi : i < s.size) (h : tokV s i = .ok (t, n)) (hs : Sh u j s i (n - i)) (hn : Stp (pk u (j + (n - i))) (pk s n)) :
    tokV u j = .ok ({ t with at' := j }, j + (n - i)) := by
  obtain ⟨o1, o2, -, -⟩ := tokV_ok hi h
  have e := hs 0 (by omega)
  simp only [Nat.add_zero] at e
  have hni : i + (n - i) = n := by omega
  unfold tokV at h
  by_cases h1 : dig (pk s i) = true
  · rw [if_pos h1] at h
    have hse := span_end dig rfl s i
    by_cases h2 : 4611686018427387903 < dvx s i (span dig s i) ∨ inN (pk s (span dig s i)) = true
    · rw [if_pos h2] at h; cases h
    rw [if_neg h2] at h
    cases h
    have hin : ∀ k, k < span dig s i - i → dig (pk s (i + k)) = true := fun k hk => span_in (by omega) k hk
    have hnz : pk s (i + (span dig s i - i - 1)) ≠ 0 := fun e => by have := hin (span dig s i - i - 1) (by omega); rw [e] at this; exact absurd this (by decide)
    have hfit := hs.fits (by omega) hnz
    have hu : span dig u j = j + (span dig s i - i) := span_to rfl _ j (fun k hk => by rw [hs k hk]; exact hin k hk) (stp_no hn hse rfl rfl)
    have hx := ext_sh hs hfit (by omega)
    rw [hni] at hx
    have hno : inN (pk s (span dig s i)) = false := by simpa using fun e => h2 (.inr e)
    have hd : dvx u j (j + (span dig s i - i)) = dvx s i (span dig s i) := by rw [dvx, hx]; rfl
    rw [tokV, e, if_pos h1, hu, hd, if_neg]
    · rintro (h3 | h3)
      · exact h2 (.inl h3)
      · rw [stp_no (p := inN) hn hno rfl rfl] at h3; cases h3
  rw [if_neg h1] at h
  by_cases h2 : pk s i = 34
  · rw [if_pos h2] at h
    cases hq : qtd s i with
    | none => rw [hq] at h; cases h
    | some p =>
      obtain ⟨l, k⟩ := p
      rw [hq] at h
      cases h
      have hb := qts_ok _ _ _ _ _ hq
      have h34 : pk s (i + (n - i - 1)) ≠ 0 := by
        rw [show i + (n - i - 1) = n - 1 by omega, qts_last _ _ _ _ _ hq]; decide
      have hfit := hs.fits (by omega) h34
      have := qts_sh (u := u) _ _ _ _ _ hq (u.size + 1) (j + 1) (by omega) (by have := hs.shift 1 (n - (i + 1)) (by omega); exact this)
      rw [tokV, e, if_neg h1, if_pos h2, qtd, this]
      simp only []
      congr 2; omega
  rw [if_neg h2] at h
  by_cases h3 : low (pk s i) = true ∨ vab (pk s i) = true
  · rw [if_pos h3] at h
    by_cases h4 : 32 < span inN s i - i
    · rw [if_pos h4] at h; cases h
    rw [if_neg h4] at h
    cases h
    have hse := span_end inN rfl s i
    have hin : ∀ k, k < span inN s i - i → inN (pk s (i + k)) = true := fun k hk => span_in (by omega) k hk
    have hnz : pk s (i + (span inN s i - i - 1)) ≠ 0 := fun e => by have := hin (span inN s i - i - 1) (by omega); rw [e] at this; exact absurd this (by decide)
    have hfit := hs.fits (by omega) hnz
    have hu : span inN u j = j + (span inN s i - i) := span_to rfl _ j (fun k hk => by rw [hs k hk]; exact hin k hk) (stp_no hn hse rfl rfl)
    have hx := ext_sh hs hfit (by omega)
    rw [hni] at hx
    rw [tokV, e, if_neg h1, if_neg h2, if_pos h3, hu, hx, if_neg (by omega)]
  rw [if_neg h3] at h
  cases hq : sgn s i with
  | none => rw [hq] at h; cases h
  | some l =>
    rw [hq] at h
    cases h
    have hl : i + l.length - i = l.length := by omega
    rw [hl] at hs hn ⊢
    rw [tokV, e, if_neg h1, if_neg h2, if_neg h3, sgn_sh hq (by omega) hs hn]
end Go.Proofs.YtbmbgnmkakkpfaaDoor

namespace Go.Proofs.YtbmbgnmkakkpfaaDoor
open Go.RowKit Go.Maps

theorem scn_fuel {s : ByteArray} : ∀ (f g i : Nat) (l : List Tok), s.size < f + i → s.size < g + i → scn s f i l = scn s g i l
  | 0, g, i, l, hf, hg => by
    cases g with
    | zero => rfl
    | succ g => rw [scn, scn, if_neg (by omega)]
  | f + 1, 0, i, l, hf, hg => by rw [scn, scn, if_neg (by omega)]
  | f + 1, g + 1, i, l, hf, hg => by
    rw [scn, scn]
    by_cases hlt : i < s.size
    · rw [if_pos hlt, if_pos hlt]
      cases ht : tokV s i with
      | error c => rfl
      | ok p =>
        obtain ⟨t, j⟩ := p
        have o := tokV_ok hlt ht
        have n := skp_ge s j false
        simp only []
        rw [scn_fuel f g (skp s j false) (l ++ [t]) (by omega) (by omega)]
    · rw [if_neg hlt, if_neg hlt]
/-- The tokens from i on, behind those that are there. -/
def scb (s : ByteArray) (i : Nat) (l : List Tok) : Except (Nat × Int) (List Tok) := scn s (s.size + 1) i l
theorem scb_end {s : ByteArray} {i : Nat} {l : List Tok} (h : s.size ≤ i) : scb s i l = .ok l := by rw [scb, scn, if_neg (by omega)]
theorem scb_tok {s : ByteArray} {i j : Nat} {l : List Tok} {t : Tok} (h : i < s.size) (hl : l.length ≠ 4000) (ht : tokV s i = .ok (t, j)) : scb s i l = scb s (skp s j false) (l ++ [t]) := by
  have o := tokV_ok h ht
  have n := skp_ge s j false
  rw [scb, scn, if_pos h, if_neg hl, ht]
  exact scn_fuel _ _ _ _ (by omega) (by omega)
/-- What an answer without an error shows of its first step. -/
theorem scb_ok {s : ByteArray} {i : Nat} {l m : List Tok} (h : i < s.size) (hm : scb s i l = .ok m) : l.length ≠ 4000 ∧ ∃ t j, tokV s i = .ok (t, j) ∧ scb s (skp s j false) (l ++ [t]) = .ok m := by
  have hm' := hm
  rw [scb, scn, if_pos h] at hm'
  by_cases hl : l.length = 4000
  · rw [if_pos hl] at hm'; cases hm'
  · rw [if_neg hl] at hm'
    cases ht : tokV s i with
    | error c => rw [ht] at hm'; cases hm'
    | ok p => exact ⟨hl, p.1, p.2, rfl, by rw [← scb_tok h hl ht]; exact hm⟩
theorem scanV_scb {s : ByteArray} (h : s.size ≤ 16384) : scanV s = scb s (skp s 0 false) [] := by rw [scanV, if_neg (by omega)]; rfl

/-- u is a, a line's end, and b. -/
structure Jn (a b u : ByteArray) : Prop where
  size : u.size = a.size + 1 + b.size
  fst : ∀ k, k < a.size → pk u k = pk a k
  mid : pk u a.size = 10
  snd : ∀ k, pk u (a.size + 1 + k) = pk b k
theorem skp_def (s : ByteArray) (i : Nat) (n : Bool) (h : i < s.size) : skp s i n = if pk s i = 10 then skp s (i + 1) false else if pk s i = 37 then skp s (i + 1) true else if n = false ∧ blk (pk s i) = false then i else skp s (i + 1) n := by
  rw [skp, dif_pos h, pk_lt_size h]
theorem skp_out (s : ByteArray) (i : Nat) (n : Bool) (h : s.size ≤ i) : skp s i n = i := by rw [skp, dif_neg (by omega)]
theorem Jn.nl {a b u : ByteArray} (h : Jn a b u) (n : Bool) : skp u a.size n = skp u (a.size + 1) false := by
  have := h.size
  rw [skp_def u a.size n (by omega), h.mid, if_pos rfl]
theorem Jn.skp1 {a b u : ByteArray} (h : Jn a b u) (i : Nat) (n : Bool) (hi : i ≤ a.size) : skp u i n = if skp a i n < a.size then skp a i n else skp u (a.size + 1) false := by
  have hz := h.size
  fun_induction skp a i n with
  | case1 i n hlt h1 ih =>
    have e := h.fst i hlt
    rw [pk_lt_size hlt] at e
    rw [skp_def u i n (by omega), e, if_pos h1]; exact ih (by omega)
  | case2 i n hlt h1 h2 ih =>
    have e := h.fst i hlt
    rw [pk_lt_size hlt] at e
    rw [skp_def u i n (by omega), e, if_neg h1, if_pos h2]; exact ih (by omega)
  | case3 i n hlt h1 h2 h3 =>
    have e := h.fst i hlt
    rw [pk_lt_size hlt] at e
    rw [skp_def u i n (by omega), e, if_neg h1, if_neg h2, if_pos h3, if_pos hlt]
  | case4 i n hlt h1 h2 h3 ih =>
    have e := h.fst i hlt
    rw [pk_lt_size hlt] at e
    rw [skp_def u i n (by omega), e, if_neg h1, if_neg h2, if_neg h3]; exact ih (by omega)
  | case5 i n hlt =>
    have : i = a.size := by omega
    subst this
    rw [if_neg (by omega)]; exact h.nl n
theorem Jn.skp2 {a b u : ByteArray} (h : Jn a b u) (i : Nat) (n : Bool) : skp u (a.size + 1 + i) n = a.size + 1 + skp b i n := by
  have hz := h.size
  fun_induction skp b i n with
  | case1 i n hlt h1 ih =>
    have e := h.snd i
    rw [pk_lt_size hlt] at e
    rw [skp_def u _ n (by omega), e, if_pos h1]; exact ih
  | case2 i n hlt h1 h2 ih =>
    have e := h.snd i
    rw [pk_lt_size hlt] at e
    rw [skp_def u _ n (by omega), e, if_neg h1, if_pos h2]; exact ih
  | case3 i n hlt h1 h2 h3 =>
    have e := h.snd i
    rw [pk_lt_size hlt] at e
    rw [skp_def u _ n (by omega), e, if_neg h1, if_neg h2, if_pos h3]
  | case4 i n hlt h1 h2 h3 ih =>
    have e := h.snd i
    rw [pk_lt_size hlt] at e
    rw [skp_def u _ n (by omega), e, if_neg h1, if_neg h2, if_neg h3]; exact ih
  | case5 i n hlt => exact skp_out _ _ _ (by omega)
/-- The first text's tokens. -/
theorem Jn.go1 {a b u : ByteArray} (h : Jn a b u) : ∀ (m i : Nat) (l x : List Tok), a.size < m + i → i ≤ a.size → scb a i l = .ok x → scb u (if i < a.size then i else skp u (a.size + 1) false) l = scb u (skp u (a.size + 1) false) x
  | 0, i, l, x, hm, hi, hx => by omega
  | m + 1, i, l, x, hm, hi, hx => by
    have hz := h.size
    by_cases hlt : i < a.size
    · obtain ⟨hl, t, j, ht, hx2⟩ := scb_ok hlt hx
      obtain ⟨o1, o2, o3, o4⟩ := tokV_ok hlt ht
      have hsh : Sh u i a i (j - i) := fun k hk => h.fst (i + k) (by omega)
      have hst : Stp (pk u (i + (j - i))) (pk a j) := by
        rw [show i + (j - i) = j by omega]
        by_cases hj : j < a.size
        · exact .inl (h.fst j hj)
        · have : j = a.size := by omega
          subst this
          exact .inr (.inr h.mid)
      have ht2 := tok_sh hlt ht hsh hst
      rw [show i + (j - i) = j by omega, show ({ t with at' := i } : Tok) = t by rw [← o3]] at ht2
      rw [if_pos hlt, scb_tok (by omega) hl ht2, h.skp1 j false o2]
      exact h.go1 m (skp a j false) (l ++ [t]) x (by have := skp_ge a j false; omega) (skp_le false o2) hx2
    · rw [if_neg hlt]
      rw [scb_end (by omega)] at hx
      cases hx; rfl
/-- A token at another place. -/
def mv (d : Nat) (t : Tok) : Tok := { t with at' := d + t.at' }
theorem scb_len {s : ByteArray} {i : Nat} {l m : List Tok} (h : scb s i l = .ok m) : l.length ≤ m.length := by
  have : ∀ (f i : Nat) (l m : List Tok), scn s f i l = .ok m → l.length ≤ m.length := by
    intro f
    induction f with
    | zero => intro i l m h; cases h; exact Nat.le_refl _
    | succ f ih =>
      intro i l m h
      rw [scn] at h
      by_cases hlt : i < s.size
      · rw [if_pos hlt] at h
        split at h
        · cases h
        · cases ht : tokV s i with
          | error c => rw [ht] at h; cases h
          | ok p =>
            rw [ht] at h
            have := ih _ _ _ h
            simp at this; omega
      · rw [if_neg hlt] at h; cases h; exact Nat.le_refl _
  exact this _ _ _ _ h
theorem Jn.go2 {a b u : ByteArray} (h : Jn a b u) (x : List Tok) (y : List Tok) (hxy : x.length + y.length ≤ 4000) : ∀ (m i : Nat) (l : List Tok), b.size < m + i → i ≤ b.size → scb b i l = .ok y → scb u (a.size + 1 + i) (x ++ l.map (mv (a.size + 1))) = .ok (x ++ y.map (mv (a.size + 1)))
  | 0, i, l, hm, hi, hx => by omega
  | m + 1, i, l, hm, hi, hx => by
    have hz := h.size
    by_cases hlt : i < b.size
    · obtain ⟨hl, t, j, ht, hx2⟩ := scb_ok hlt hx
      obtain ⟨o1, o2, o3, o4⟩ := tokV_ok hlt ht
      have hsh : Sh u (a.size + 1 + i) b i (j - i) := fun k hk => by rw [Nat.add_assoc]; exact h.snd (i + k)
      have hst : Stp (pk u (a.size + 1 + i + (j - i))) (pk b j) := .inl (by rw [show a.size + 1 + i + (j - i) = a.size + 1 + j by omega]; exact h.snd j)
      have ht2 := tok_sh hlt ht hsh hst
      rw [show a.size + 1 + i + (j - i) = a.size + 1 + j by omega] at ht2
      have hlen := scb_len hx2
      simp at hlen
      rw [scb_tok (by omega) (by simp; omega) ht2, h.skp2 j false]
      have := h.go2 x y hxy m (skp b j false) (l ++ [t]) (by have := skp_ge b j false; omega) (skp_le false o2) hx2
      rw [← this]
      congr 1
      simp [mv, o3]
    · rw [scb_end (by omega)] at hx
      cases hx
      exact scb_end (by omega)
theorem joined {a b u : ByteArray} (h : Jn a b u) (x y : List Tok) (hx : scanV a = .ok x) (hy : scanV b = .ok y) (hz : a.size + b.size + 1 ≤ 16384) (hl : x.length + y.length ≤ 4000) : scanV u = .ok (x ++ y.map (mv (a.size + 1))) := by
  have hs := h.size
  rw [scanV_scb (by omega)] at hx hy ⊢
  rw [h.skp1 0 false (Nat.zero_le _), h.go1 (a.size + 1) (skp a 0 false) [] x (by omega) (skp_le false (Nat.zero_le _)) hx]
  have := h.skp2 0 false
  rw [Nat.add_zero] at this
  rw [this]
  have g := h.go2 x y hl (b.size + 1) (skp b 0 false) [] (by omega) (skp_le false (Nat.zero_le _)) hy
  simpa using g
end Go.Proofs.YtbmbgnmkakkpfaaDoor
