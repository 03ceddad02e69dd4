/-
  LexMany: 4000 tokens, and not one more.
-/
import Derived.Test.YtbmbgnmkakkpfaaDoorO
set_option linter.unusedVariables false
set_option linter.unusedSimpArgs false
namespace Go.Proofs.YtbmbgnmkakkpfaaDoor
open Go.RowKit Go.Maps

/-! ### Tokens one behind the other, at known places -/
theorem scn_ok {s : ByteArray} (P : Nat → Nat) (N : Nat) (hN : P N = s.size) (hst : ∀ k, k < N → P k < s.size ∧ ∃ t j, tokV s (P k) = .ok (t, j) ∧ skp s j false = P (k + 1)) (h4 : N ≤ 4000) :
    ∀ (m f k : Nat) (l : List Tok), k + m = N → m < f → l.length = k → ∃ l', scn s f (P k) l = .ok l' ∧ l'.length = N
  | 0, f, k, l, hk, hf, hl => by
    obtain ⟨f, rfl⟩ : ∃ g, f = g + 1 := ⟨f - 1, by omega⟩
    have : k = N := by omega
    subst this
    rw [scn, if_neg (by omega)]
    exact ⟨l, rfl, hl⟩
  | m + 1, f, k, l, hk, hf, hl => by
    obtain ⟨f, rfl⟩ : ∃ g, f = g + 1 := ⟨f - 1, by omega⟩
    obtain ⟨h1, t, j, h2, h3⟩ := hst k (by omega)
    rw [scn, if_pos h1, if_neg (by omega), h2]
    simp only []
    rw [h3]
    exact scn_ok P N hN hst h4 m f (k + 1) (l ++ [t]) (by omega) (by omega) (by simp; omega)
theorem scn_many {s : ByteArray} (P : Nat → Nat) (N : Nat) (hst : ∀ k, k < N → P k < s.size ∧ ∃ t j, tokV s (P k) = .ok (t, j) ∧ skp s j false = P (k + 1)) (h4 : 4000 < N) :
    ∀ (m f k : Nat) (l : List Tok), k + m = 4000 → m < f → l.length = k → scn s f (P k) l = .error (P 4000, 155)
  | 0, f, k, l, hk, hf, hl => by
    obtain ⟨f, rfl⟩ : ∃ g, f = g + 1 := ⟨f - 1, by omega⟩
    have : k = 4000 := by omega
    subst this
    rw [scn, if_pos (hst 4000 h4).1, if_pos hl]
  | m + 1, f, k, l, hk, hf, hl => by
    obtain ⟨f, rfl⟩ : ∃ g, f = g + 1 := ⟨f - 1, by omega⟩
    obtain ⟨h1, t, j, h2, h3⟩ := hst k (by omega)
    rw [scn, if_pos h1, if_neg (by omega), h2]
    simp only []
    rw [h3]
    exact scn_many P N hst h4 m f (k + 1) (l ++ [t]) (by omega) (by omega) (by simp; omega)

theorem pk_sb (l : List Int) (h : ∀ c ∈ l, 0 ≤ c ∧ c < 256) (i : Nat) : pk (sb l) i = l.getD i 0 := by
  unfold pk
  by_cases hi : i < l.length
  · rw [if_pos (by rw [sb_size]; exact hi)]
    simp only [bt, sb, List.getElem?_toArray, List.getElem?_map, List.getElem?_eq_getElem hi, Option.map_some, Option.getD_some]
    have hb := h l[i] (List.getElem_mem hi)
    rw [List.getD_eq_getElem?_getD, List.getElem?_eq_getElem hi, Option.getD_some, UInt8.toNat_ofNat']
    omega
  · rw [if_neg (by rw [sb_size]; exact hi), List.getD_eq_getElem?_getD, List.getElem?_eq_none (by omega)]; rfl
theorem pk_lt_size {s : ByteArray} {i : Nat} (h : i < s.size) : pk s i = bt s i := by rw [pk, if_pos h]
/-- One step of what stands between tokens. -/
theorem skp_blank {s : ByteArray} {i : Nat} (h : i < s.size) (hb : pk s i = 32) : skp s i false = skp s (i + 1) false := by
  rw [pk_lt_size h] at hb
  rw [skp, dif_pos h, hb, if_neg (by decide), if_neg (by decide), if_neg (by decide)]
theorem skp_stop {s : ByteArray} {i : Nat} (h : blk (pk s i) = false) (h37 : pk s i ≠ 37) : skp s i false = i := by
  rw [skp]
  by_cases hlt : i < s.size
  · rw [pk_lt_size hlt] at h h37
    have h10 : bt s i ≠ 10 := fun e => by rw [e] at h; exact absurd h (by decide)
    rw [dif_pos hlt, if_neg h10, if_neg h37, if_pos ⟨rfl, h⟩]
  · rw [dif_neg hlt]

/-- So many times two bytes. -/
def rp (c d : Int) (k : Nat) : List Int := (List.range (2 * k)).map fun i => if i % 2 = 0 then c else d
theorem rp_len (c d : Int) (k : Nat) : (rp c d k).length = 2 * k := by simp [rp]
theorem rp_succ (c d : Int) (k : Nat) : rp c d (k + 1) = rp c d k ++ [c, d] := by
  rw [rp, show 2 * (k + 1) = 2 * k + 1 + 1 by omega, List.range_succ, List.range_succ]
  simp only [List.map_append, List.map_cons, List.map_nil, List.append_assoc]
  rw [if_pos (by omega), if_neg (by omega)]
  rfl
theorem rp_get (c d : Int) (k i : Nat) (h : i < 2 * k) : (rp c d k).getD i 0 = if i % 2 = 0 then c else d := by
  rw [List.getD_eq_getElem?_getD, List.getElem?_eq_getElem (by rw [rp_len]; exact h), Option.getD_some]
  simp [rp]
theorem rp_out (c d : Int) (k i : Nat) (h : 2 * k ≤ i) : (rp c d k).getD i 0 = 0 := by
  rw [List.getD_eq_getElem?_getD, List.getElem?_eq_none (by rw [rp_len]; exact h)]; rfl
theorem rp_bytes (c d : Int) (hc : 0 ≤ c ∧ c < 256) (hd : 0 ≤ d ∧ d < 256) (k : Nat) : ∀ x ∈ rp c d k, 0 ≤ x ∧ x < 256 := by
  intro x hx
  simp only [rp, List.mem_map] at hx
  obtain ⟨i, -, rfl⟩ := hx
  split
  · exact hc
  · exact hd

theorem tok_a {s : ByteArray} {i : Nat} (h : pk s i = 97) (h1 : pk s (i + 1) = 32) : ∃ t, tokV s i = .ok (t, i + 1) := by
  have e : span inN s i = i + 1 := by
    rw [(span_yes (p := inN) (s := s) (i := i) (by rw [h]; decide) rfl).2]
    exact span_no (by rw [h1]; decide)
  refine ⟨?_, ?_⟩
  rotate_left
  · rw [tokV, h, if_neg (by decide), if_neg (by decide), if_pos (by decide), e, if_neg (by omega)]
theorem tok_c {s : ByteArray} {i : Nat} (h : pk s i = 44) : ∃ t, tokV s i = .ok (t, i + 1) := by
  have e : sgn s i = some [44] := by
    simp [sgn, signs, List.find?, mts, h]
  refine ⟨?_, ?_⟩
  rotate_left
  · rw [tokV, h, if_neg (by decide), if_neg (by decide), if_neg (by decide), e]
    rfl
theorem many_a (n : Nat) (hn : n ≤ 8000) : (n ≤ 4000 → ∃ l, scanV (sb (rp 97 32 n)) = .ok l ∧ l.length = n) ∧ (4000 < n → scanV (sb (rp 97 32 n)) = .error (8000, 155)) := by
  have hz : (sb (rp 97 32 n)).size = 2 * n := by rw [sb_size, rp_len]
  have hp := pk_sb (rp 97 32 n) (rp_bytes 97 32 (by decide) (by decide) n)
  generalize sb (rp 97 32 n) = s at hz hp ⊢
  have h0 : ∀ k, k < n → pk s (2 * k) = 97 := fun k hk => by rw [hp, rp_get _ _ _ _ (by omega), if_pos (by omega)]
  have h1 : ∀ k, k < n → pk s (2 * k + 1) = 32 := fun k hk => by rw [hp, rp_get _ _ _ _ (by omega), if_neg (by omega)]
  have h2 : ∀ k, k ≤ n → skp s (2 * k) false = 2 * k := fun k hk => by
    by_cases hk2 : k < n
    · exact skp_stop (by rw [h0 k hk2]; decide) (by rw [h0 k hk2]; decide)
    · exact skp_stop (by rw [hp, rp_out _ _ _ _ (by omega)]; decide) (by rw [hp, rp_out _ _ _ _ (by omega)]; decide)
  have hst : ∀ k, k < n → 2 * k < s.size ∧ ∃ t j, tokV s (2 * k) = .ok (t, j) ∧ skp s j false = 2 * (k + 1) := fun k hk => by
    obtain ⟨t, ht⟩ := tok_a (h0 k hk) (h1 k hk)
    refine ⟨by omega, t, _, ht, ?_⟩
    rw [skp_blank (by omega) (h1 k hk), show 2 * k + 1 + 1 = 2 * (k + 1) by omega, h2 (k + 1) (by omega)]
  have hs0 : scanV s = scn s (s.size + 1) (2 * 0) [] := by rw [scanV, if_neg (by omega), h2 0 (by omega)]
  rw [hs0]
  exact ⟨fun h => scn_ok (fun k => 2 * k) n (by omega) hst h n _ 0 [] (by omega) (by omega) rfl, fun h => scn_many (fun k => 2 * k) n hst h 4000 _ 0 [] (by omega) (by omega) rfl⟩
theorem many_c (n : Nat) (hn : n ≤ 4000) : (2 * n ≤ 4000 → ∃ l, scanV (sb (rp 44 44 n)) = .ok l ∧ l.length = 2 * n) ∧ (4000 < 2 * n → scanV (sb (rp 44 44 n)) = .error (4000, 155)) := by
  have hz : (sb (rp 44 44 n)).size = 2 * n := by rw [sb_size, rp_len]
  have hp := pk_sb (rp 44 44 n) (rp_bytes 44 44 (by decide) (by decide) n)
  generalize sb (rp 44 44 n) = s at hz hp ⊢
  have h0 : ∀ k, k < 2 * n → pk s k = 44 := fun k hk => by rw [hp, rp_get _ _ _ _ hk]; split <;> rfl
  have h2 : ∀ k, k ≤ 2 * n → skp s k false = k := fun k hk => by
    by_cases hk2 : k < 2 * n
    · exact skp_stop (by rw [h0 k hk2]; decide) (by rw [h0 k hk2]; decide)
    · exact skp_stop (by rw [hp, rp_out _ _ _ _ (by omega)]; decide) (by rw [hp, rp_out _ _ _ _ (by omega)]; decide)
  have hst : ∀ k, k < 2 * n → k < s.size ∧ ∃ t j, tokV s k = .ok (t, j) ∧ skp s j false = k + 1 := fun k hk => by
    obtain ⟨t, ht⟩ := tok_c (h0 k hk)
    exact ⟨by omega, t, _, ht, h2 (k + 1) (by omega)⟩
  have hs0 : scanV s = scn s (s.size + 1) 0 [] := by rw [scanV, if_neg (by omega), h2 0 (by omega)]
  rw [hs0]
  exact ⟨fun h => scn_ok (fun k => k) (2 * n) (by omega) hst h (2 * n) _ 0 [] (by omega) (by omega) rfl, fun h => scn_many (fun k => k) (2 * n) hst h 4000 _ 0 [] (by omega) (by omega) rfl⟩
end Go.Proofs.YtbmbgnmkakkpfaaDoor
