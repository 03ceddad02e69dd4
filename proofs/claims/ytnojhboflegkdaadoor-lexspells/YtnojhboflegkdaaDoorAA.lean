/-
  Tokens spelt with blanks between are scanned as the same ones.
-/
import Derived.Test.YtnojhboflegkdaaDoorV
set_option linter.unusedVariables false
set_option linter.unusedSimpArgs false
namespace Go.Proofs.YtnojhboflegkdaaDoor
open Go.RowKit Go.Maps

/-- From j on u has these bytes. -/
def Bs (u : ByteArray) (j : Nat) (l : List Int) : Prop := ∀ k, k < l.length → pk u (j + k) = l.getD k 0
theorem Bs.app {u : ByteArray} {j : Nat} {l m : List Int} (h : Bs u j (l ++ m)) : Bs u j l ∧ Bs u (j + l.length) m := by
  constructor
  · intro k hk
    have := h k (by simp; omega)
    rw [List.getD_eq_getElem?_getD, List.getElem?_append_left hk] at this
    rw [List.getD_eq_getElem?_getD]; exact this
  · intro k hk
    have := h (l.length + k) (by simp; omega)
    rw [List.getD_eq_getElem?_getD, List.getElem?_append_right (by omega), show l.length + k - l.length = k by omega] at this
    rw [List.getD_eq_getElem?_getD, Nat.add_assoc]; exact this
theorem Bs.hd {u : ByteArray} {j : Nat} {c : Int} {l : List Int} (h : Bs u j (c :: l)) : pk u j = c ∧ Bs u (j + 1) l := by
  refine ⟨by have := h 0 (by simp); simpa using this, fun k hk => ?_⟩
  have := h (k + 1) (by simp; omega)
  rw [show j + 1 + k = j + (k + 1) by omega, this]; simp

/-! ### Ints -/
def dd (n : Nat) : List Int := (Lib.decDigits n).map fun c => (c.toNat : Int)
theorem dd_small {n : Nat} (h : n < 10) : dd n = [48 + (n : Int)] := by
  unfold dd
  rw [Lib.decDigits, dif_pos h]
  simp only [List.map_cons, List.map_nil, UInt8.toNat_ofNat']
  congr 1
  omega
theorem dd_big {n : Nat} (h : ¬ n < 10) : dd n = dd (n / 10) ++ [48 + ((n % 10 : Nat) : Int)] := by
  unfold dd
  rw [Lib.decDigits, dif_neg h, List.map_append]
  simp only [List.map_cons, List.map_nil, UInt8.toNat_ofNat']
  congr 2
  omega
theorem dd_dig : ∀ (n : Nat), 1 ≤ (dd n).length ∧ ∀ c ∈ dd n, dig c = true := by
  intro n
  induction n using Nat.strongRecOn with
  | _ n ih =>
    by_cases h : n < 10
    · rw [dd_small h]
      refine ⟨by simp, fun c hc => ?_⟩
      simp at hc; subst hc
      simp [dig]; omega
    · rw [dd_big h]
      have := ih (n / 10) (by omega)
      refine ⟨by simp, fun c hc => ?_⟩
      rcases List.mem_append.1 hc with hc | hc
      · exact this.2 c hc
      · simp at hc; subst hc
        simp [dig]; omega
/-- The number that a row of digits makes. -/
def nv : List Int → Int := fun l => l.foldl (fun a c => a * 10 + (c - 48)) 0
theorem nv_dd (n : Nat) : nv (dd n) = (n : Int) := by
  induction n using Nat.strongRecOn with
  | _ n ih =>
    by_cases h : n < 10
    · rw [dd_small h]; simp [nv]; omega
    · rw [dd_big h, nv, List.foldl_append]
      have := ih (n / 10) (by omega)
      rw [nv] at this
      rw [this]
      simp only [List.foldl_cons, List.foldl_nil]
      omega
theorem dva_take (t : ByteArray) (l : List Int) (h : ∀ k, k < l.length → bt t k = l.getD k 0) : ∀ k, k ≤ l.length → dva t k = nv (l.take k)
  | 0, _ => by simp [dva, nv]
  | k + 1, hk => by
    have e : l.take (k + 1) = l.take k ++ [l.getD k 0] := by rw [List.take_add_one, List.getD_eq_getElem?_getD, List.getElem?_eq_getElem (by omega)]; rfl
    rw [dva, dva_take t l h k (by omega), h k (by omega), e, nv, nv, List.foldl_append]
    rfl
theorem dvx_bs {u : ByteArray} {j : Nat} {l : List Int} (h : Bs u j l) (hz : j + l.length ≤ u.size) : dvx u j (j + l.length) = nv l := by
  have e := dva_take (u.extract j (j + l.length)) l (fun k hk => by
    rw [bt_ext u j _ k hz (by omega), ← pk_lt_size (by omega)]; exact h k hk) l.length (Nat.le_refl _)
  rw [List.take_length] at e
  rw [dvx, size_ext u j _ hz, show j + l.length - j = l.length by omega]
  exact e
theorem bs_fits {u : ByteArray} {j : Nat} {l : List Int} (h : Bs u j l) (hl : 1 ≤ l.length) (h0 : l.getD (l.length - 1) 0 ≠ 0) : j + l.length ≤ u.size := by
  have := lt_of_pk (s := u) (i := j + (l.length - 1)) (by rw [h _ (by omega)]; exact h0)
  omega
theorem getD_mem {l : List Int} {k : Nat} (h : k < l.length) : l.getD k 0 ∈ l := by
  rw [List.getD_eq_getElem?_getD, List.getElem?_eq_getElem h]; exact List.getElem_mem h
theorem tok_int {u : ByteArray} {j n : Nat} (hn : (n : Int) ≤ 4611686018427387903) (h : Bs u j (dd n)) (hb : pk u (j + (dd n).length) = 32) : tokV u j = .ok (⟨1, e0, n, [], j⟩, j + (dd n).length) := by
  obtain ⟨h1, h2⟩ := dd_dig n
  have hd : ∀ k, k < (dd n).length → dig (pk u (j + k)) = true := fun k hk => by rw [h k hk]; exact h2 _ (getD_mem hk)
  have hsp : span dig u j = j + (dd n).length := span_to rfl _ j hd (by rw [hb]; decide)
  have hf := bs_fits h h1 (fun e => by have := h2 _ (getD_mem (l := dd n) (k := (dd n).length - 1) (by omega)); rw [e] at this; exact absurd this (by decide))
  have hv : dvx u j (j + (dd n).length) = (n : Int) := by rw [dvx_bs h hf, nv_dd]
  have h0 := hd 0 (by omega)
  rw [Nat.add_zero] at h0
  rw [tokV, if_pos h0, hsp, hv, hb, if_neg (by rintro (e | e); omega; exact absurd e (by decide))]

/-! ### Bytes -/
theorem hx_hexv : ∀ v : Fin 16, hexv (hx v : Int) = (v : Nat) ∧ shw (hx v : Int) = true := by decide +kernel
theorem hexv_hx {v : Nat} (h : v < 16) : hexv (hx v : Int) = (v : Int) := (hx_hexv ⟨v, h⟩).1
theorem one_qb {u : ByteArray} {j : Nat} {c : Int} (hc : 0 ≤ c ∧ c < 256) (h : Bs u j (qb c)) : one u j = some (c, j + (qb c).length) ∧ pk u j ≠ 34 ∧ 1 ≤ (qb c).length := by
  unfold qb at h ⊢
  by_cases h1 : c = 10
  · rw [if_pos h1] at h ⊢
    obtain ⟨a, h⟩ := h.hd; obtain ⟨b, -⟩ := h.hd
    refine ⟨?_, by rw [a]; decide, by simp⟩
    rw [one, a, if_pos rfl, esc, b, if_pos rfl, h1]; rfl
  rw [if_neg h1] at h ⊢
  by_cases h2 : c = 9
  · rw [if_pos h2] at h ⊢
    obtain ⟨a, h⟩ := h.hd; obtain ⟨b, -⟩ := h.hd
    refine ⟨?_, by rw [a]; decide, by simp⟩
    rw [one, a, if_pos rfl, esc, b, if_neg (by decide), if_pos rfl, h2]; rfl
  rw [if_neg h2] at h ⊢
  by_cases h3 : c = 92
  · rw [if_pos h3] at h ⊢
    obtain ⟨a, h⟩ := h.hd; obtain ⟨b, -⟩ := h.hd
    refine ⟨?_, by rw [a]; decide, by simp⟩
    rw [one, a, if_pos rfl, esc, b, if_neg (by decide), if_neg (by decide), if_pos rfl, h3]; rfl
  rw [if_neg h3] at h ⊢
  by_cases h4 : c = 34
  · rw [if_pos h4] at h ⊢
    obtain ⟨a, h⟩ := h.hd; obtain ⟨b, -⟩ := h.hd
    refine ⟨?_, by rw [a]; decide, by simp⟩
    rw [one, a, if_pos rfl, esc, b, if_neg (by decide), if_neg (by decide), if_neg (by decide), if_pos rfl, h4]; rfl
  rw [if_neg h4] at h ⊢
  by_cases h5 : shw c = true
  · rw [if_pos h5] at h ⊢
    obtain ⟨a, -⟩ := h.hd
    refine ⟨?_, by rw [a]; exact h4, by simp⟩
    rw [one, a, if_neg h3, if_pos h5]; rfl
  · rw [if_neg h5] at h ⊢
    obtain ⟨a, h⟩ := h.hd; obtain ⟨b, h⟩ := h.hd; obtain ⟨d, h⟩ := h.hd; obtain ⟨e, -⟩ := h.hd
    refine ⟨?_, by rw [a]; decide, by simp⟩
    have v1 := hexv_hx (v := c.toNat / 16) (by omega)
    have v2 := hexv_hx (v := c.toNat % 16) (by omega)
    rw [one, a, if_pos rfl, esc, b, if_neg (by decide), if_neg (by decide), if_neg (by decide), if_neg (by decide), if_pos rfl, d, show j + 1 + 2 = j + 1 + 1 + 1 by omega, e, v1, v2, if_pos ⟨by omega, by omega⟩]
    congr 2
    omega
theorem qts_qbs {u : ByteArray} : ∀ (l m : List Int) (j f : Nat), (∀ c ∈ l, 0 ≤ c ∧ c < 256) → Bs u j (qbs l ++ [34]) → l.length < f → qts u f j m = some (m ++ l, j + (qbs l).length + 1)
  | [], m, j, f, _, h, hf => by
    obtain ⟨f, rfl⟩ : ∃ g, f = g + 1 := ⟨f - 1, by omega⟩
    have : pk u j = 34 := h.hd.1
    rw [qts, if_pos this]; simp [qbs]
  | c :: l, m, j, f, hb, h, hf => by
    obtain ⟨f, rfl⟩ : ∃ g, f = g + 1 := ⟨f - 1, by simp at hf; omega⟩
    have e : qbs (c :: l) = qb c ++ qbs l := by simp [qbs]
    rw [e, List.append_assoc] at h
    obtain ⟨h1, h2⟩ := h.app
    obtain ⟨o1, o2, o3⟩ := one_qb (hb c (by simp)) h1
    rw [qts, if_neg o2, o1]
    simp only []
    rw [qts_qbs l (m ++ [c]) (j + (qb c).length) f (fun x hx => hb x (by simp [hx])) h2 (by simp at hf; omega), e]
    simp
    omega
theorem qbs_ge (l : List Int) : l.length ≤ (qbs l).length := by
  induction l with
  | nil => simp [qbs]
  | cons c l ih =>
    have : 1 ≤ (qb c).length := by
      unfold qb
      repeat' split
      all_goals simp
    simp only [qbs, List.flatMap_cons, List.length_append, List.length_cons] at ih ⊢
    omega
theorem tok_bytes {u : ByteArray} {j : Nat} {l : List Int} (hb : ∀ c ∈ l, 0 ≤ c ∧ c < 256) (h : Bs u j (quo l)) : tokV u j = .ok (⟨4, e0, 0, l, j⟩, j + (quo l).length) := by
  have hlast : (quo l).getD ((quo l).length - 1) 0 = 34 := by
    simp [quo, List.getD_eq_getElem?_getD]
  have hfit := bs_fits h (by simp [quo]) (by rw [hlast]; decide)
  have hlen : (quo l).length = (qbs l).length + 2 := by simp [quo]
  have hge := qbs_ge l
  obtain ⟨h1, h2⟩ := h.hd
  have := qts_qbs l [] (j + 1) (u.size + 1) hb h2 (by omega)
  rw [tokV, h1, if_neg (by decide), if_pos rfl, qtd, this]
  simp only [List.nil_append]
  congr 2
  omega
end Go.Proofs.YtnojhboflegkdaaDoor
