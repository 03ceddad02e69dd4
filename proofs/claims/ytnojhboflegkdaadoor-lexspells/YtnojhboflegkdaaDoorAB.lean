/-
  The spelt tokens of a text, scanned again.
-/
import Derived.Test.YtnojhboflegkdaaDoorAA
set_option linter.unusedVariables false
set_option linter.unusedSimpArgs false
namespace Go.Proofs.YtnojhboflegkdaaDoor
open Go.RowKit Go.Maps

/-- A token's text, byte by byte. -/
def sp (t : Tok) : List Int := tb (spV t.k t.s t.n t.b)
theorem tb_len (s : ByteArray) : (tb s).length = s.size := tb_length s
theorem tb_get (s : ByteArray) (k : Nat) (h : k < s.size) : (tb s).getD k 0 = bt s k := by
  have h2 : k < s.data.size := h
  rw [List.getD_eq_getElem?_getD, tb, List.getElem?_map, Array.getElem?_toList, bt, Array.getElem?_eq_getElem h2]
  rfl
theorem tb_bytes (s : ByteArray) : ∀ c ∈ tb s, 0 ≤ c ∧ c < 256 := by
  intro c hc
  simp only [tb, List.mem_map] at hc
  obtain ⟨b, -, rfl⟩ := hc
  have := UInt8.toNat_lt b
  omega
theorem esc_byte {s : ByteArray} {i n : Nat} {c : Int} (h : esc s i = some (c, n)) : 0 ≤ c ∧ c < 256 := by
  unfold esc at h
  split at h
  · cases h; decide
  split at h
  · cases h; decide
  split at h
  · cases h; decide
  split at h
  · cases h; decide
  split at h
  · split at h
    · rename_i h6
      cases h
      have a := hexv_lt (pk s (i + 1))
      have b := hexv_lt (pk s (i + 2))
      omega
    · cases h
  · cases h
theorem one_byte {s : ByteArray} {i n : Nat} {c : Int} (h : one s i = some (c, n)) : 0 ≤ c ∧ c < 256 := by
  unfold one at h
  split at h
  · exact esc_byte h
  · split at h
    · cases h; exact ⟨pk_nonneg _ _, pk_lt _ _⟩
    · cases h
theorem qts_bytes {s : ByteArray} : ∀ (f i : Nat) (l m : List Int) (n : Nat), qts s f i l = some (m, n) → (∀ c ∈ l, 0 ≤ c ∧ c < 256) → ∀ c ∈ m, 0 ≤ c ∧ c < 256
  | 0, i, l, m, n, h, _ => by cases h
  | f + 1, i, l, m, n, h, hl => by
    rw [qts] at h
    by_cases h1 : pk s i = 34
    · rw [if_pos h1] at h; cases h; exact hl
    · rw [if_neg h1] at h
      cases ho : one s i with
      | none => rw [ho] at h; cases h
      | some p =>
        rw [ho] at h
        refine qts_bytes f _ _ _ _ h (fun c hc => ?_)
        rcases List.mem_append.1 hc with hc | hc
        · exact hl c hc
        · simp at hc; subst hc; exact one_byte ho
theorem qb_bytes {c : Int} (h : 0 ≤ c ∧ c < 256) : ∀ x ∈ qb c, 0 ≤ x ∧ x < 256 := by
  have hh : ∀ v : Nat, v < 16 → (0 : Int) ≤ (hx v : Int) ∧ (hx v : Int) < 256 := fun v hv => by unfold hx; split <;> omega
  have h1 := hh (c.toNat / 16) (by omega)
  have h2 := hh (c.toNat % 16) (by omega)
  unfold qb
  repeat' split
  all_goals (intro x hx; simp at hx)
  all_goals first
    | (rcases hx with rfl | rfl | rfl | rfl <;> first | exact h1 | exact h2 | decide)
    | (rcases hx with rfl | rfl <;> decide)
    | (subst hx; first | exact h | decide)
theorem quo_bytes {l : List Int} (h : ∀ c ∈ l, 0 ≤ c ∧ c < 256) : ∀ x ∈ quo l, 0 ≤ x ∧ x < 256 := by
  intro x hx
  simp only [quo, List.mem_cons, List.mem_append, List.not_mem_nil, or_false, qbs, List.mem_flatMap] at hx
  rcases hx with rfl | ⟨c, hc, hx⟩ | rfl
  · decide
  · exact qb_bytes (h c hc) x hx
  · decide
theorem dd_len : ∀ (k n : Nat), n < 10 ^ (k + 1) → (dd n).length ≤ k + 1
  | 0, n, h => by rw [dd_small (by simpa using h)]; simp
  | k + 1, n, h => by
    by_cases h1 : n < 10
    · rw [dd_small h1]; simp
    · have := dd_len k (n / 10) (by rw [Nat.pow_succ] at h; omega)
      rw [dd_big h1]; simp; omega
theorem sp_int (s : ByteArray) (v : Int) (b : List Int) (hv : 0 ≤ v) (i : Nat) : sp ⟨1, s, v, b, i⟩ = dd v.toNat := by
  unfold sp spV
  rw [if_pos rfl, if_pos hv]
  simp [tb, dd]
theorem sp_bytes (s : ByteArray) (n : Int) (b : List Int) (hb : ∀ c ∈ b, 0 ≤ c ∧ c < 256) (i : Nat) : sp ⟨4, s, n, b, i⟩ = quo b := by
  unfold sp spV
  rw [if_neg (show ¬ (4 : Int) = 1 by decide), if_neg (show ¬ ((4 : Int) = 2 ∨ (4 : Int) = 3 ∨ (4 : Int) = 5 ∨ (4 : Int) = 6) by decide), if_pos rfl]
  exact tb_sb _ (quo_bytes hb)
theorem sp_text (k : Int) (s : ByteArray) (n : Int) (b : List Int) (i : Nat) (hk : k = 2 ∨ k = 3 ∨ k = 5 ∨ k = 6) : sp ⟨k, s, n, b, i⟩ = tb s := by
  unfold sp spV
  rw [if_neg (show ¬ k = 1 by omega), if_pos hk]

/-- A token that is read again from its text. -/
def Tq (t : Tok) : Prop := 1 ≤ (sp t).length ∧ (∀ c ∈ t.b, 0 ≤ c ∧ c < 256) ∧ t.n ≤ 9223372036854775807 ∧ t.s.size ≤ 16384 ∧ t.b.length ≤ 16384 ∧ ∀ u j, Bs u j (sp t) → pk u (j + (sp t).length) = 32 → tokV u j = .ok ({ t with at' := j }, j + (sp t).length)
theorem tok_q {s : ByteArray} {i n : Nat} {t : Tok} (hz : s.size ≤ 16384) (hi : i < s.size) (h : tokV s i = .ok (t, n)) : Tq t ∧ (sp t).length ≤ 20 * (n - i) := by
  have h' := h
  obtain ⟨o1, o2, -, o4⟩ := tokV_ok hi h
  -- names and signs: the same bytes elsewhere
  have txt : ∀ k x, t = ⟨k, x, 0, [], i⟩ → (k = 2 ∨ k = 3 ∨ k = 5 ∨ k = 6) → x = s.extract i n → Tq t ∧ (sp t).length ≤ 20 * (n - i) := by
    intro k x ht hk hx
    have hsz : x.size = n - i := by rw [hx, size_ext s i n o2]
    have hsp : sp t = tb x := by rw [ht]; exact sp_text k x 0 [] i hk
    have hl : (sp t).length = n - i := by rw [hsp, tb_len, hsz]
    refine ⟨⟨by omega, ?_, ?_, ?_, ?_, fun u j hb h32 => ?_⟩, by omega⟩
    · rw [ht]; simp
    · rw [ht]; show (0 : Int) ≤ _; decide
    · rw [ht]; show x.size ≤ _; omega
    · rw [ht]; simp
    · rw [hl] at h32 ⊢
      refine tok_sh hi h' (fun q hq => ?_) (.inr (.inl h32))
      have := hb q (by omega)
      rw [this, hsp, tb_get x q (by omega), hx, bt_ext s i n q o2 (by omega), pk_lt_size (by omega)]
  unfold tokV at h
  by_cases h1 : dig (pk s i) = true
  · rw [if_pos h1] at h
    by_cases h2 : 4611686018427387903 < dvx s i (span dig s i) ∨ inN (pk s (span dig s i)) = true
    · rw [if_pos h2] at h; cases h
    rw [if_neg h2] at h
    cases h
    have hle := span_le (p := dig) (s := s) (i := i) (by omega)
    have hv0 : 0 ≤ dvx s i (span dig s i) := by
      refine dva_nonneg (fun k hk => ?_) _ (Nat.le_refl _)
      rw [size_ext s i _ hle] at hk
      rw [bt_ext s i _ k hle hk]
      exact span_all (p := dig) (s := s) (i := i) (i + k) (by omega) (by omega)
    have hv1 : dvx s i (span dig s i) ≤ 4611686018427387903 := by
      rcases Int.lt_or_le 4611686018427387903 (dvx s i (span dig s i)) with e | e
      · exact absurd (.inl e) h2
      · exact e
    generalize dvx s i (span dig s i) = v at hv0 hv1
    have hsp := sp_int e0 v [] hv0 i
    have hl := dd_len 18 v.toNat (by omega)
    have hd := dd_dig v.toNat
    refine ⟨⟨by rw [hsp]; exact hd.1, by simp, by show v ≤ _; omega, by show e0.size ≤ _; decide, by simp, fun u j hb h32 => ?_⟩, by rw [hsp]; omega⟩
    rw [hsp] at hb h32 ⊢
    have := tok_int (u := u) (j := j) (n := v.toNat) (by omega) hb h32
    rw [this]
    have e : ((v.toNat : Nat) : Int) = v := Int.toNat_of_nonneg hv0
    rw [e]
  rw [if_neg h1] at h
  by_cases h2 : pk s i = 34
  · rw [if_pos h2] at h
    cases hq : qtd s i with
    | none => rw [hq] at h; cases h
    | some p =>
      obtain ⟨l, k⟩ := p
      rw [hq] at h
      cases h
      have hb := qts_ok _ _ _ _ _ hq
      have hby := qts_bytes _ _ _ _ _ hq (by simp)
      have hsp := sp_bytes e0 0 l hby i
      have hl : (quo l).length ≤ 4 * l.length + 2 := by have := qbs_len l; simp [quo]; omega
      simp at hb
      refine ⟨⟨by rw [hsp]; simp [quo], hby, by show (0 : Int) ≤ _; decide, by show e0.size ≤ _; decide, by show l.length ≤ _; omega, fun u j hb2 h32 => ?_⟩, by rw [hsp]; omega⟩
      rw [hsp] at hb2 ⊢
      exact tok_bytes hby hb2
  rw [if_neg h2] at h
  by_cases h3 : low (pk s i) = true ∨ vab (pk s i) = true
  · rw [if_pos h3] at h
    by_cases h4 : 32 < span inN s i - i
    · rw [if_pos h4] at h; cases h
    rw [if_neg h4] at h
    cases h
    refine txt _ _ rfl ?_ rfl
    split
    · exact .inr (.inr (.inr rfl))
    · split
      · exact .inl rfl
      · exact .inr (.inl rfl)
  rw [if_neg h3] at h
  cases hq : sgn s i with
  | none => rw [hq] at h; cases h
  | some l =>
    rw [hq] at h
    cases h
    exact txt _ _ rfl (.inr (.inr (.inl rfl))) (sgn_ext hq (by omega)).symm

/-- Tokens' texts, a blank behind each. -/
def spl (l : List Tok) : List Int := l.flatMap fun t => sp t ++ [32]
theorem spl_app (l m : List Tok) : spl (l ++ m) = spl l ++ spl m := by simp [spl]
theorem spl_one (t : Tok) : spl [t] = sp t ++ [32] := by simp [spl]
theorem spl_bytes (l : List Tok) : ∀ c ∈ spl l, 0 ≤ c ∧ c < 256 := by
  intro c hc
  simp only [spl, List.mem_flatMap, List.mem_append, List.mem_singleton] at hc
  obtain ⟨t, -, hc | rfl⟩ := hc
  · exact tb_bytes _ c hc
  · decide
theorem scn_q {s : ByteArray} (hz : s.size ≤ 16384) : ∀ (f i : Nat) (l m : List Tok), scn s f i l = .ok m → i ≤ s.size → (∀ t ∈ l, Tq t) → (spl l).length ≤ 21 * i → (∀ t ∈ m, Tq t) ∧ (spl m).length ≤ 21 * s.size
  | 0, i, l, m, h, hi, h1, h2 => by cases h; exact ⟨h1, by omega⟩
  | f + 1, i, l, m, h, hi, h1, h2 => by
    rw [scn] at h
    by_cases hlt : i < s.size
    · rw [if_pos hlt] at h
      split at h
      · cases h
      · cases ht : tokV s i with
        | error c => rw [ht] at h; cases h
        | ok p =>
          obtain ⟨t, j⟩ := p
          rw [ht] at h
          obtain ⟨o1, o2, o3, o4⟩ := tokV_ok hlt ht
          obtain ⟨q1, q2⟩ := tok_q hz hlt ht
          have n1 := skp_ge s j false
          refine scn_q hz f (skp s j false) (l ++ [t]) m h (skp_le false o2) (fun u hu => ?_) ?_
          · rcases List.mem_append.1 hu with hu | hu
            · exact h1 u hu
            · simp at hu; subst hu; exact q1
          · rw [spl_app, spl_one]; simp; omega
    · rw [if_neg hlt] at h; cases h; exact ⟨h1, by omega⟩
theorem scanV_q {s : ByteArray} {m : List Tok} (h : scanV s = .ok m) : (∀ t ∈ m, Tq t) ∧ (spl m).length ≤ 344064 := by
  have hz := (scanV_at h).1
  rw [scanV, if_neg (by omega)] at h
  have := scn_q hz _ _ _ _ h (skp_le false (Nat.zero_le _)) (by simp) (by simp [spl])
  exact ⟨this.1, by omega⟩

theorem signs_start : ∀ l ∈ signs, blk (l.getD 0 0) = false ∧ l.getD 0 0 ≠ 37 := by decide +kernel
theorem tok_start {u : ByteArray} {j : Nat} {p : Tok × Nat} (hj : j ≤ u.size) (h : tokV u j = .ok p) : blk (pk u j) = false ∧ pk u j ≠ 37 := by
  unfold tokV at h
  by_cases h1 : dig (pk u j) = true
  · simp [dig] at h1
    refine ⟨?_, by omega⟩
    simp [blk]; omega
  rw [if_neg h1] at h
  by_cases h2 : pk u j = 34
  · rw [h2]; decide
  rw [if_neg h2] at h
  by_cases h3 : low (pk u j) = true ∨ vab (pk u j) = true
  · simp [low, vab] at h3
    refine ⟨?_, by omega⟩
    simp [blk]; omega
  rw [if_neg h3] at h
  cases hq : sgn u j with
  | none => rw [hq] at h; cases h
  | some l =>
    obtain ⟨g1, g2, g3, -⟩ := sgn_ok hq hj
    have := mts_get l j g2 0 (by omega)
    rw [Nat.add_zero] at this
    rw [this]
    exact signs_start l g1

/-- Two lists of tokens that differ in their places alone. -/
def Lk (l m : List Tok) : Prop := m.length = l.length ∧ ∀ (k : Nat) (t : Tok), l[k]? = some t → ∃ q : Nat, m[k]? = some ({ t with at' := q } : Tok)
theorem back_go {u : ByteArray} : ∀ (l d : List Tok) (j : Nat), (∀ t ∈ l, Tq t) → Bs u j (spl l) → j + (spl l).length = u.size → d.length + l.length ≤ 4000 → ∃ m, scb u j d = .ok (d ++ m) ∧ Lk l m
  | [], d, j, _, _, hz, _ => ⟨[], by rw [scb_end (by simp [spl] at hz; omega)]; simp, rfl, by simp⟩
  | t :: l, d, j, hq, hb, hz, hl => by
    have e : spl (t :: l) = sp t ++ ([32] ++ spl l) := by simp [spl]
    rw [e] at hb hz
    obtain ⟨q1, -, -, -, -, q2⟩ := hq t (by simp)
    obtain ⟨b1, b2⟩ := hb.app
    obtain ⟨b3, b4⟩ := Bs.hd (c := 32) (l := spl l) b2
    have ht := q2 u j b1 b3
    simp at hz
    simp at hl
    rw [scb_tok (by omega) (by omega) ht, skp_blank (by omega) b3]
    have hnext : skp u (j + (sp t).length + 1) false = j + (sp t).length + 1 := by
      cases l with
      | nil => exact skp_out _ _ _ (by simp [spl] at hz; omega)
      | cons t2 l2 =>
        obtain ⟨r1, -, -, -, -, r2⟩ := hq t2 (by simp)
        have e2 : spl (t2 :: l2) = sp t2 ++ ([32] ++ spl l2) := by simp [spl]
        rw [e2] at b4
        obtain ⟨b5, b6⟩ := b4.app
        have ht2 := r2 u _ b5 (Bs.hd (c := 32) (l := spl l2) b6).1
        obtain ⟨s1, s2⟩ := tok_start (by omega) ht2
        exact skp_stop s1 s2
    rw [hnext]
    obtain ⟨m, hm, hk1, hk2⟩ := back_go l (d ++ [({ t with at' := j } : Tok)]) (j + (sp t).length + 1) (fun x hx => hq x (by simp [hx])) b4 (by omega) (by simp; omega)
    refine ⟨({ t with at' := j } : Tok) :: m, by rw [hm]; simp, by simp [hk1], fun k x hx => ?_⟩
    match k with
    | 0 => simp at hx; subst hx; exact ⟨j, rfl⟩
    | k + 1 => simpa using hk2 k x (by simpa using hx)
theorem back {s : ByteArray} {l : List Tok} (h : scanV s = .ok l) (hz : (spl l).length ≤ 16384) : ∃ m, scanV (sb (spl l)) = .ok m ∧ Lk l m := by
  obtain ⟨hq, -⟩ := scanV_q h
  have hlen := scanV_len h
  have hsz := sb_size (spl l)
  have hbs : Bs (sb (spl l)) 0 (spl l) := fun k hk => by rw [Nat.zero_add]; exact pk_sb _ (spl_bytes l) k
  generalize sb (spl l) = u at hsz hbs
  rw [scanV_scb (by omega)]
  have h0 : skp u 0 false = 0 := by
    cases l with
    | nil => exact skp_out _ _ _ (by rw [hsz]; simp [spl])
    | cons t l =>
      obtain ⟨r1, -, -, -, -, r2⟩ := hq t (by simp)
      have e2 : spl (t :: l) = sp t ++ ([32] ++ spl l) := by simp [spl]
      rw [e2] at hbs
      obtain ⟨b5, b6⟩ := hbs.app
      have ht2 := r2 u _ b5 (Bs.hd (c := 32) (l := spl l) b6).1
      obtain ⟨s1, s2⟩ := tok_start (by omega) ht2
      exact skp_stop s1 s2
  rw [h0]
  obtain ⟨m, hm, hk⟩ := back_go l [] 0 hq hbs (by omega) (by simpa using hlen)
  exact ⟨m, by simpa using hm, hk⟩
end Go.Proofs.YtnojhboflegkdaaDoor
