/-
  Carried over from another seat of ours (O).
  Carried over from another seat of ours (S).
  Carried over from another seat of ours (U).
  Carried over from another seat of ours (V).
-/
import Derived.Test.YtjedbfbolifjjaaGreatDoorJ
set_option linter.unusedVariables false
set_option linter.unusedSimpArgs false
namespace Go.Proofs.YtjedbfbolifjjaaGreatDoor
open Go.RowKit Go.Maps
theorem size_ext (s : ByteArray) (i j : Nat) (h : j ≤ s.size) : (s.extract i j).size = j - i := by rw [ByteArray.size_extract]; omega
theorem ba_ext {s t : ByteArray} (hl : s.size = t.size) (h : ∀ k, k < s.size → bt s k = bt t k) : s = t := by
 apply ByteArray.ext
 apply Array.ext
 · exact hl
 · intro k h1 h2
   have := h k h1
   unfold bt at this
   rw [Array.getElem?_eq_getElem h1, Array.getElem?_eq_getElem h2, Option.getD_some, Option.getD_some] at this
   exact UInt8.toNat_inj.1 (by omega)
theorem mts_get {s : ByteArray} : ∀ (l : List Int) (i : Nat), mts s i l = true → ∀ k, k < l.length → pk s (i + k) = l.getD k 0
 | [], i, _, k, hk => by simp at hk
 | c :: l, i, h, k, hk => by
  rw [mts, Bool.and_eq_true] at h
  match k with
  | 0 => simpa using h.1
  | k + 1 =>
   have := mts_get l (i + 1) h.2 k (by simpa using hk)
   rw [show i + (k + 1) = i + 1 + k by omega, this]
   simp
end Go.Proofs.YtjedbfbolifjjaaGreatDoor

namespace Go.Proofs.YtjedbfbolifjjaaGreatDoor
open Go.RowKit Go.Maps
theorem pk_lt_size {s : ByteArray} {i : Nat} (h : i < s.size) : pk s i = bt s i := by rw [pk, if_pos h]
end Go.Proofs.YtjedbfbolifjjaaGreatDoor

namespace Go.Proofs.YtjedbfbolifjjaaGreatDoor
open Go.RowKit Go.Maps
/-- From j on u has the bytes that s has from i on, so many. -/
def Sh (u : ByteArray) (j : Nat) (s : ByteArray) (i d : Nat) : Prop := ∀ k, k < d → pk u (j + k) = pk s (i + k)
/-- A token may stop ahead of this byte. -/
def StpU (c e : Int) : Prop := c = e ∨ c = 32 ∨ c = 10
theorem span_end (p : Int → Bool) (h0 : p 0 = false) (s : ByteArray) (i : Nat) : p (pk s (span p s i)) = false := by
 fun_induction span p s i with
 | case1 i hlt hp ih => exact ih
 | case2 i hlt hp => rw [pk_lt_size hlt]; simpa using hp
 | case3 i hlt => rw [pk, if_neg hlt]; exact h0
theorem span_to {p : Int → Bool} (h0 : p 0 = false) {s : ByteArray} : ∀ (d i : Nat), (∀ k, k < d → p (pk s (i + k)) = true) → p (pk s (i + d)) = false → span p s i = i + d
 | 0, i, _, h => span_no h
 | d + 1, i, h1, h => by
  have := (span_yes (p := p) (s := s) (i := i) (h1 0 (by omega)) h0).2
  rw [this, span_to h0 d (i + 1) (fun k hk => by have := h1 (k + 1) (by omega); rwa [show i + 1 + k = i + (k + 1) by omega]) (by rwa [show i + 1 + d = i + (d + 1) by omega])]
  omega
theorem span_in {p : Int → Bool} {s : ByteArray} {i : Nat} (hi : i ≤ s.size) (k : Nat) (hk : k < span p s i - i) : p (pk s (i + k)) = true := by
 have h1 := span_all (p := p) (s := s) (i := i) (i + k) (by omega) (by omega)
 have h2 := span_le (p := p) (s := s) (i := i) hi
 rw [pk_lt_size (by omega)]; exact h1
theorem ext_sh {u s : ByteArray} {j i d : Nat} (h : Sh u j s i d) (h1 : j + d ≤ u.size) (h2 : i + d ≤ s.size) : u.extract j (j + d) = s.extract i (i + d) := by
 apply ba_ext
 · rw [size_ext u j _ h1, size_ext s i _ h2]; omega
 · intro k hk
   rw [size_ext u j _ h1] at hk
   rw [bt_ext u j _ k h1 hk, bt_ext s i _ k h2 (by omega)]
   have := h k (by omega)
   rwa [pk_lt_size (by omega), pk_lt_size (by omega)] at this
theorem Sh.fits {u s : ByteArray} {j i d : Nat} (h : Sh u j s i d) (hd : 0 < d) (hn : pk s (i + (d - 1)) ≠ 0) : j + d ≤ u.size := by
 have := lt_of_pk (s := u) (i := j + (d - 1)) (by rw [h (d - 1) (by omega)]; exact hn)
 omega
theorem Sh.mono {u s : ByteArray} {j i d d' : Nat} (h : Sh u j s i d) (hd : d' ≤ d) : Sh u j s i d' := fun k hk => h k (by omega)
theorem Sh.shift {u s : ByteArray} {j i d : Nat} (h : Sh u j s i d) (e : Nat) (d' : Nat) (hd : e + d' ≤ d) : Sh u (j + e) s (i + e) d' := fun k hk => by
 have := h (e + k) (by omega)
 rwa [← Nat.add_assoc, ← Nat.add_assoc] at this

theorem esc_sh {u s : ByteArray} {j i : Nat} {c : Int} {n : Nat} (h : esc s i = some (c, n)) (hs : Sh u j s i (n - i)) : esc u j = some (c, j + (n - i)) := by
 unfold esc at h
 by_cases h1 : pk s i = 110
 · rw [if_pos h1] at h; cases h
   have e := hs 0 (by omega)
   simp only [Nat.add_zero] at e
   rw [esc, e, if_pos h1]; congr 2; omega
 rw [if_neg h1] at h
 by_cases h2 : pk s i = 116
 · rw [if_pos h2] at h; cases h
   have e := hs 0 (by omega)
   simp only [Nat.add_zero] at e
   rw [esc, e, if_neg h1, if_pos h2]; congr 2; omega
 rw [if_neg h2] at h
 by_cases h3 : pk s i = 92
 · rw [if_pos h3] at h; cases h
   have e := hs 0 (by omega)
   simp only [Nat.add_zero] at e
   rw [esc, e, if_neg h1, if_neg h2, if_pos h3]; congr 2; omega
 rw [if_neg h3] at h
 by_cases h4 : pk s i = 34
 · rw [if_pos h4] at h; cases h
   have e := hs 0 (by omega)
   simp only [Nat.add_zero] at e
   rw [esc, e, if_neg h1, if_neg h2, if_neg h3, if_pos h4]; congr 2; omega
 rw [if_neg h4] at h
 by_cases h5 : pk s i = 120
 ·
  rw [if_pos h5] at h
  by_cases h6 : 0 ≤ hexv (pk s (i + 1)) ∧ 0 ≤ hexv (pk s (i + 2))
  · rw [if_pos h6] at h; cases h
    have e := hs 0 (by omega)
    simp only [Nat.add_zero] at e
    rw [esc, e, if_neg h1, if_neg h2, if_neg h3, if_neg h4, if_pos h5, hs 1 (by omega), hs 2 (by omega), if_pos h6]
    congr 2; omega
  · rw [if_neg h6] at h; cases h
 · rw [if_neg h5] at h; cases h
theorem esc_gt {s : ByteArray} {i n : Nat} {c : Int} (h : esc s i = some (c, n)) : i < n := by
 unfold esc at h
 repeat' split at h
 all_goals first
  | (cases h; done)
  | (cases h; omega)
theorem one_sh {u s : ByteArray} {j i : Nat} {c : Int} {n : Nat} (h : one s i = some (c, n)) (hs : Sh u j s i (n - i)) : one u j = some (c, j + (n - i)) := by
 have hgt := (one_ok h).1
 have e := hs 0 (by omega)
 simp only [Nat.add_zero] at e
 unfold one at h
 by_cases h1 : pk s i = 92
 · rw [if_pos h1] at h
   have hg := esc_gt h
   have := esc_sh (u := u) (j := j + 1) h (by have := hs.shift 1 (n - (i + 1)) (by omega); exact this)
   rw [one, e, if_pos h1, this]; congr 2; omega
 ·
  rw [if_neg h1] at h
  by_cases h2 : shw (pk s i) = true
  · rw [if_pos h2] at h
    cases h
    rw [one, e, if_neg h1, if_pos h2]; congr 2; omega
  · rw [if_neg h2] at h; cases h
theorem qts_sh {u s : ByteArray} : ∀ (f i : Nat) (l m : List Int) (n : Nat), qts s f i l = some (m, n) → ∀ (g j : Nat), n - i ≤ g → Sh u j s i (n - i) → qts u g j l = some (m, j + (n - i))
 | 0, i, l, m, n, h, g, j, hg, hs => by cases h
 | f + 1, i, l, m, n, h, g, j, hg, hs => by
  have hb := qts_ok _ _ _ _ _ h
  obtain ⟨g, rfl⟩ : ∃ k, g = k + 1 := ⟨g - 1, by omega⟩
  have e := hs 0 (by omega)
  simp only [Nat.add_zero] at e
  rw [qts] at h
  by_cases h1 : pk s i = 34
  · rw [if_pos h1] at h
    cases h
    rw [qts, e, if_pos h1]; congr 2; omega
  ·
   rw [if_neg h1] at h
   cases ho : one s i with
   | none => rw [ho] at h; cases h
   | some p =>
    obtain ⟨c, k⟩ := p
    rw [ho] at h
    have h2 := one_ok ho
    have h3 := qts_ok _ _ _ _ _ h
    have := one_sh (u := u) (j := j) ho (hs.mono (by omega))
    rw [qts, e, if_neg h1, this]
    simp only []
    have h4 := qts_sh f k (l ++ [c]) m n h g (j + (k - i)) (by omega) (by have := hs.shift (k - i) (n - k) (by omega); rwa [show i + (k - i) = k by omega] at this)
    rw [h4]; congr 2; omega

theorem qts_last {s : ByteArray} : ∀ (f i : Nat) (l m : List Int) (n : Nat), qts s f i l = some (m, n) → pk s (n - 1) = 34
 | 0, i, l, m, n, h => by cases h
 | f + 1, i, l, m, n, h => by
  rw [qts] at h
  by_cases h1 : pk s i = 34
  · rw [if_pos h1] at h; cases h; exact h1
  · rw [if_neg h1] at h
    cases ho : one s i with
    | none => rw [ho] at h; cases h
    | some p => rw [ho] at h; exact qts_last f _ _ _ _ h

/-! ### Signs -/
def m2 (x y : Int) : List Int → Bool
 | [a] => x == a
 | [a, b] => (x == a) && (y == b)
 | _ => false
def sg2 (x y : Int) : Option (List Int) := signs.find? (m2 x y)
theorem signs_short : ∀ g ∈ signs, g.length = 1 ∨ g.length = 2 := by decide +kernel
theorem mts_m2 (s : ByteArray) (i : Nat) (g : List Int) (h : g.length = 1 ∨ g.length = 2) : mts s i g = m2 (pk s i) (pk s (i + 1)) g := by
 match g, h with
 | [a], _ => simp [mts, m2]
 | [a, b], _ => simp [mts, m2]
theorem find_alike {p q : List Int → Bool} : ∀ l : List (List Int), (∀ g ∈ l, p g = q g) → l.find? p = l.find? q
 | [], _ => rfl
 | g :: l, h => by rw [List.find?_cons, List.find?_cons, h g (by simp), find_alike l (fun x hx => h x (by simp [hx]))]
theorem sgn_sg2 (s : ByteArray) (i : Nat) : sgn s i = sg2 (pk s i) (pk s (i + 1)) := find_alike signs (fun g hg => mts_m2 s i g (signs_short g hg))
theorem sg2_one : ∀ g ∈ signs, g.length = 1 → sg2 (g.getD 0 0) 32 = some g ∧ sg2 (g.getD 0 0) 10 = some g := by decide +kernel
theorem sgn_sh {u s : ByteArray} {j i : Nat} {l : List Int} (h : sgn s i = some l) (hi : i ≤ s.size) (hs : Sh u j s i l.length) (hn : StpU (pk u (j + l.length)) (pk s (i + l.length))) : sgn u j = some l := by
 obtain ⟨h1, h2, h3, h4⟩ := sgn_ok h hi
 have e := hs 0 (by omega)
 simp only [Nat.add_zero] at e
 rw [sgn_sg2] at h ⊢
 rw [e]
 rcases signs_short l h1 with h5 | h5
 ·
  rw [h5] at hn
  have h6 : pk s i = l.getD 0 0 := by have := mts_get l i h2 0 (by omega); simpa using this
  rcases hn with hn | hn | hn
  · rw [hn]; exact h
  · rw [hn, h6]; exact (sg2_one l h1 h5).1
  · rw [hn, h6]; exact (sg2_one l h1 h5).2
 · rw [hs 1 (by omega)]; exact h

theorem stp_no {p : Int → Bool} {c e : Int} (h : StpU c e) (he : p e = false) (h1 : p 32 = false) (h2 : p 10 = false) : p c = false := by
 rcases h with rfl | rfl | rfl
 · exact he
 · exact h1
 · exact h2
/-- The same bytes elsewhere are the same token. -/
theorem tok_sh {u s : ByteArray} {j i n : Nat} {t : Tok} (hi : i < s.size) (h : tokV s i = .ok (t, n)) (hs : Sh u j s i (n - i)) (hn : StpU (pk u (j + (n - i))) (pk s n)) :
 tokV u j = .ok ({ t with at' := j }, j + (n - i)) := by
 obtain ⟨o1, o2, -, -⟩ := tokV_ok hi h
 have e := hs 0 (by omega)
 simp only [Nat.add_zero] at e
 have hni : i + (n - i) = n := by omega
 unfold tokV at h
 by_cases h1 : dig (pk s i) = true
 ·
  rw [if_pos h1] at h
  have hse := span_end dig rfl s i
  by_cases h2 : 4611686018427387903 < dvx s i (span dig s i) ∨ inN (pk s (span dig s i)) = true
  · rw [if_pos h2] at h; cases h
  rw [if_neg h2] at h
  cases h
  have hin : ∀ k, k < span dig s i - i → dig (pk s (i + k)) = true := fun k hk => span_in (by omega) k hk
  have hnz : pk s (i + (span dig s i - i - 1)) ≠ 0 := fun e => by have := hin (span dig s i - i - 1) (by omega); rw [e] at this; exact absurd this (by decide)
  have hfit := hs.fits (by omega) hnz
  have hu : span dig u j = j + (span dig s i - i) := span_to rfl _ j (fun k hk => by rw [hs k hk]; exact hin k hk) (stp_no hn hse rfl rfl)
  have hx := ext_sh hs hfit (by omega)
  rw [hni] at hx
  have hno : inN (pk s (span dig s i)) = false := by simpa using fun e => h2 (.inr e)
  have hd : dvx u j (j + (span dig s i - i)) = dvx s i (span dig s i) := by rw [dvx, hx]; rfl
  rw [tokV, e, if_pos h1, hu, hd, if_neg]
  · rintro (h3 | h3)
    · exact h2 (.inl h3)
    · rw [stp_no (p := inN) hn hno rfl rfl] at h3; cases h3
 rw [if_neg h1] at h
 by_cases h2 : pk s i = 34
 ·
  rw [if_pos h2] at h
  cases hq : qtd s i with
  | none => rw [hq] at h; cases h
  | some p =>
   obtain ⟨l, k⟩ := p
   rw [hq] at h
   cases h
   have hb := qts_ok _ _ _ _ _ hq
   have h34 : pk s (i + (n - i - 1)) ≠ 0 := by
    rw [show i + (n - i - 1) = n - 1 by omega, qts_last _ _ _ _ _ hq]; decide
   have hfit := hs.fits (by omega) h34
   have := qts_sh (u := u) _ _ _ _ _ hq (u.size + 1) (j + 1) (by omega) (by have := hs.shift 1 (n - (i + 1)) (by omega); exact this)
   rw [tokV, e, if_neg h1, if_pos h2, qtd, this]
   simp only []
   congr 2; omega
 rw [if_neg h2] at h
 by_cases h3 : low (pk s i) = true ∨ vab (pk s i) = true
 ·
  rw [if_pos h3] at h
  by_cases h4 : 32 < span inN s i - i
  · rw [if_pos h4] at h; cases h
  rw [if_neg h4] at h
  cases h
  have hse := span_end inN rfl s i
  have hin : ∀ k, k < span inN s i - i → inN (pk s (i + k)) = true := fun k hk => span_in (by omega) k hk
  have hnz : pk s (i + (span inN s i - i - 1)) ≠ 0 := fun e => by have := hin (span inN s i - i - 1) (by omega); rw [e] at this; exact absurd this (by decide)
  have hfit := hs.fits (by omega) hnz
  have hu : span inN u j = j + (span inN s i - i) := span_to rfl _ j (fun k hk => by rw [hs k hk]; exact hin k hk) (stp_no hn hse rfl rfl)
  have hx := ext_sh hs hfit (by omega)
  rw [hni] at hx
  rw [tokV, e, if_neg h1, if_neg h2, if_pos h3, hu, hx, if_neg (by omega)]
 rw [if_neg h3] at h
 cases hq : sgn s i with
 | none => rw [hq] at h; cases h
 | some l =>
  rw [hq] at h
  cases h
  have hl : i + l.length - i = l.length := by omega
  rw [hl] at hs hn ⊢
  rw [tokV, e, if_neg h1, if_neg h2, if_neg h3, sgn_sh hq (by omega) hs hn]
end Go.Proofs.YtjedbfbolifjjaaGreatDoor

namespace Go.Proofs.YtjedbfbolifjjaaGreatDoor
open Go.RowKit Go.Maps
theorem scn_fuel {s : ByteArray} : ∀ (f g i : Nat) (l : List Tok), s.size < f + i → s.size < g + i → scn s f i l = scn s g i l
 | 0, g, i, l, hf, hg => by
  cases g with
  | zero => rfl
  | succ g => rw [scn, scn, if_neg (by omega)]
 | f + 1, 0, i, l, hf, hg => by rw [scn, scn, if_neg (by omega)]
 | f + 1, g + 1, i, l, hf, hg => by
  rw [scn, scn]
  by_cases hlt : i < s.size
  ·
   rw [if_pos hlt, if_pos hlt]
   cases ht : tokV s i with
   | error c => rfl
   | ok p =>
    obtain ⟨t, j⟩ := p
    have o := tokV_ok hlt ht
    have n := skp_ge s j false
    simp only []
    rw [scn_fuel f g (skp s j false) (l ++ [t]) (by omega) (by omega)]
  · rw [if_neg hlt, if_neg hlt]
/-- The tokens from i on, behind those that are there. -/
def scb (s : ByteArray) (i : Nat) (l : List Tok) : Except (Nat × Int) (List Tok) := scn s (s.size + 1) i l
theorem scb_end {s : ByteArray} {i : Nat} {l : List Tok} (h : s.size ≤ i) : scb s i l = .ok l := by rw [scb, scn, if_neg (by omega)]
theorem scb_tok {s : ByteArray} {i j : Nat} {l : List Tok} {t : Tok} (h : i < s.size) (hl : l.length ≠ 4000) (ht : tokV s i = .ok (t, j)) : scb s i l = scb s (skp s j false) (l ++ [t]) := by
 have o := tokV_ok h ht
 have n := skp_ge s j false
 rw [scb, scn, if_pos h, if_neg hl, ht]
 exact scn_fuel _ _ _ _ (by omega) (by omega)
/-- What an answer without an error shows of its first step. -/
theorem scb_ok {s : ByteArray} {i : Nat} {l m : List Tok} (h : i < s.size) (hm : scb s i l = .ok m) : l.length ≠ 4000 ∧ ∃ t j, tokV s i = .ok (t, j) ∧ scb s (skp s j false) (l ++ [t]) = .ok m := by
 have hm' := hm
 rw [scb, scn, if_pos h] at hm'
 by_cases hl : l.length = 4000
 · rw [if_pos hl] at hm'; cases hm'
 · rw [if_neg hl] at hm'
   cases ht : tokV s i with
   | error c => rw [ht] at hm'; cases hm'
   | ok p => exact ⟨hl, p.1, p.2, rfl, by rw [← scb_tok h hl ht]; exact hm⟩
theorem scanV_scb {s : ByteArray} (h : s.size ≤ 16384) : scanV s = scb s (skp s 0 false) [] := by rw [scanV, if_neg (by omega)]; rfl

/-- u is a, a line's end, and b. -/
structure Jn (a b u : ByteArray) : Prop where
 size : u.size = a.size + 1 + b.size
 fst : ∀ k, k < a.size → pk u k = pk a k
 mid : pk u a.size = 10
 snd : ∀ k, pk u (a.size + 1 + k) = pk b k
theorem skp_def (s : ByteArray) (i : Nat) (n : Bool) (h : i < s.size) : skp s i n = if pk s i = 10 then skp s (i + 1) false else if pk s i = 37 then skp s (i + 1) true else if n = false ∧ blk (pk s i) = false then i else skp s (i + 1) n := by
 rw [skp, dif_pos h, pk_lt_size h]
theorem skp_out (s : ByteArray) (i : Nat) (n : Bool) (h : s.size ≤ i) : skp s i n = i := by rw [skp, dif_neg (by omega)]
theorem Jn.nl {a b u : ByteArray} (h : Jn a b u) (n : Bool) : skp u a.size n = skp u (a.size + 1) false := by
 have := h.size
 rw [skp_def u a.size n (by omega), h.mid, if_pos rfl]
theorem Jn.skp1 {a b u : ByteArray} (h : Jn a b u) (i : Nat) (n : Bool) (hi : i ≤ a.size) : skp u i n = if skp a i n < a.size then skp a i n else skp u (a.size + 1) false := by
 have hz := h.size
 fun_induction skp a i n with
 | case1 i n hlt h1 ih =>
  have e := h.fst i hlt
  rw [pk_lt_size hlt] at e
  rw [skp_def u i n (by omega), e, if_pos h1]; exact ih (by omega)
 | case2 i n hlt h1 h2 ih =>
  have e := h.fst i hlt
  rw [pk_lt_size hlt] at e
  rw [skp_def u i n (by omega), e, if_neg h1, if_pos h2]; exact ih (by omega)
 | case3 i n hlt h1 h2 h3 =>
  have e := h.fst i hlt
  rw [pk_lt_size hlt] at e
  rw [skp_def u i n (by omega), e, if_neg h1, if_neg h2, if_pos h3, if_pos hlt]
 | case4 i n hlt h1 h2 h3 ih =>
  have e := h.fst i hlt
  rw [pk_lt_size hlt] at e
  rw [skp_def u i n (by omega), e, if_neg h1, if_neg h2, if_neg h3]; exact ih (by omega)
 | case5 i n hlt =>
  have : i = a.size := by omega
  subst this
  rw [if_neg (by omega)]; exact h.nl n
theorem Jn.skp2 {a b u : ByteArray} (h : Jn a b u) (i : Nat) (n : Bool) : skp u (a.size + 1 + i) n = a.size + 1 + skp b i n := by
 have hz := h.size
 fun_induction skp b i n with
 | case1 i n hlt h1 ih =>
  have e := h.snd i
  rw [pk_lt_size hlt] at e
  rw [skp_def u _ n (by omega), e, if_pos h1]; exact ih
 | case2 i n hlt h1 h2 ih =>
  have e := h.snd i
  rw [pk_lt_size hlt] at e
  rw [skp_def u _ n (by omega), e, if_neg h1, if_pos h2]; exact ih
 | case3 i n hlt h1 h2 h3 =>
  have e := h.snd i
  rw [pk_lt_size hlt] at e
  rw [skp_def u _ n (by omega), e, if_neg h1, if_neg h2, if_pos h3]
 | case4 i n hlt h1 h2 h3 ih =>
  have e := h.snd i
  rw [pk_lt_size hlt] at e
  rw [skp_def u _ n (by omega), e, if_neg h1, if_neg h2, if_neg h3]; exact ih
 | case5 i n hlt => exact skp_out _ _ _ (by omega)
/-- The first text's tokens. -/
theorem Jn.go1 {a b u : ByteArray} (h : Jn a b u) : ∀ (m i : Nat) (l x : List Tok), a.size < m + i → i ≤ a.size → scb a i l = .ok x → scb u (if i < a.size then i else skp u (a.size + 1) false) l = scb u (skp u (a.size + 1) false) x
 | 0, i, l, x, hm, hi, hx => by omega
 | m + 1, i, l, x, hm, hi, hx => by
  have hz := h.size
  by_cases hlt : i < a.size
  ·
   obtain ⟨hl, t, j, ht, hx2⟩ := scb_ok hlt hx
   obtain ⟨o1, o2, o3, o4⟩ := tokV_ok hlt ht
   have hsh : Sh u i a i (j - i) := fun k hk => h.fst (i + k) (by omega)
   have hst : StpU (pk u (i + (j - i))) (pk a j) := by
    rw [show i + (j - i) = j by omega]
    by_cases hj : j < a.size
    · exact .inl (h.fst j hj)
    · have : j = a.size := by omega
      subst this
      exact .inr (.inr h.mid)
   have ht2 := tok_sh hlt ht hsh hst
   rw [show i + (j - i) = j by omega, show ({ t with at' := i } : Tok) = t by rw [← o3]] at ht2
   rw [if_pos hlt, scb_tok (by omega) hl ht2, h.skp1 j false o2]
   exact h.go1 m (skp a j false) (l ++ [t]) x (by have := skp_ge a j false; omega) (skp_le false o2) hx2
  · rw [if_neg hlt]
    rw [scb_end (by omega)] at hx
    cases hx; rfl
/-- A token at another place. -/
def mv (d : Nat) (t : Tok) : Tok := { t with at' := d + t.at' }
theorem scb_len {s : ByteArray} {i : Nat} {l m : List Tok} (h : scb s i l = .ok m) : l.length ≤ m.length := by
 have : ∀ (f i : Nat) (l m : List Tok), scn s f i l = .ok m → l.length ≤ m.length := by
  intro f
  induction f with
  | zero => intro i l m h; cases h; exact Nat.le_refl _
  | succ f ih =>
   intro i l m h
   rw [scn] at h
   by_cases hlt : i < s.size
   ·
    rw [if_pos hlt] at h
    split at h
    · cases h
    · cases ht : tokV s i with
      | error c => rw [ht] at h; cases h
      | ok p =>
       rw [ht] at h
       have := ih _ _ _ h
       simp at this; omega
   · rw [if_neg hlt] at h; cases h; exact Nat.le_refl _
 exact this _ _ _ _ h
theorem Jn.go2 {a b u : ByteArray} (h : Jn a b u) (x : List Tok) (y : List Tok) (hxy : x.length + y.length ≤ 4000) : ∀ (m i : Nat) (l : List Tok), b.size < m + i → i ≤ b.size → scb b i l = .ok y → scb u (a.size + 1 + i) (x ++ l.map (mv (a.size + 1))) = .ok (x ++ y.map (mv (a.size + 1)))
 | 0, i, l, hm, hi, hx => by omega
 | m + 1, i, l, hm, hi, hx => by
  have hz := h.size
  by_cases hlt : i < b.size
  ·
   obtain ⟨hl, t, j, ht, hx2⟩ := scb_ok hlt hx
   obtain ⟨o1, o2, o3, o4⟩ := tokV_ok hlt ht
   have hsh : Sh u (a.size + 1 + i) b i (j - i) := fun k hk => by rw [Nat.add_assoc]; exact h.snd (i + k)
   have hst : StpU (pk u (a.size + 1 + i + (j - i))) (pk b j) := .inl (by rw [show a.size + 1 + i + (j - i) = a.size + 1 + j by omega]; exact h.snd j)
   have ht2 := tok_sh hlt ht hsh hst
   rw [show a.size + 1 + i + (j - i) = a.size + 1 + j by omega] at ht2
   have hlen := scb_len hx2
   simp at hlen
   rw [scb_tok (by omega) (by simp; omega) ht2, h.skp2 j false]
   have := h.go2 x y hxy m (skp b j false) (l ++ [t]) (by have := skp_ge b j false; omega) (skp_le false o2) hx2
   rw [← this]
   congr 1
   simp [mv, o3]
  · rw [scb_end (by omega)] at hx
    cases hx
    exact scb_end (by omega)
end Go.Proofs.YtjedbfbolifjjaaGreatDoor
