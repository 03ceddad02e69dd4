/-
  Two texts one behind the other, a line's end between: the tokens of both.
-/
import Derived.Test.YtbmbgnmkakkpfaaDoorU
set_option linter.unusedVariables false
set_option linter.unusedSimpArgs false
namespace Go.Proofs.YtbmbgnmkakkpfaaDoor
open Go.RowKit Go.Maps

theorem scn_fuel {s : ByteArray} : ∀ (f g i : Nat) (l : List Tok), s.size < f + i → s.size < g + i → scn s f i l = scn s g i l
  | 0, g, i, l, hf, hg => by
    cases g with
    | zero => rfl
    | succ g => rw [scn, scn, if_neg (by omega)]
  | f + 1, 0, i, l, hf, hg => by rw [scn, scn, if_neg (by omega)]
  | f + 1, g + 1, i, l, hf, hg => by
    rw [scn, scn]
    by_cases hlt : i < s.size
    · rw [if_pos hlt, if_pos hlt]
      cases ht : tokV s i with
      | error c => rfl
      | ok p =>
        obtain ⟨t, j⟩ := p
        have o := tokV_ok hlt ht
        have n := skp_ge s j false
        simp only []
        rw [scn_fuel f g (skp s j false) (l ++ [t]) (by omega) (by omega)]
    · rw [if_neg hlt, if_neg hlt]
/-- The tokens from i on, behind those that are there. -/
def scb (s : ByteArray) (i : Nat) (l : List Tok) : Except (Nat × Int) (List Tok) := scn s (s.size + 1) i l
theorem scb_end {s : ByteArray} {i : Nat} {l : List Tok} (h : s.size ≤ i) : scb s i l = .ok l := by rw [scb, scn, if_neg (by omega)]
theorem scb_tok {s : ByteArray} {i j : Nat} {l : List Tok} {t : Tok} (h : i < s.size) (hl : l.length ≠ 4000) (ht : tokV s i = .ok (t, j)) : scb s i l = scb s (skp s j false) (l ++ [t]) := by
  have o := tokV_ok h ht
  have n := skp_ge s j false
  rw [scb, scn, if_pos h, if_neg hl, ht]
  exact scn_fuel _ _ _ _ (by omega) (by omega)
/-- What an answer without an error shows of its first step. -/
theorem scb_ok {s : ByteArray} {i : Nat} {l m : List Tok} (h : i < s.size) (hm : scb s i l = .ok m) : l.length ≠ 4000 ∧ ∃ t j, tokV s i = .ok (t, j) ∧ scb s (skp s j false) (l ++ [t]) = .ok m := by
  have hm' := hm
  rw [scb, scn, if_pos h] at hm'
  by_cases hl : l.length = 4000
  · rw [if_pos hl] at hm'; cases hm'
  · rw [if_neg hl] at hm'
    cases ht : tokV s i with
    | error c => rw [ht] at hm'; cases hm'
    | ok p => exact ⟨hl, p.1, p.2, rfl, by rw [← scb_tok h hl ht]; exact hm⟩
theorem scanV_scb {s : ByteArray} (h : s.size ≤ 16384) : scanV s = scb s (skp s 0 false) [] := by rw [scanV, if_neg (by omega)]; rfl

/-- u is a, a line's end, and b. -/
structure Jn (a b u : ByteArray) : Prop where
  size : u.size = a.size + 1 + b.size
  fst : ∀ k, k < a.size → pk u k = pk a k
  mid : pk u a.size = 10
  snd : ∀ k, pk u (a.size + 1 + k) = pk b k
theorem skp_def (s : ByteArray) (i : Nat) (n : Bool) (h : i < s.size) : skp s i n = if pk s i = 10 then skp s (i + 1) false else if pk s i = 37 then skp s (i + 1) true else if n = false ∧ blk (pk s i) = false then i else skp s (i + 1) n := by
  rw [skp, dif_pos h, pk_lt_size h]
theorem skp_out (s : ByteArray) (i : Nat) (n : Bool) (h : s.size ≤ i) : skp s i n = i := by rw [skp, dif_neg (by omega)]
theorem Jn.nl {a b u : ByteArray} (h : Jn a b u) (n : Bool) : skp u a.size n = skp u (a.size + 1) false := by
  have := h.size
  rw [skp_def u a.size n (by omega), h.mid, if_pos rfl]
theorem Jn.skp1 {a b u : ByteArray} (h : Jn a b u) (i : Nat) (n : Bool) (hi : i ≤ a.size) : skp u i n = if skp a i n < a.size then skp a i n else skp u (a.size + 1) false := by
  have hz := h.size
  fun_induction skp a i n with
  | case1 i n hlt h1 ih =>
    have e := h.fst i hlt
    rw [pk_lt_size hlt] at e
    rw [skp_def u i n (by omega), e, if_pos h1]; exact ih (by omega)
  | case2 i n hlt h1 h2 ih =>
    have e := h.fst i hlt
    rw [pk_lt_size hlt] at e
    rw [skp_def u i n (by omega), e, if_neg h1, if_pos h2]; exact ih (by omega)
  | case3 i n hlt h1 h2 h3 =>
    have e := h.fst i hlt
    rw [pk_lt_size hlt] at e
    rw [skp_def u i n (by omega), e, if_neg h1, if_neg h2, if_pos h3, if_pos hlt]
  | case4 i n hlt h1 h2 h3 ih =>
    have e := h.fst i hlt
    rw [pk_lt_size hlt] at e
    rw [skp_def u i n (by omega), e, if_neg h1, if_neg h2, if_neg h3]; exact ih (by omega)
  | case5 i n hlt =>
    have : i = a.size := by omega
    subst this
    rw [if_neg (by omega)]; exact h.nl n
theorem Jn.skp2 {a b u : ByteArray} (h : Jn a b u) (i : Nat) (n : Bool) : skp u (a.size + 1 + i) n = a.size + 1 + skp b i n := by
  have hz := h.size
  fun_induction skp b i n with
  | case1 i n hlt h1 ih =>
    have e := h.snd i
    rw [pk_lt_size hlt] at e
    rw [skp_def u _ n (by omega), e, if_pos h1]; exact ih
  | case2 i n hlt h1 h2 ih =>
    have e := h.snd i
    rw [pk_lt_size hlt] at e
    rw [skp_def u _ n (by omega), e, if_neg h1, if_pos h2]; exact ih
  | case3 i n hlt h1 h2 h3 =>
    have e := h.snd i
    rw [pk_lt_size hlt] at e
    rw [skp_def u _ n (by omega), e, if_neg h1, if_neg h2, if_pos h3]
  | case4 i n hlt h1 h2 h3 ih =>
    have e := h.snd i
    rw [pk_lt_size hlt] at e
    rw [skp_def u _ n (by omega), e, if_neg h1, if_neg h2, if_neg h3]; exact ih
  | case5 i n hlt => exact skp_out _ _ _ (by omega)
/-- The first text's tokens. -/
theorem Jn.go1 {a b u : ByteArray} (h : Jn a b u) : ∀ (m i : Nat) (l x : List Tok), a.size < m + i → i ≤ a.size → scb a i l = .ok x → scb u (if i < a.size then i else skp u (a.size + 1) false) l = scb u (skp u (a.size + 1) false) x
  | 0, i, l, x, hm, hi, hx => by omega
  | m + 1, i, l, x, hm, hi, hx => by
    have hz := h.size
    by_cases hlt : i < a.size
    · obtain ⟨hl, t, j, ht, hx2⟩ := scb_ok hlt hx
      obtain ⟨o1, o2, o3, o4⟩ := tokV_ok hlt ht
      have hsh : Sh u i a i (j - i) := fun k hk => h.fst (i + k) (by omega)
      have hst : Stp (pk u (i + (j - i))) (pk a j) := by
        rw [show i + (j - i) = j by omega]
        by_cases hj : j < a.size
        · exact .inl (h.fst j hj)
        · have : j = a.size := by omega
          subst this
          exact .inr (.inr h.mid)
      have ht2 := tok_sh hlt ht hsh hst
      rw [show i + (j - i) = j by omega, show ({ t with at' := i } : Tok) = t by rw [← o3]] at ht2
      rw [if_pos hlt, scb_tok (by omega) hl ht2, h.skp1 j false o2]
      exact h.go1 m (skp a j false) (l ++ [t]) x (by have := skp_ge a j false; omega) (skp_le false o2) hx2
    · rw [if_neg hlt]
      rw [scb_end (by omega)] at hx
      cases hx; rfl
/-- A token at another place. -/
def mv (d : Nat) (t : Tok) : Tok := { t with at' := d + t.at' }
theorem scb_len {s : ByteArray} {i : Nat} {l m : List Tok} (h : scb s i l = .ok m) : l.length ≤ m.length := by
  have : ∀ (f i : Nat) (l m : List Tok), scn s f i l = .ok m → l.length ≤ m.length := by
    intro f
    induction f with
    | zero => intro i l m h; cases h; exact Nat.le_refl _
    | succ f ih =>
      intro i l m h
      rw [scn] at h
      by_cases hlt : i < s.size
      · rw [if_pos hlt] at h
        split at h
        · cases h
        · cases ht : tokV s i with
          | error c => rw [ht] at h; cases h
          | ok p =>
            rw [ht] at h
            have := ih _ _ _ h
            simp at this; omega
      · rw [if_neg hlt] at h; cases h; exact Nat.le_refl _
  exact this _ _ _ _ h
theorem Jn.go2 {a b u : ByteArray} (h : Jn a b u) (x : List Tok) (y : List Tok) (hxy : x.length + y.length ≤ 4000) : ∀ (m i : Nat) (l : List Tok), b.size < m + i → i ≤ b.size → scb b i l = .ok y → scb u (a.size + 1 + i) (x ++ l.map (mv (a.size + 1))) = .ok (x ++ y.map (mv (a.size + 1)))
  | 0, i, l, hm, hi, hx => by omega
  | m + 1, i, l, hm, hi, hx => by
    have hz := h.size
    by_cases hlt : i < b.size
    · obtain ⟨hl, t, j, ht, hx2⟩ := scb_ok hlt hx
      obtain ⟨o1, o2, o3, o4⟩ := tokV_ok hlt ht
      have hsh : Sh u (a.size + 1 + i) b i (j - i) := fun k hk => by rw [Nat.add_assoc]; exact h.snd (i + k)
      have hst : Stp (pk u (a.size + 1 + i + (j - i))) (pk b j) := .inl (by rw [show a.size + 1 + i + (j - i) = a.size + 1 + j by omega]; exact h.snd j)
      have ht2 := tok_sh hlt ht hsh hst
      rw [show a.size + 1 + i + (j - i) = a.size + 1 + j by omega] at ht2
      have hlen := scb_len hx2
      simp at hlen
      rw [scb_tok (by omega) (by simp; omega) ht2, h.skp2 j false]
      have := h.go2 x y hxy m (skp b j false) (l ++ [t]) (by have := skp_ge b j false; omega) (skp_le false o2) hx2
      rw [← this]
      congr 1
      simp [mv, o3]
    · rw [scb_end (by omega)] at hx
      cases hx
      exact scb_end (by omega)
theorem joined {a b u : ByteArray} (h : Jn a b u) (x y : List Tok) (hx : scanV a = .ok x) (hy : scanV b = .ok y) (hz : a.size + b.size + 1 ≤ 16384) (hl : x.length + y.length ≤ 4000) : scanV u = .ok (x ++ y.map (mv (a.size + 1))) := by
  have hs := h.size
  rw [scanV_scb (by omega)] at hx hy ⊢
  rw [h.skp1 0 false (Nat.zero_le _), h.go1 (a.size + 1) (skp a 0 false) [] x (by omega) (skp_le false (Nat.zero_le _)) hx]
  have := h.skp2 0 false
  rw [Nat.add_zero] at this
  rw [this]
  have g := h.go2 x y hl (b.size + 1) (skp b 0 false) [] (by omega) (skp_le false (Nat.zero_le _)) hy
  simpa using g
end Go.Proofs.YtbmbgnmkakkpfaaDoor
