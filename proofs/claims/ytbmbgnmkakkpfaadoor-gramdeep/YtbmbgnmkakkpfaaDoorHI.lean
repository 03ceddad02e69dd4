/-
  40 within one another, and not one more: what is parsed (pure).
-/
import Derived.Test.YtbmbgnmkakkpfaaDoorHG
set_option linter.unusedVariables false
set_option linter.unusedSimpArgs false
namespace Go.Proofs.YtbmbgnmkakkpfaaDoor
theorem repL_add {α : Type} : ∀ (a b : Nat) (l : List α), repL (a + b) l = repL a l ++ repL b l
  | 0, b, l => by rw [Nat.zero_add, repL_zero, List.nil_append]
  | a + 1, b, l => by rw [show a + 1 + b = (a + b) + 1 by omega, repL_succ, repL_succ, repL_add a b l, List.append_assoc]
theorem all9 {f : Nat → Bool} (h : ((List.range 9).all f) = true) {k : Nat} (hk : k < 9) : f k = true := List.all_eq_true.1 h k (List.mem_range.2 hk)
def szK (k : Nat) : Bool := decide ((dH k).length ≤ 15) && decide ((dE k).length ≤ 4) && decide ((tH k).length = dMany k) && decide (dMany k ≤ 5) && decide (dLead k < dMany k) && decide ((tE k).length ≤ 1) && ((dH k ++ dE k).all fun c => decide (0 ≤ c) && decide (c < 256)) && ((dToks k 41).length != 0) && ((tH k ++ tE k).all fun t => t.b == [])
theorem szK_all : ((List.range 9).all szK) = true := by decide +kernel
theorem sz_facts {k : Nat} (hk : k < 9) : (dH k).length ≤ 15 ∧ (dE k).length ≤ 4 ∧ (tH k).length = dMany k ∧ dMany k ≤ 5 ∧ dLead k < dMany k ∧ (tE k).length ≤ 1 ∧ (∀ c ∈ dH k, 0 ≤ c ∧ c < 256) ∧ (∀ c ∈ dE k, 0 ≤ c ∧ c < 256) ∧ (∀ t ∈ tH k, t.b = []) ∧ (∀ t ∈ tE k, t.b = []) := by
  have h := all9 szK_all hk
  unfold szK at h
  simp only [Bool.and_eq_true, decide_eq_true_eq, List.all_eq_true, List.mem_append, beq_iff_eq] at h
  obtain ⟨⟨⟨⟨⟨⟨⟨⟨h1, h2⟩, h3⟩, h4⟩, h5⟩, h6⟩, h7⟩, _⟩, h8⟩ := h
  exact ⟨h1, h2, h3, h4, h5, h6, fun c hc => h7 c (.inl hc), fun c hc => h7 c (.inr hc), fun t ht => h8 t (.inl ht), fun t ht => h8 t (.inr ht)⟩
theorem dText_bytes {k : Nat} (hk : k < 9) (n : Nat) : ∀ c ∈ dText k n, 0 ≤ c ∧ c < 256 := by
  obtain ⟨_, _, _, _, _, _, h7, h8, _⟩ := sz_facts hk
  intro c hc
  unfold dText at hc
  rcases List.mem_append.1 hc with hc | hc
  · have : ∀ c ∈ dA, 0 ≤ c ∧ c < 256 := by decide
    exact this c hc
  rcases List.mem_append.1 hc with hc | hc
  · exact h7 c (repL_mem hc)
  rcases List.mem_append.1 hc with hc | hc
  · rw [List.mem_singleton] at hc; subst hc; decide
  rcases List.mem_append.1 hc with hc | hc
  · exact h8 c (repL_mem hc)
  · rw [List.mem_singleton] at hc; subst hc; decide
theorem mul_le {a b c d : Nat} (h1 : a ≤ c) (h2 : b ≤ d) : a * b ≤ c * d := Nat.mul_le_mul h1 h2
theorem dText_size {k n : Nat} (hk : k < 9) (hn : n ≤ 300) : (dText k n).length ≤ 5800 := by
  obtain ⟨h1, h2, _⟩ := sz_facts hk
  unfold dText
  simp only [List.length_append, repL_len, List.length_cons, List.length_nil]
  have a := mul_le hn h1
  have b := mul_le hn h2
  have : dA.length = 7 := rfl
  omega
theorem deep_scan {k n : Nat} (hk : k < 9) (hn : n ≤ 300) : ∃ l, scanV (sb (dText k n)) = .ok l ∧ l.map st = dToks k n := by
  have hz := dText_size hk hn
  obtain ⟨h1, h2, h3, h4, h5, h6, h7, h8, _⟩ := sz_facts hk
  have ho := all9 okK_all hk
  unfold okK at ho
  simp only [Bool.and_eq_true] at ho
  obtain ⟨⟨⟨⟨⟨⟨⟨o1, o2⟩, o3⟩, o4⟩, o5⟩, o6⟩, o7⟩, o8⟩ := ho
  have a := mul_le hn (Nat.le_trans (Nat.le_of_eq h3) h4)
  have b := mul_le hn h6
  have hHne : dH k ≠ [] := by intro e; rw [e] at o8; exact absurd o8 (by decide)
  refine scan_deep (A := dA) (H := dH k) (M := [122]) (E := dE k) (D := [46]) n (dText_bytes hk n) (by unfold dText at hz; omega) (by show 4 + (n * (tH k).length + (1 + (n * (tE k).length + 1))) ≤ 4000; omega) 122 [] rfl 46 [] rfl ⟨hHne, o1, o2⟩ ⟨o3, o4⟩ ?_ ⟨o5, fun hE => ?_⟩ o7
  · by_cases hE : dE k = []
    · rw [if_pos (by rw [hE]; rfl)] at o6
      exact .inl ⟨hE, List.isEmpty_iff.1 o6⟩
    · rw [if_neg (by rw [List.isEmpty_iff]; exact hE)] at o6
      simp only [Bool.and_eq_true] at o6
      exact .inr ⟨hE, o6.1.1, o6.1.2⟩
  · rw [if_neg (by rw [List.isEmpty_iff]; exact hE)] at o6
    simp only [Bool.and_eq_true] at o6
    exact o6.2
theorem st_pk {l : List Tok} (p : Ps) : Eqv (pkT (l.map tnOf) p) (pkT (l.map st) p) := by
  unfold pkT
  by_cases he : p.e = 0
  · rw [if_pos he, if_pos he, List.getElem?_map, List.getElem?_map]
    cases l[p.i]? with
    | none => exact Eqv.refl _
    | some t => exact ⟨rfl, rfl, rfl, rfl⟩
  · rw [if_neg he, if_neg he]; exact Eqv.refl _
theorem Eqv.trans {a b c : Tn} (h1 : Eqv a b) (h2 : Eqv b c) : Eqv a c := ⟨h1.1.trans h2.1, h1.2.1.trans h2.2.1, h1.2.2.1.trans h2.2.2.1, h1.2.2.2.trans h2.2.2.2⟩
theorem okD_all {k n : Nat} (hk : k < 9) (hn : n ≤ 40) : okD k n = true := by
  have hm : n ∈ List.range 41 := List.mem_range.2 (by omega)
  match k, hk with
  | 0, _ => exact List.all_eq_true.1 okD0 n hm
  | 1, _ => exact List.all_eq_true.1 okD1 n hm
  | 2, _ => exact List.all_eq_true.1 okD2 n hm
  | 3, _ => exact List.all_eq_true.1 okD3 n hm
  | 4, _ => exact List.all_eq_true.1 okD4 n hm
  | 5, _ => exact List.all_eq_true.1 okD5 n hm
  | 6, _ => exact List.all_eq_true.1 okD6 n hm
  | 7, _ => exact List.all_eq_true.1 okD7 n hm
  | 8, _ => exact List.all_eq_true.1 okD8 n hm
  | k + 9, h => omega
theorem dToks_plain {k : Nat} (hk : k < 9) (n : Nat) : Plain (dToks k n) := by
  obtain ⟨_, _, _, _, _, _, _, _, h9, h10⟩ := sz_facts hk
  intro t ht _
  unfold dToks at ht
  rcases List.mem_append.1 ht with ht | ht
  · unfold tP at ht
    simp only [List.mem_cons, List.not_mem_nil, or_false] at ht
    rcases ht with rfl | rfl | rfl | rfl <;> rfl
  rcases List.mem_append.1 ht with ht | ht
  · exact h9 t (repL_mem ht)
  rcases List.mem_append.1 ht with ht | ht
  · rw [List.mem_singleton] at ht; subst ht; rfl
  rcases List.mem_append.1 ht with ht | ht
  · exact h10 t (repL_mem ht)
  · rw [List.mem_singleton] at ht; subst ht; rfl
theorem deep_ok {k n : Nat} (hk : k < 9) (hn : n ≤ 40) : ∃ m, textV (sb (dText k n)) = .ok (.mk 18 e0 0 [] m) := by
  obtain ⟨l, hl, hs⟩ := deep_scan hk (show n ≤ 300 by omega)
  have ho := okD_all hk hn
  unfold okD at ho
  cases hp : parseV (dToks k n) with
  | error c => rw [hp] at ho; cases ho
  | ok T =>
    have hT := (parse_ok hp).1
    have := parse_eqv (ts := dToks k n) (ts' := l.map tnOf) (fun K => ⟨fun p _ => by rw [sh0, ← hs]; exact st_pk p, by rw [← hs, List.length_map, List.length_map]; exact Nat.le_refl _⟩) (by rw [← hs, List.length_map, List.length_map]) (dToks_plain hk n) hp
    refine ⟨(progV (dToks k n) (exun (dToks k n) 41).1 ⟨0, 0, 0⟩).1, ?_⟩
    rw [textV, hl]
    show parseV (l.map tnOf) = _
    rw [this, hT]
theorem deep_err {k n : Nat} (hk : k < 9) (h1 : 41 ≤ n) (hn : n ≤ 300) : textV (sb (dText k n)) = .error (4 + dMany k * 40 + dLead k, 161) := by
  obtain ⟨l, hl, hs⟩ := deep_scan hk hn
  obtain ⟨_, _, h3, h4, h5, _⟩ := sz_facts hk
  have he := all9 errD_all hk
  unfold errD at he
  simp only [Bool.and_eq_true, beq_iff_eq] at he
  rw [textV, hl]
  show parseV (l.map tnOf) = _
  have hsplit : ∀ m, 41 ≤ m → ∀ i, i < 4 + 41 * dMany k → (dToks k m)[i]? = (tP ++ repL 41 (tH k))[i]? := by
    intro m hm i hi
    unfold dToks
    rw [show m = 41 + (m - 41) by omega, repL_add, List.append_assoc, ← List.append_assoc, List.getElem?_append_left]
    rw [List.length_append, repL_len, h3]
    exact hi
  have hlen : (dToks k 41).length ≤ (dToks k n).length := by
    unfold dToks
    simp only [List.length_append, repL_len]
    have a := Nat.mul_le_mul_right (tH k).length h1
    have b := Nat.mul_le_mul_right (tE k).length h1
    omega
  refine parse_err (ts := dToks k 41) (d := (funV (dToks k 41) (exun (dToks k 41) 41).1 ⟨0, 0, 0⟩).2.d) ⟨fun p hp => ?_, ?_⟩ ?_ (by decide) ?_
  · rw [sh0]
    refine (st_pk p).trans ?_
    rw [hs]
    unfold pkT
    by_cases hq : p.e = 0
    · rw [if_pos hq, if_pos hq, hsplit n h1 p.i (by omega), hsplit 41 (Nat.le_refl _) p.i (by omega)]
      exact Eqv.refl _
    · rw [if_neg hq, if_neg hq]; exact Eqv.refl _
  · rw [List.length_map]
    have := congrArg List.length hs
    rw [List.length_map] at this
    omega
  · unfold dToks
    simp only [List.length_append]
    have : tP.length = 4 := rfl
    omega
  · generalize (funV (dToks k 41) (exun (dToks k 41) 41).1 ⟨0, 0, 0⟩).2 = q at he ⊢
    obtain ⟨i, d, c⟩ := q
    obtain ⟨e1, e2⟩ := he
    have e1' : i = 4 + dMany k * 40 + dLead k := e1
    have e2' : c = 161 := e2
    subst e1' e2'
    rfl
end Go.Proofs.YtbmbgnmkakkpfaaDoor
