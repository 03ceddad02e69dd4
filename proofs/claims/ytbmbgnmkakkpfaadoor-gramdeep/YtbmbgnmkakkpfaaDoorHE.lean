/-
  Tokens one behind the other: the functions of both (pure).
-/
import Derived.Test.YtbmbgnmkakkpfaaDoorHD
set_option linter.unusedVariables false
set_option linter.unusedSimpArgs false
namespace Go.Proofs.YtbmbgnmkakkpfaaDoor
section
variable {ts ts' : List Tn} {n K : Nat} {ex ex' : Rule}
theorem sh0 (p : Ps) : p.sh 0 = p := by cases p; simp [Ps.sh]
theorem Sees.refl (ts : List Tn) (K : Nat) : Sees ts ts 0 K := ⟨fun p _ => by rw [sh0]; exact Eqv.refl _, Nat.le_refl _⟩
theorem want_in {s : ByteArray} {p : Ps} (h : (wantV ts s p).e = 0) : p.i < ts.length ∧ wantV ts s p = p.next := by
  unfold wantV at h ⊢
  by_cases hs : isV ts p s = true
  · rw [if_pos hs]
    refine ⟨?_, rfl⟩
    have hk : (pkT ts p).k = 5 ∨ (pkT ts p).k = 6 := by
      unfold isV at hs
      simp only [Bool.and_eq_true, Bool.or_eq_true, beq_iff_eq] at hs
      exact hs.1
    have h0 : (pkT ts p).k ≠ 0 := by rcases hk with e | e <;> rw [e] <;> decide
    exact (List.getElem?_eq_some_iff.1 (pk_at h0).2).1
  · rw [if_neg hs] at h
    exact (fail_no (c := 160) (by decide) h).elim
theorem fun_in {p : Ps} (h : (funV ts ex p).2.e = 0) : (arrowV ts ex (parV ts p).2).2.i < ts.length ∧ (funV ts ex p).2.i = (arrowV ts ex (parV ts p).2).2.i + 1 := by
  have h' : (wantV ts dot (arrowV ts ex (parV ts p).2).2).e = 0 := h
  obtain ⟨h1, h2⟩ := want_in h'
  refine ⟨h1, ?_⟩
  show (wantV ts dot (arrowV ts ex (parV ts p).2).2).i = _
  rw [h2]; rfl
theorem progL_stop {q : Ps} (h : ¬ (q.e = 0 ∧ q.i < ts.length)) (l : List Tr) : ∀ F, progL ts ex F l q = (l, q)
  | 0 => rfl
  | F + 1 => by rw [progL, if_neg h]
theorem progL_e {f : Nat} {l : List Tr} {p : Ps} (h : (progL ts ex f l p).2.e = 0) : p.e = 0 := by
  by_cases he : p.e = 0
  · exact he
  · rw [progL_stop (fun hh => he hh.1)] at h; exact h
theorem progS (hs : Sees ts ts' n K) (hK : ts.length ≤ K + 1) (hl : n + ts.length ≤ ts'.length) (hx : Sim n K ex ex') (L : List Tr) : ∀ (f : Nat) (l : List Tr) (p : Ps), (progL ts ex f l p).2.e = 0 → (p.i ≤ ts.length → (progL ts ex f l p).2.i ≤ ts.length) ∧ (progL ts ex f l p).2.d = p.d ∧
    ∃ k, k ≤ f ∧ k + p.i ≤ (progL ts ex f l p).2.i ∧ ∀ F, progL ts' ex' (F + k) (L ++ l) (p.sh n) = progL ts' ex' F (L ++ (progL ts ex f l p).1) ((progL ts ex f l p).2.sh n)
  | 0, l, p, h => ⟨fun hp => hp, rfl, 0, Nat.le_refl _, Nat.le_of_eq (Nat.zero_add _), fun F => rfl⟩
  | f + 1, l, p, h => by
    rw [progL] at h ⊢
    by_cases hc : p.e = 0 ∧ p.i < ts.length
    · rw [if_pos hc] at h ⊢
      have he := progL_e h
      obtain ⟨h1, h2⟩ := fun_in he
      obtain ⟨⟨m1, m2⟩, m3⟩ := fun_sim hs hx p
      obtain ⟨q1, q2, k, hk, hki, ih⟩ := progS hs hK hl hx L f (l ++ [(funV ts ex p).1]) (funV ts ex p).2 h
      have hpa : p.i ≤ (arrowV ts ex (parV ts p).2).2.i := by
        obtain ⟨⟨a1, _⟩, _⟩ := name_sim hs 2 p
        obtain ⟨⟨b1, _⟩, _⟩ := want_sim hs opn (nameV ts 2 p).2
        obtain ⟨⟨c1, _⟩, _⟩ := upto_sim hs shutR (var_sim hs) (wantV ts opn (nameV ts 2 p).2)
        have hpar : parV ts p = uptoV ts shutR (varV ts) (wantV ts opn (nameV ts 2 p).2) := rfl
        rw [← hpar] at c1
        obtain ⟨⟨d1, _⟩, _⟩ := arrow_sim hs hx (parV ts p).2
        omega
      refine ⟨fun _ => q1 (by omega), by omega, k + 1, by omega, by omega, fun F => ?_⟩
      have hcc : (p.sh n).e = 0 ∧ (p.sh n).i < ts'.length := ⟨hc.1, by show n + p.i < ts'.length; have := hc.2; omega⟩
      rw [show F + (k + 1) = (F + k) + 1 from rfl, progL, if_pos hcc, m3 (by omega), List.append_assoc]
      exact ih F
    · rw [if_neg hc]
      exact ⟨fun hp => hp, rfl, 0, Nat.zero_le _, Nat.le_of_eq (Nat.zero_add _), fun F => rfl⟩
theorem parse_ok {T : Tr} (h : parseV ts = .ok T) : T = .mk 18 e0 0 [] (progV ts (exun ts 41).1 ⟨0, 0, 0⟩).1 ∧ (progV ts (exun ts 41).1 ⟨0, 0, 0⟩).2.e = 0 := by
  unfold parseV at h
  split at h
  · cases h
  · rename_i hh
    cases h
    exact ⟨rfl, by simpa using hh⟩
theorem parse_is (he : (progV ts (exun ts 41).1 ⟨0, 0, 0⟩).2.e = 0) : parseV ts = .ok (.mk 18 e0 0 [] (progV ts (exun ts 41).1 ⟨0, 0, 0⟩).1) := by
  unfold parseV
  rw [if_neg (by simp [he])]
/-- Where Parse ends well it has read all tokens. -/
theorem prog_all (hP : Plain ts) (he : (progV ts (exun ts 41).1 ⟨0, 0, 0⟩).2.e = 0) : (progV ts (exun ts 41).1 ⟨0, 0, 0⟩).2 = ⟨ts.length, 0, 0⟩ := by
  have hx := (exun_sim (Sees.refl ts ts.length) 41).1
  obtain ⟨q1, q2, _⟩ := progS (Sees.refl ts ts.length) (Nat.le_succ _) (by omega) hx [] (2 * ts.length + 1) [] ⟨0, 0, 0⟩ he
  obtain ⟨a1, _, _⟩ := progL_good hP (exun_good hP 41).1 (exun_err 41) (2 * ts.length + 1) [] ⟨0, 0, 0⟩ (by unfold mu; simp) (by rw [yl_nil, yk_same]) (by rw [cnt_nil]; simp) he
  have q1' := q1 (Nat.zero_le _)
  unfold progV at he ⊢
  generalize progL ts (exun ts 41).1 (2 * ts.length + 1) [] ⟨0, 0, 0⟩ = r at *
  obtain ⟨l, ⟨i, d, e⟩⟩ := r
  have e1 : i = ts.length := by
    have h1 : ts.length ≤ i := a1
    have h2 : i ≤ ts.length := q1'
    omega
  have e2 : d = 0 := q2
  have e3 : e = 0 := he
  subst e1 e2 e3
  rfl
theorem parse_join {ts1 ts2 : List Tn} {T U : Tr} (hP1 : Plain ts1) (hP2 : Plain ts2) (h1 : parseV ts1 = .ok T) (h2 : parseV ts2 = .ok U) (hs1 : 0 < ts1.length → Sees ts1 ts' 0 (ts1.length - 1)) (hs2 : Sees ts2 ts' ts1.length ts2.length) (hl : ts'.length = ts1.length + ts2.length) :
    ∃ l1 l2, T = .mk 18 e0 0 [] l1 ∧ U = .mk 18 e0 0 [] l2 ∧ parseV ts' = .ok (.mk 18 e0 0 [] (l1 ++ l2)) := by
  obtain ⟨hT, e1⟩ := parse_ok h1
  obtain ⟨hU, e2⟩ := parse_ok h2
  have a1 := prog_all hP1 e1
  have a2 := prog_all hP2 e2
  refine ⟨_, _, hT, hU, ?_⟩
  have s1 : ∃ k, k ≤ ts1.length ∧ ∀ F, progL ts' (exun ts' 41).1 (F + k) [] ⟨0, 0, 0⟩ = progL ts' (exun ts' 41).1 F (progV ts1 (exun ts1 41).1 ⟨0, 0, 0⟩).1 ((⟨0, 0, 0⟩ : Ps).sh ts1.length) := by
    by_cases hp : 0 < ts1.length
    · have hs := hs1 hp
      obtain ⟨_, _, k, hk, hki, ih⟩ := progS hs (by omega) (by omega) (exun_sim hs 41).1 [] (2 * ts1.length + 1) [] ⟨0, 0, 0⟩ e1
      have hq : (progL ts1 (exun ts1 41).1 (2 * ts1.length + 1) [] ⟨0, 0, 0⟩).2 = ⟨ts1.length, 0, 0⟩ := a1
      rw [hq] at hki ih
      refine ⟨k, by simpa using hki, fun F => ?_⟩
      have := ih F
      rw [sh0, sh0] at this
      exact this
    · have hn : ts1 = [] := List.eq_nil_of_length_eq_zero (by omega)
      subst hn
      exact ⟨0, Nat.zero_le _, fun F => rfl⟩
  obtain ⟨k1, hk1, s1⟩ := s1
  obtain ⟨_, _, k2, hk2, hki2, s2⟩ := progS hs2 (Nat.le_succ _) (by omega) (exun_sim hs2 41).1 (progV ts1 (exun ts1 41).1 ⟨0, 0, 0⟩).1 (2 * ts2.length + 1) [] ⟨0, 0, 0⟩ e2
  have hq : (progL ts2 (exun ts2 41).1 (2 * ts2.length + 1) [] ⟨0, 0, 0⟩).2 = ⟨ts2.length, 0, 0⟩ := a2
  rw [hq] at hki2 s2
  have hki2' : k2 ≤ ts2.length := by simpa using hki2
  have hprog : progV ts' (exun ts' 41).1 ⟨0, 0, 0⟩ = ((progV ts1 (exun ts1 41).1 ⟨0, 0, 0⟩).1 ++ (progV ts2 (exun ts2 41).1 ⟨0, 0, 0⟩).1, ⟨ts1.length + ts2.length, 0, 0⟩) := by
    unfold progV
    obtain ⟨F, hF⟩ : ∃ F, 2 * ts'.length + 1 = F + k2 + k1 := ⟨2 * ts'.length + 1 - k2 - k1, by omega⟩
    rw [hF, s1 (F + k2)]
    have := s2 F
    rw [List.append_nil] at this
    rw [this]
    exact progL_stop (fun hh => absurd hh.2 (by show ¬ ts1.length + ts2.length < ts'.length; omega)) _ F
  have := parse_is (ts := ts') (by rw [hprog])
  rw [hprog] at this
  exact this
/-- Tokens that are the same but for their places are the same trees, and what is wrong is the same. -/
theorem parse_eqv (hs : ∀ K, Sees ts ts' 0 K) (hl : ts'.length = ts.length) (hP : Plain ts) {T : Tr} (h : parseV ts = .ok T) : parseV ts' = .ok T := by
  obtain ⟨hT, e1⟩ := parse_ok h
  have a1 := prog_all hP e1
  have hs := hs ts.length
  obtain ⟨_, _, k, hk, hki, ih⟩ := progS hs (Nat.le_succ _) (by omega) (exun_sim hs 41).1 [] (2 * ts.length + 1) [] ⟨0, 0, 0⟩ e1
  have hq : (progL ts (exun ts 41).1 (2 * ts.length + 1) [] ⟨0, 0, 0⟩).2 = ⟨ts.length, 0, 0⟩ := a1
  rw [hq] at hki ih
  have hprog : progV ts' (exun ts' 41).1 ⟨0, 0, 0⟩ = ((progV ts (exun ts 41).1 ⟨0, 0, 0⟩).1, ⟨ts.length, 0, 0⟩) := by
    unfold progV
    obtain ⟨F, hF⟩ : ∃ F, 2 * ts'.length + 1 = F + k := ⟨2 * ts'.length + 1 - k, by omega⟩
    have := ih F
    rw [sh0, sh0] at this
    rw [hF]
    refine Eq.trans this ?_
    exact progL_stop (fun hh => absurd hh.2 (by show ¬ ts.length < ts'.length; omega)) _ F
  have := parse_is (ts := ts') (by rw [hprog])
  rw [hprog, ← hT] at this
  exact this
/-- A first function that is refused: what lies behind the place plays no part. -/
theorem parse_err {i : Nat} {c : Int} {d : Nat} (hs : Sees ts ts' 0 i) (h0 : 0 < ts.length) (hc : c ≠ 0) (h : (funV ts (exun ts 41).1 ⟨0, 0, 0⟩).2 = ⟨i, d, c⟩) : parseV ts' = .error (i, c) := by
  obtain ⟨_, m3⟩ := fun_sim hs (exun_sim hs 41).1 ⟨0, 0, 0⟩
  have hw : wantV ts dot (arrowV ts (exun ts 41).1 (parV ts ⟨0, 0, 0⟩).2).2 = ⟨i, d, c⟩ := h
  have hi := (wantV_ge ts dot (arrowV ts (exun ts 41).1 (parV ts ⟨0, 0, 0⟩).2).2).1
  rw [hw] at hi
  have e := m3 hi
  rw [sh0, h, sh0] at e
  have hlen := hs.len
  have hprog : (progV ts' (exun ts' 41).1 ⟨0, 0, 0⟩).2 = ⟨i, d, c⟩ := by
    unfold progV
    rw [progL, if_pos ⟨rfl, by show 0 < ts'.length; omega⟩, e, progL_stop (fun hh => hc hh.1)]
  unfold parseV
  rw [hprog, if_pos hc]
end
end Go.Proofs.YtbmbgnmkakkpfaaDoor
