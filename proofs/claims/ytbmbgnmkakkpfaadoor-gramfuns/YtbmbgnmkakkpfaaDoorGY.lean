/-
  What Parse answers yields what its tokens are (pure).
-/
import Derived.Test.YtbmbgnmkakkpfaaDoorGX
set_option linter.unusedVariables false
set_option linter.unusedSimpArgs false
namespace Go.Proofs.YtbmbgnmkakkpfaaDoor
section
variable {ts : List Tn} {p : Ps}

theorem fail_no {c : Int} (hc : c ≠ 0) (h : (failV c p).e = 0) : False := by
  unfold failV at h
  by_cases he : p.e = 0
  · rw [if_pos he] at h; exact hc h
  · rw [if_neg he] at h; exact he h
theorem exun_good (hP : Plain ts) : ∀ m, GoodR ts 0 (exun ts m).1 ∧ GoodR ts 0 (exun ts m).2
  | 0 => ⟨fun p h => (fail_no (c := 161) (by decide) h).elim, fun p h => (fail_no (c := 161) (by decide) h).elim⟩
  | m + 1 => by
    obtain ⟨hx, hu⟩ := exun_good hP m
    have hun := unary_good hP hx hu
    refine ⟨expr_good hP hx ?_, hun⟩
    exact join_good hP (join_good hP (join_good hP hun unaryV_err _ _) (joinV_err unaryV_err _ _) _ _) (joinV_err (joinV_err unaryV_err _ _) _ _) _ _
theorem fun_good (hP : Plain ts) {ex : Rule} (hx : GoodR ts 0 ex) (hst : Stuck ex) : ∀ p : Ps, (funV ts ex p).2.e = 0 → p.e = 0 ∧ p.i ≤ (funV ts ex p).2.i ∧ yl [(funV ts ex p).1] = yk ts p.i (funV ts ex p).2.i ∧ (preL [(funV ts ex p).1]).length + p.i + 1 ≤ (funV ts ex p).2.i := by
  intro p h
  have h' : (wantV ts dot (arrowV ts ex (parV ts p).2).2).e = 0 := h
  obtain ⟨a1, a2, a3⟩ := want_at hP h'
  obtain ⟨b1, b2, b3, b4⟩ := arrow_good hP hx _ a1
  have b1' : (uptoV ts shutR (varV ts) (wantV ts opn (nameV ts 2 p).2)).2.e = 0 := b1
  obtain ⟨c1, c2, c3, c4⟩ := upto_good hP shutR (var_good hP) _ b1'
  obtain ⟨d1, d2, d3⟩ := want_at hP c1
  obtain ⟨n1, n2, n3⟩ := name_at hP (.inl rfl) d1
  show p.e = 0 ∧ p.i ≤ (wantV ts dot (arrowV ts ex (parV ts p).2).2).i ∧ yl [.mk 17 (nameV ts 2 p).1 0 [] ((parV ts p).1 ++ [(arrowV ts ex (parV ts p).2).1])] = yk ts p.i (wantV ts dot (arrowV ts ex (parV ts p).2).2).i ∧ (preL [.mk 17 (nameV ts 2 p).1 0 [] ((parV ts p).1 ++ [(arrowV ts ex (parV ts p).2).1])]).length + p.i + 1 ≤ (wantV ts dot (arrowV ts ex (parV ts p).2).2).i
  have e1 : wantV ts opn (nameV ts 2 p).2 = p.next.next := by rw [d2, n2]
  have hpar : parV ts p = uptoV ts shutR (varV ts) p.next.next := by rw [← e1]; rfl
  rw [e1] at c2 c3 c4
  rw [n2] at d3
  rw [a2]
  rw [hpar] at a3 b2 b3 b4 ⊢
  clear a2 hpar e1 d2 c1 b1 b1' a1 h' h d1
  generalize uptoV ts shutR (varV ts) p.next.next = u at a3 b2 b3 b4 c2 c3 c4 ⊢
  generalize arrowV ts ex u.2 = r at a3 b2 b3 b4 ⊢
  have c2' : p.i + 1 + 1 ≤ u.2.i := c2
  have c3' : yl u.1 = yk ts (p.i + 1 + 1) u.2.i := c3
  have c4' : (preL u.1).length + (p.i + 1 + 1) + 1 ≤ u.2.i := c4
  have d3' : yk ts (p.i + 1) (p.i + 1 + 1) = [] := d3
  have hi : r.2.next.i = r.2.i + 1 := rfl
  rw [hi, yl_node, cnt_node, cnt_app, yl_app, c3', b3]
  refine ⟨n1, by omega, ?_, by omega⟩
  rw [yk_split (ts := ts) (a := p.i) (b := r.2.i) (c := r.2.i + 1) (by omega) (Nat.le_succ _), a3, List.append_nil, yk_split (ts := ts) (a := p.i) (b := p.i + 1) (c := r.2.i) (by omega) (by omega), n3, yk_skip d3' (by omega), yk_split (ts := ts) (a := p.i + 1 + 1) (b := u.2.i) (c := r.2.i) c2' b2]
  simp [itT, isNm, itB]
theorem progL_good (hP : Plain ts) {ex : Rule} (hx : GoodR ts 0 ex) (hst : Stuck ex) : ∀ (f : Nat) (l : List Tr) (p : Ps), mu ts.length p ≤ f → yl l = yk ts 0 p.i → (preL l).length + l.length ≤ p.i → (progL ts ex f l p).2.e = 0 →
    ts.length ≤ (progL ts ex f l p).2.i ∧ yl (progL ts ex f l p).1 = yk ts 0 (progL ts ex f l p).2.i ∧ (preL (progL ts ex f l p).1).length + (progL ts ex f l p).1.length ≤ (progL ts ex f l p).2.i
  | 0, l, p, hf, h1, h2, h => by
    unfold mu at hf
    rw [progL] at h
    have h' : p.e = 0 := h
    rw [if_pos h'] at hf
    omega
  | f + 1, l, p, hf, h1, h2, h => by
    rw [progL] at h ⊢
    by_cases hc : p.e = 0 ∧ p.i < ts.length
    · rw [if_pos hc] at h ⊢
      by_cases he : (funV ts ex p).2.e = 0
      · obtain ⟨k1, k2, k3, k4⟩ := fun_good hP hx hst p he
        refine progL_good hP hx hst f _ _ (by have := mu_lt (q' := (funV ts ex p).2) hc.1 hc.2 k2 (.inr (by omega)); omega) ?_ ?_ h
        · rw [yl_app, h1, k3, ← yk_split (Nat.zero_le _) k2]
        · rw [cnt_app, List.length_append]
          simp only [List.length_cons, List.length_nil]
          omega
      · exfalso
        have : (progL ts ex f (l ++ [(funV ts ex p).1]) (funV ts ex p).2).2 = (funV ts ex p).2 := by
          cases f with
          | zero => rfl
          | succ f => rw [progL, if_neg (fun hh => he hh.1)]
        rw [this] at h
        exact he h
    · rw [if_neg hc] at h ⊢
      have h' : p.e = 0 := h
      refine ⟨?_, h1, h2⟩
      rcases Nat.lt_or_ge p.i ts.length with hlt | hge
      · exact absurd ⟨h', hlt⟩ hc
      · exact hge
/-- What Parse answers yields what its tokens are; it has not more parts than tokens and one. -/
theorem parse_yields (hP : Plain ts) {T : Tr} (h : parseV ts = .ok T) (hb : (progV ts (exun ts 41).1 ⟨0, 0, 0⟩).2.i ≤ ts.length) : yl [T] = yk ts 0 ts.length ∧ ((preL [T]).length ≤ ts.length ∨ (preL [T]).length = 1) := by
  unfold parseV at h
  by_cases he : (progV ts (exun ts 41).1 ⟨0, 0, 0⟩).2.e = 0
  · rw [if_neg (by simp [he])] at h
    cases h
    unfold progV at he hb ⊢
    obtain ⟨a1, a2, a3⟩ := progL_good hP (exun_good hP 41).1 (exun_err 41) _ [] ⟨0, 0, 0⟩ (by unfold mu; simp) (by rw [yl_nil, yk_same]) (by rw [cnt_nil]; simp) he
    generalize progL ts (exun ts 41).1 (2 * ts.length + 1) [] ⟨0, 0, 0⟩ = r at *
    rw [yl_node, cnt_node, it_none (by decide) (by decide), List.nil_append, a2, show r.2.i = ts.length by omega]
    refine ⟨rfl, ?_⟩
    cases hr : r.1 with
    | nil => right; rw [cnt_nil]
    | cons x y =>
      left
      rw [hr] at a3
      simp only [List.length_cons] at a3
      omega
  · rw [if_pos he] at h; cases h
end
end Go.Proofs.YtbmbgnmkakkpfaaDoor
