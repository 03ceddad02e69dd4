/-
  What a tree's order yields is what its tokens are (pure).
-/
import Derived.Test.YtbmbgnmkakkpfaaDoorGV
set_option linter.unusedVariables false
set_option linter.unusedSimpArgs false
namespace Go.Proofs.YtbmbgnmkakkpfaaDoor

/-- A name, a number, some bytes. -/
structure It where
  t : Nat
  s : ByteArray
  n : Int
  b : List Int
def itB (b : List Int) : List It := if b = [] then [] else [⟨3, e0, 0, b⟩]
def itT : Tr → List It
  | .mk k s n b _ => (if isNm k = true then [⟨1, s, 0, []⟩] else []) ++ (if k = 1 then [⟨2, e0, n, []⟩] else []) ++ itB b
def itK (t : Tn) : List It := (if t.k = 2 ∨ t.k = 3 then [⟨1, t.s, 0, []⟩] else []) ++ (if t.k = 1 then [⟨2, e0, t.n, []⟩] else []) ++ itB t.b
def yl (l : List Tr) : List It := (preL l).flatMap itT
theorem yl_nil : yl [] = [] := by rw [yl, preL_nil]; rfl
theorem yl_app (a r : List Tr) : yl (a ++ r) = yl a ++ yl r := by rw [yl, preL_app, List.flatMap_append]; rfl
theorem yl_node (k : Int) (s : ByteArray) (n : Int) (b : List Int) (l : List Tr) : yl [.mk k s n b l] = itT (.mk k s n b l) ++ yl l := by
  rw [yl, preL_cons, preL_nil, List.append_nil, List.flatMap_cons]; rfl
theorem cnt_node (k : Int) (s : ByteArray) (n : Int) (b : List Int) (l : List Tr) : (preL [.mk k s n b l]).length = 1 + (preL l).length := by
  rw [preL_cons, preL_nil, List.append_nil, List.length_cons]; omega
theorem cnt_app (a r : List Tr) : (preL (a ++ r)).length = (preL a).length + (preL r).length := by rw [preL_app, List.length_append]
theorem cnt_nil : (preL []).length = 0 := by rw [preL_nil]; rfl

section
variable {ts : List Tn} {p : Ps}
/-- What the tokens from a up to b yield. -/
def yk (ts : List Tn) (a b : Nat) : List It := ((ts.drop a).take (b - a)).flatMap itK
theorem yk_same (a : Nat) : yk ts a a = [] := by rw [yk, Nat.sub_self, List.take_zero]; rfl
theorem yk_split {a b c : Nat} (h1 : a ≤ b) (h2 : b ≤ c) : yk ts a c = yk ts a b ++ yk ts b c := by
  unfold yk
  rw [← List.flatMap_append]
  congr 1
  rw [show c - a = (b - a) + (c - b) by omega, List.take_add, List.drop_drop, show a + (b - a) = b by omega]
theorem yk_skip {a b : Nat} (h : yk ts a (a + 1) = []) (hab : a + 1 ≤ b) : yk ts a b = yk ts (a + 1) b := by rw [yk_split (b := a + 1) (by omega) hab, h, List.nil_append]
theorem yk_one {i : Nat} {t : Tn} (h : ts[i]? = some t) : yk ts i (i + 1) = itK t := by
  unfold yk
  have hlt := (List.getElem?_eq_some_iff.1 h).1
  rw [show i + 1 - i = 1 by omega, List.drop_eq_getElem_cons hlt]
  have : ts[i] = t := (List.getElem?_eq_some_iff.1 h).2
  rw [this, List.take_one]
  simp
/-- Tokens as Scan tells them: only bytes have bytes. -/
def Plain (ts : List Tn) : Prop := ∀ t ∈ ts, t.k ≠ 4 → t.b = []
theorem pk_at (h : (pkT ts p).k ≠ 0) : p.e = 0 ∧ ts[p.i]? = some (pkT ts p) := by
  by_cases he : p.e = 0
  · refine ⟨he, ?_⟩
    rw [pkT, if_pos he] at h ⊢
    cases hq : ts[p.i]? with
    | none => rw [hq] at h; exact absurd rfl h
    | some t => rfl
  · rw [pkT, if_neg he] at h; exact absurd rfl h
theorem is_at {s : ByteArray} (hP : Plain ts) (h : isV ts p s = true) : p.e = 0 ∧ yk ts p.i (p.i + 1) = [] := by
  have hk : (pkT ts p).k = 5 ∨ (pkT ts p).k = 6 := by
    unfold isV at h
    simp only [Bool.and_eq_true, Bool.or_eq_true, beq_iff_eq] at h
    exact h.1
  have h0 : (pkT ts p).k ≠ 0 := by rcases hk with e | e <;> rw [e] <;> decide
  obtain ⟨he, ht⟩ := pk_at h0
  refine ⟨he, ?_⟩
  rw [yk_one ht]
  have hb : (pkT ts p).b = [] := hP _ (List.mem_of_getElem? ht) (by rcases hk with e | e <;> rw [e] <;> decide)
  unfold itK
  rw [hb]
  rcases hk with e | e <;> simp [e, itB]
theorem want_at {s : ByteArray} (hP : Plain ts) (h : (wantV ts s p).e = 0) : p.e = 0 ∧ wantV ts s p = p.next ∧ yk ts p.i (p.i + 1) = [] := by
  unfold wantV at h ⊢
  by_cases hs : isV ts p s = true
  · rw [if_pos hs] at h ⊢
    exact ⟨(is_at hP hs).1, rfl, (is_at hP hs).2⟩
  · rw [if_neg hs] at h
    exfalso
    unfold failV at h
    by_cases he : p.e = 0
    · rw [if_pos he] at h; exact absurd (show (160 : Int) = 0 from h) (by decide)
    · rw [if_neg he] at h; exact he h
/-- A rule that ends well yields what it has read, and makes not more parts than that (c more). -/
def GoodR (ts : List Tn) (c : Nat) (g : Rule) : Prop := ∀ p : Ps, (g p).2.e = 0 → p.e = 0 ∧ p.i ≤ (g p).2.i ∧ yl [(g p).1] = yk ts p.i (g p).2.i ∧ (preL [(g p).1]).length + p.i ≤ (g p).2.i + c
def GoodL (ts : List Tn) (c : Nat) (g : Ps → List Tr × Ps) : Prop := ∀ p : Ps, (g p).2.e = 0 → p.e = 0 ∧ p.i ≤ (g p).2.i ∧ yl (g p).1 = yk ts p.i (g p).2.i ∧ (preL (g p).1).length + p.i ≤ (g p).2.i + c
theorem sevL_good {c : Nat} (hP : Plain ts) (s : ByteArray) {g : Rule} (hc : c ≤ 1) (hg : GoodR ts c g) : ∀ (f : Nat) (l : List Tr) (p : Ps), (sevL ts s g f l p).2.e = 0 → p.e = 0 ∧ p.i ≤ (sevL ts s g f l p).2.i ∧ yl (sevL ts s g f l p).1 = yl l ++ yk ts p.i (sevL ts s g f l p).2.i ∧ (preL (sevL ts s g f l p).1).length + p.i ≤ (preL l).length + (sevL ts s g f l p).2.i
  | 0, l, p, h => ⟨h, Nat.le_refl _, by rw [sevL, yk_same, List.append_nil], Nat.le_refl _⟩
  | f + 1, l, p, h => by
    rw [sevL] at h ⊢
    by_cases hs : isV ts p s = true
    · rw [if_pos hs] at h ⊢
      obtain ⟨he, hy⟩ := is_at hP hs
      obtain ⟨h1, h2, h3, h4⟩ := sevL_good hP s hc hg f _ _ h
      obtain ⟨k1, k2, k3, k4⟩ := hg p.next h1
      have k2' : p.i + 1 ≤ (g p.next).2.i := k2
      refine ⟨he, by omega, ?_, ?_⟩
      · have k3' : yl [(g p.next).1] = yk ts (p.i + 1) (g p.next).2.i := k3
        rw [h3, yl_app, k3', List.append_assoc]
        congr 1
        rw [yk_split (ts := ts) (a := p.i) (b := p.i + 1) (by omega) (Nat.le_trans k2' h2), hy, List.nil_append, ← yk_split k2' h2]
      · have k4' : (preL [(g p.next).1]).length + (p.i + 1) ≤ (g p.next).2.i + c := k4
        rw [cnt_app] at h4
        omega
    · rw [if_neg hs] at h ⊢
      exact ⟨h, Nat.le_refl _, by rw [yk_same, List.append_nil], Nat.le_refl _⟩
theorem sev_good {c : Nat} (hP : Plain ts) (s : ByteArray) {g : Rule} (hc : c ≤ 1) (hg : GoodR ts c g) : GoodL ts c (sevV ts s g) := by
  intro p h
  unfold sevV at h ⊢
  obtain ⟨h1, h2, h3, h4⟩ := sevL_good hP s hc hg _ _ _ h
  obtain ⟨k1, k2, k3, k4⟩ := hg p h1
  refine ⟨k1, by omega, ?_, by omega⟩
  rw [h3, k3, ← yk_split k2 h2]
/-- A list and the sign behind it. -/
theorem upto_good (hP : Plain ts) (en : ByteArray) {g : Rule} (hg : GoodR ts 0 g) : ∀ p : Ps, (uptoV ts en g p).2.e = 0 → p.e = 0 ∧ p.i ≤ (uptoV ts en g p).2.i ∧ yl (uptoV ts en g p).1 = yk ts p.i (uptoV ts en g p).2.i ∧ (preL (uptoV ts en g p).1).length + p.i + 1 ≤ (uptoV ts en g p).2.i := by
  intro p h
  unfold uptoV at h ⊢
  by_cases hs : isV ts p en = true
  · rw [if_pos hs] at h ⊢
    obtain ⟨h1, h2, h3⟩ := want_at hP h
    show p.e = 0 ∧ p.i ≤ (wantV ts en p).i ∧ yl [] = yk ts p.i (wantV ts en p).i ∧ (preL []).length + p.i + 1 ≤ (wantV ts en p).i
    rw [h2, yl_nil, cnt_nil]
    exact ⟨h1, Nat.le_succ _, h3.symm, by show 0 + p.i + 1 ≤ p.i + 1; omega⟩
  · rw [if_neg hs] at h ⊢
    have h' : (wantV ts en (sevV ts cma g p).2).e = 0 := h
    obtain ⟨h1, h2, h3⟩ := want_at hP h'
    obtain ⟨k1, k2, k3, k4⟩ := sev_good hP cma (by decide) hg p h1
    show p.e = 0 ∧ p.i ≤ (wantV ts en (sevV ts cma g p).2).i ∧ yl (sevV ts cma g p).1 = yk ts p.i (wantV ts en (sevV ts cma g p).2).i ∧ (preL (sevV ts cma g p).1).length + p.i + 1 ≤ (wantV ts en (sevV ts cma g p).2).i
    rw [h2]
    refine ⟨k1, by show p.i ≤ (sevV ts cma g p).2.i + 1; omega, ?_, by show _ ≤ (sevV ts cma g p).2.i + 1; omega⟩
    show _ = yk ts p.i ((sevV ts cma g p).2.i + 1)
    rw [yk_split k2 (Nat.le_succ _), k3]
    rw [show yk ts (sevV ts cma g p).2.i ((sevV ts cma g p).2.i + 1) = [] from h3, List.append_nil]
/-- A node that yields nothing itself. -/
theorem it_none {k : Int} {l : List Tr} (h1 : isNm k = false) (h2 : k ≠ 1) : itT (.mk k e0 0 [] l) = [] := by
  simp [itT, h1, h2, itB]
theorem arrow_good (hP : Plain ts) {ex : Rule} (hx : GoodR ts 0 ex) : GoodR ts 0 (arrowV ts ex) := by
  intro p h
  have h' : (sevV ts cma ex (wantV ts arw p)).2.e = 0 := h
  obtain ⟨k1, k2, k3, k4⟩ := sev_good hP cma (by decide) hx _ h'
  obtain ⟨h1, h2, h3⟩ := want_at hP k1
  show p.e = 0 ∧ p.i ≤ (sevV ts cma ex (wantV ts arw p)).2.i ∧ yl [.mk 16 e0 0 [] (sevV ts cma ex (wantV ts arw p)).1] = yk ts p.i (sevV ts cma ex (wantV ts arw p)).2.i ∧ (preL [.mk 16 e0 0 [] (sevV ts cma ex (wantV ts arw p)).1]).length + p.i ≤ (sevV ts cma ex (wantV ts arw p)).2.i + 0
  rw [yl_node, cnt_node, it_none (by decide) (by decide), List.nil_append]
  rw [h2] at k2 k3 k4 ⊢
  have k2' : p.i + 1 ≤ (sevV ts cma ex p.next).2.i := k2
  have k4' : (preL (sevV ts cma ex p.next).1).length + (p.i + 1) ≤ (sevV ts cma ex p.next).2.i + 0 := k4
  refine ⟨h1, by omega, ?_, by omega⟩
  rw [yk_skip h3 k2']; exact k3
theorem name_at {k : Int} (hP : Plain ts) (hk : k = 2 ∨ k = 3) (h : (nameV ts k p).2.e = 0) : p.e = 0 ∧ (nameV ts k p).2 = p.next ∧ yk ts p.i (p.i + 1) = [⟨1, (nameV ts k p).1, 0, []⟩] := by
  unfold nameV at h ⊢
  by_cases hs : (pkT ts p).k = k
  · rw [if_pos hs] at h ⊢
    have h0 : (pkT ts p).k ≠ 0 := by rw [hs]; rcases hk with e | e <;> rw [e] <;> decide
    obtain ⟨he, ht⟩ := pk_at h0
    refine ⟨he, rfl, ?_⟩
    rw [yk_one ht]
    have hb : (pkT ts p).b = [] := hP _ (List.mem_of_getElem? ht) (by rw [hs]; rcases hk with e | e <;> rw [e] <;> decide)
    unfold itK
    rw [hb, hs]
    rcases hk with e | e <;> simp [e, itB]
  · rw [if_neg hs] at h
    exfalso
    have h' : (failV 160 p).e = 0 := h
    unfold failV at h'
    by_cases he : p.e = 0
    · rw [if_pos he] at h'; exact absurd (show (160 : Int) = 0 from h') (by decide)
    · rw [if_neg he] at h'; exact he h'
theorem var_good (hP : Plain ts) : GoodR ts 0 (varV ts) := by
  intro p h
  have h' : (nameV ts 3 p).2.e = 0 := h
  obtain ⟨h1, h2, h3⟩ := name_at hP (.inr rfl) h'
  show p.e = 0 ∧ p.i ≤ (nameV ts 3 p).2.i ∧ yl [.mk 3 (nameV ts 3 p).1 0 [] []] = yk ts p.i (nameV ts 3 p).2.i ∧ (preL [.mk 3 (nameV ts 3 p).1 0 [] []]).length + p.i ≤ (nameV ts 3 p).2.i + 0
  rw [yl_node, cnt_node, cnt_nil, yl_nil, h2]
  refine ⟨h1, Nat.le_succ _, ?_, by show 1 + 0 + p.i ≤ p.i + 1 + 0; omega⟩
  show _ = yk ts p.i (p.i + 1)
  rw [h3]
  simp [itT, isNm, itB]
end
end Go.Proofs.YtbmbgnmkakkpfaaDoor
