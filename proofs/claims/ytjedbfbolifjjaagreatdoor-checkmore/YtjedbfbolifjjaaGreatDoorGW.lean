/-
  Carried over from another seat of ours (GW).
  Carried over from another seat of ours (GX).
  Carried over from another seat of ours (GY).
  Carried over from another seat of ours (GZ).
-/
import Derived.Test.YtjedbfbolifjjaaGreatDoorGQ
set_option linter.unusedVariables false
set_option linter.unusedSimpArgs false
namespace Go.Proofs.YtjedbfbolifjjaaGreatDoor
/-- A name, a number, some bytes. -/
structure It where
 t : Nat
 s : ByteArray
 n : Int
 b : List Int
def itB (b : List Int) : List It := if b = [] then [] else [⟨3, e0, 0, b⟩]
def itT : Tr → List It
 | .mk k s n b _ => (if isNm k = true then [⟨1, s, 0, []⟩] else []) ++ (if k = 1 then [⟨2, e0, n, []⟩] else []) ++ itB b
def itK (t : Tn) : List It := (if t.k = 2 ∨ t.k = 3 then [⟨1, t.s, 0, []⟩] else []) ++ (if t.k = 1 then [⟨2, e0, t.n, []⟩] else []) ++ itB t.b
def yl (l : List Tr) : List It := (preL l).flatMap itT
theorem yl_nil : yl [] = [] := by rw [yl, preL_nil]; rfl
theorem yl_app (a r : List Tr) : yl (a ++ r) = yl a ++ yl r := by rw [yl, preL_app, List.flatMap_append]; rfl
theorem yl_node (k : Int) (s : ByteArray) (n : Int) (b : List Int) (l : List Tr) : yl [.mk k s n b l] = itT (.mk k s n b l) ++ yl l := by
 rw [yl, preL_cons, preL_nil, List.append_nil, List.flatMap_cons]; rfl
theorem cnt_node (k : Int) (s : ByteArray) (n : Int) (b : List Int) (l : List Tr) : (preL [.mk k s n b l]).length = 1 + (preL l).length := by
 rw [preL_cons, preL_nil, List.append_nil, List.length_cons]; omega
theorem cnt_app (a r : List Tr) : (preL (a ++ r)).length = (preL a).length + (preL r).length := by rw [preL_app, List.length_append]
theorem cnt_nil : (preL []).length = 0 := by rw [preL_nil]; rfl

section
variable {ts : List Tn} {p : Ps}
/-- What the tokens from a up to b yield. -/
def yk (ts : List Tn) (a b : Nat) : List It := ((ts.drop a).take (b - a)).flatMap itK
theorem yk_same (a : Nat) : yk ts a a = [] := by rw [yk, Nat.sub_self, List.take_zero]; rfl
theorem yk_split {a b c : Nat} (h1 : a ≤ b) (h2 : b ≤ c) : yk ts a c = yk ts a b ++ yk ts b c := by
 unfold yk
 rw [← List.flatMap_append]
 congr 1
 rw [show c - a = (b - a) + (c - b) by omega, List.take_add, List.drop_drop, show a + (b - a) = b by omega]
theorem yk_skip {a b : Nat} (h : yk ts a (a + 1) = []) (hab : a + 1 ≤ b) : yk ts a b = yk ts (a + 1) b := by rw [yk_split (b := a + 1) (by omega) hab, h, List.nil_append]
theorem yk_one {i : Nat} {t : Tn} (h : ts[i]? = some t) : yk ts i (i + 1) = itK t := by
 unfold yk
 have hlt := (List.getElem?_eq_some_iff.1 h).1
 rw [show i + 1 - i = 1 by omega, List.drop_eq_getElem_cons hlt]
 have : ts[i] = t := (List.getElem?_eq_some_iff.1 h).2
 rw [this, List.take_one]
 simp
/-- Tokens as Scan tells them: only bytes have bytes. -/
def Plain (ts : List Tn) : Prop := ∀ t ∈ ts, t.k ≠ 4 → t.b = []
theorem pk_at (h : (pkT ts p).k ≠ 0) : p.e = 0 ∧ ts[p.i]? = some (pkT ts p) := by
 by_cases he : p.e = 0
 · refine ⟨he, ?_⟩
   rw [pkT, if_pos he] at h ⊢
   cases hq : ts[p.i]? with
   | none => rw [hq] at h; exact absurd rfl h
   | some t => rfl
 · rw [pkT, if_neg he] at h; exact absurd rfl h
theorem is_at {s : ByteArray} (hP : Plain ts) (h : isV ts p s = true) : p.e = 0 ∧ yk ts p.i (p.i + 1) = [] := by
 have hk : (pkT ts p).k = 5 ∨ (pkT ts p).k = 6 := by
  unfold isV at h
  simp only [Bool.and_eq_true, Bool.or_eq_true, beq_iff_eq] at h
  exact h.1
 have h0 : (pkT ts p).k ≠ 0 := by rcases hk with e | e <;> rw [e] <;> decide
 obtain ⟨he, ht⟩ := pk_at h0
 refine ⟨he, ?_⟩
 rw [yk_one ht]
 have hb : (pkT ts p).b = [] := hP _ (List.mem_of_getElem? ht) (by rcases hk with e | e <;> rw [e] <;> decide)
 unfold itK
 rw [hb]
 rcases hk with e | e <;> simp [e, itB]
theorem want_at {s : ByteArray} (hP : Plain ts) (h : (wantV ts s p).e = 0) : p.e = 0 ∧ wantV ts s p = p.next ∧ yk ts p.i (p.i + 1) = [] := by
 unfold wantV at h ⊢
 by_cases hs : isV ts p s = true
 · rw [if_pos hs] at h ⊢
   exact ⟨(is_at hP hs).1, rfl, (is_at hP hs).2⟩
 ·
  rw [if_neg hs] at h
  exfalso
  unfold failV at h
  by_cases he : p.e = 0
  · rw [if_pos he] at h; exact absurd (show (160 : Int) = 0 from h) (by decide)
  · rw [if_neg he] at h; exact he h
/-- A rule that ends well yields what it has read, and makes not more parts than that (c more). -/
def GoodR (ts : List Tn) (c : Nat) (g : Rule) : Prop := ∀ p : Ps, (g p).2.e = 0 → p.e = 0 ∧ p.i ≤ (g p).2.i ∧ yl [(g p).1] = yk ts p.i (g p).2.i ∧ (preL [(g p).1]).length + p.i ≤ (g p).2.i + c
def GoodL (ts : List Tn) (c : Nat) (g : Ps → List Tr × Ps) : Prop := ∀ p : Ps, (g p).2.e = 0 → p.e = 0 ∧ p.i ≤ (g p).2.i ∧ yl (g p).1 = yk ts p.i (g p).2.i ∧ (preL (g p).1).length + p.i ≤ (g p).2.i + c
theorem sevL_good {c : Nat} (hP : Plain ts) (s : ByteArray) {g : Rule} (hc : c ≤ 1) (hg : GoodR ts c g) : ∀ (f : Nat) (l : List Tr) (p : Ps), (sevL ts s g f l p).2.e = 0 → p.e = 0 ∧ p.i ≤ (sevL ts s g f l p).2.i ∧ yl (sevL ts s g f l p).1 = yl l ++ yk ts p.i (sevL ts s g f l p).2.i ∧ (preL (sevL ts s g f l p).1).length + p.i ≤ (preL l).length + (sevL ts s g f l p).2.i
 | 0, l, p, h => ⟨h, Nat.le_refl _, by rw [sevL, yk_same, List.append_nil], Nat.le_refl _⟩
 | f + 1, l, p, h => by
  rw [sevL] at h ⊢
  by_cases hs : isV ts p s = true
  ·
   rw [if_pos hs] at h ⊢
   obtain ⟨he, hy⟩ := is_at hP hs
   obtain ⟨h1, h2, h3, h4⟩ := sevL_good hP s hc hg f _ _ h
   obtain ⟨k1, k2, k3, k4⟩ := hg p.next h1
   have k2' : p.i + 1 ≤ (g p.next).2.i := k2
   refine ⟨he, by omega, ?_, ?_⟩
   · have k3' : yl [(g p.next).1] = yk ts (p.i + 1) (g p.next).2.i := k3
     rw [h3, yl_app, k3', List.append_assoc]
     congr 1
     rw [yk_split (ts := ts) (a := p.i) (b := p.i + 1) (by omega) (Nat.le_trans k2' h2), hy, List.nil_append, ← yk_split k2' h2]
   · have k4' : (preL [(g p.next).1]).length + (p.i + 1) ≤ (g p.next).2.i + c := k4
     rw [cnt_app] at h4
     omega
  · rw [if_neg hs] at h ⊢
    exact ⟨h, Nat.le_refl _, by rw [yk_same, List.append_nil], Nat.le_refl _⟩
theorem sev_good {c : Nat} (hP : Plain ts) (s : ByteArray) {g : Rule} (hc : c ≤ 1) (hg : GoodR ts c g) : GoodL ts c (sevV ts s g) := by
 intro p h
 unfold sevV at h ⊢
 obtain ⟨h1, h2, h3, h4⟩ := sevL_good hP s hc hg _ _ _ h
 obtain ⟨k1, k2, k3, k4⟩ := hg p h1
 refine ⟨k1, by omega, ?_, by omega⟩
 rw [h3, k3, ← yk_split k2 h2]
/-- A list and the sign behind it. -/
theorem upto_good (hP : Plain ts) (en : ByteArray) {g : Rule} (hg : GoodR ts 0 g) : ∀ p : Ps, (uptoV ts en g p).2.e = 0 → p.e = 0 ∧ p.i ≤ (uptoV ts en g p).2.i ∧ yl (uptoV ts en g p).1 = yk ts p.i (uptoV ts en g p).2.i ∧ (preL (uptoV ts en g p).1).length + p.i + 1 ≤ (uptoV ts en g p).2.i := by
 intro p h
 unfold uptoV at h ⊢
 by_cases hs : isV ts p en = true
 · rw [if_pos hs] at h ⊢
   obtain ⟨h1, h2, h3⟩ := want_at hP h
   show p.e = 0 ∧ p.i ≤ (wantV ts en p).i ∧ yl [] = yk ts p.i (wantV ts en p).i ∧ (preL []).length + p.i + 1 ≤ (wantV ts en p).i
   rw [h2, yl_nil, cnt_nil]
   exact ⟨h1, Nat.le_succ _, h3.symm, by show 0 + p.i + 1 ≤ p.i + 1; omega⟩
 ·
  rw [if_neg hs] at h ⊢
  have h' : (wantV ts en (sevV ts cma g p).2).e = 0 := h
  obtain ⟨h1, h2, h3⟩ := want_at hP h'
  obtain ⟨k1, k2, k3, k4⟩ := sev_good hP cma (by decide) hg p h1
  show p.e = 0 ∧ p.i ≤ (wantV ts en (sevV ts cma g p).2).i ∧ yl (sevV ts cma g p).1 = yk ts p.i (wantV ts en (sevV ts cma g p).2).i ∧ (preL (sevV ts cma g p).1).length + p.i + 1 ≤ (wantV ts en (sevV ts cma g p).2).i
  rw [h2]
  refine ⟨k1, by show p.i ≤ (sevV ts cma g p).2.i + 1; omega, ?_, by show _ ≤ (sevV ts cma g p).2.i + 1; omega⟩
  show _ = yk ts p.i ((sevV ts cma g p).2.i + 1)
  rw [yk_split k2 (Nat.le_succ _), k3]
  rw [show yk ts (sevV ts cma g p).2.i ((sevV ts cma g p).2.i + 1) = [] from h3, List.append_nil]
/-- A node that yields nothing itself. -/
theorem it_none {k : Int} {l : List Tr} (h1 : isNm k = false) (h2 : k ≠ 1) : itT (.mk k e0 0 [] l) = [] := by
 simp [itT, h1, h2, itB]
theorem arrow_good (hP : Plain ts) {ex : Rule} (hx : GoodR ts 0 ex) : GoodR ts 0 (arrowV ts ex) := by
 intro p h
 have h' : (sevV ts cma ex (wantV ts arw p)).2.e = 0 := h
 obtain ⟨k1, k2, k3, k4⟩ := sev_good hP cma (by decide) hx _ h'
 obtain ⟨h1, h2, h3⟩ := want_at hP k1
 show p.e = 0 ∧ p.i ≤ (sevV ts cma ex (wantV ts arw p)).2.i ∧ yl [.mk 16 e0 0 [] (sevV ts cma ex (wantV ts arw p)).1] = yk ts p.i (sevV ts cma ex (wantV ts arw p)).2.i ∧ (preL [.mk 16 e0 0 [] (sevV ts cma ex (wantV ts arw p)).1]).length + p.i ≤ (sevV ts cma ex (wantV ts arw p)).2.i + 0
 rw [yl_node, cnt_node, it_none (by decide) (by decide), List.nil_append]
 rw [h2] at k2 k3 k4 ⊢
 have k2' : p.i + 1 ≤ (sevV ts cma ex p.next).2.i := k2
 have k4' : (preL (sevV ts cma ex p.next).1).length + (p.i + 1) ≤ (sevV ts cma ex p.next).2.i + 0 := k4
 refine ⟨h1, by omega, ?_, by omega⟩
 rw [yk_skip h3 k2']; exact k3
theorem name_at {k : Int} (hP : Plain ts) (hk : k = 2 ∨ k = 3) (h : (nameV ts k p).2.e = 0) : p.e = 0 ∧ (nameV ts k p).2 = p.next ∧ yk ts p.i (p.i + 1) = [⟨1, (nameV ts k p).1, 0, []⟩] := by
 unfold nameV at h ⊢
 by_cases hs : (pkT ts p).k = k
 ·
  rw [if_pos hs] at h ⊢
  have h0 : (pkT ts p).k ≠ 0 := by rw [hs]; rcases hk with e | e <;> rw [e] <;> decide
  obtain ⟨he, ht⟩ := pk_at h0
  refine ⟨he, rfl, ?_⟩
  rw [yk_one ht]
  have hb : (pkT ts p).b = [] := hP _ (List.mem_of_getElem? ht) (by rw [hs]; rcases hk with e | e <;> rw [e] <;> decide)
  unfold itK
  rw [hb, hs]
  rcases hk with e | e <;> simp [e, itB]
 ·
  rw [if_neg hs] at h
  exfalso
  have h' : (failV 160 p).e = 0 := h
  unfold failV at h'
  by_cases he : p.e = 0
  · rw [if_pos he] at h'; exact absurd (show (160 : Int) = 0 from h') (by decide)
  · rw [if_neg he] at h'; exact he h'
theorem var_good (hP : Plain ts) : GoodR ts 0 (varV ts) := by
 intro p h
 have h' : (nameV ts 3 p).2.e = 0 := h
 obtain ⟨h1, h2, h3⟩ := name_at hP (.inr rfl) h'
 show p.e = 0 ∧ p.i ≤ (nameV ts 3 p).2.i ∧ yl [.mk 3 (nameV ts 3 p).1 0 [] []] = yk ts p.i (nameV ts 3 p).2.i ∧ (preL [.mk 3 (nameV ts 3 p).1 0 [] []]).length + p.i ≤ (nameV ts 3 p).2.i + 0
 rw [yl_node, cnt_node, cnt_nil, yl_nil, h2]
 refine ⟨h1, Nat.le_succ _, ?_, by show 1 + 0 + p.i ≤ p.i + 1 + 0; omega⟩
 show _ = yk ts p.i (p.i + 1)
 rw [h3]
 simp [itT, isNm, itB]
end
end Go.Proofs.YtjedbfbolifjjaaGreatDoor

namespace Go.Proofs.YtjedbfbolifjjaaGreatDoor
section
variable {ts : List Tn} {p : Ps}
theorem deeper_good {c : Nat} {g : Rule} (hg : GoodR ts c g) (p : Ps) (hy : yk ts p.i (p.i + 1) = []) (hp : p.e = 0) (h : (deeperV g p).2.e = 0) :
 p.i + 1 ≤ (deeperV g p).2.i ∧ yl [(deeperV g p).1] = yk ts p.i (deeperV g p).2.i ∧ (preL [(deeperV g p).1]).length + p.i + 1 ≤ (deeperV g p).2.i + c := by
 unfold deeperV at h ⊢
 by_cases hd : p.d = 40
 ·
  rw [if_pos hd] at h
  exfalso
  have h' : (failV 161 p).e = 0 := h
  unfold failV at h'
  rw [if_pos hp] at h'
  exact absurd (show (161 : Int) = 0 from h') (by decide)
 ·
  rw [if_neg hd] at h ⊢
  have h' : (g p.deep).2.e = 0 := h
  obtain ⟨k1, k2, k3, k4⟩ := hg p.deep h'
  have k2' : p.i + 1 ≤ (g p.deep).2.i := k2
  have k4' : (preL [(g p.deep).1]).length + (p.i + 1) ≤ (g p.deep).2.i + c := k4
  show p.i + 1 ≤ (g p.deep).2.i ∧ yl [(g p.deep).1] = yk ts p.i (g p.deep).2.i ∧ (preL [(g p.deep).1]).length + p.i + 1 ≤ (g p.deep).2.i + c
  exact ⟨k2', by rw [yk_skip hy k2']; exact k3, by omega⟩
theorem two_good {T U : Tr} {a b c : Nat} (h1 : a ≤ b) (h2 : b ≤ c) (hT : yl [T] = yk ts a b) (hU : yl [U] = yk ts b c) : yl [T, U] = yk ts a c := by
 rw [show [T, U] = [T] ++ [U] from rfl, yl_app, hT, hU, ← yk_split h1 h2]
theorem cnt_two (T U : Tr) : (preL [T, U]).length = (preL [T]).length + (preL [U]).length := by rw [show [T, U] = [T] ++ [U] from rfl, cnt_app]
theorem clause_good (hP : Plain ts) {ex un : Rule} (hx : GoodR ts 0 ex) (hu : GoodR ts 0 un) : GoodR ts 1 (clauseV ts ex un) := by
 intro p h
 have h' : (arrowV ts ex (un p).2).2.e = 0 := h
 obtain ⟨k1, k2, k3, k4⟩ := arrow_good hP hx _ h'
 obtain ⟨m1, m2, m3, m4⟩ := hu p k1
 show p.e = 0 ∧ p.i ≤ (arrowV ts ex (un p).2).2.i ∧ yl [.mk 15 e0 0 [] [(un p).1, (arrowV ts ex (un p).2).1]] = yk ts p.i (arrowV ts ex (un p).2).2.i ∧ (preL [.mk 15 e0 0 [] [(un p).1, (arrowV ts ex (un p).2).1]]).length + p.i ≤ (arrowV ts ex (un p).2).2.i + 1
 rw [yl_node, cnt_node, it_none (by decide) (by decide), List.nil_append, cnt_two]
 exact ⟨m1, by omega, two_good m2 k2 m3 k3, by omega⟩
theorem bracket_good (hP : Plain ts) {ex : Rule} (hx : GoodR ts 0 ex) : GoodR ts 0 (bracketV ts ex) := by
 intro p h
 have h' : (wantV ts shutR (ex p).2).e = 0 := h
 obtain ⟨h1, h2, h3⟩ := want_at hP h'
 obtain ⟨m1, m2, m3, m4⟩ := hx p h1
 show p.e = 0 ∧ p.i ≤ (wantV ts shutR (ex p).2).i ∧ yl [(ex p).1] = yk ts p.i (wantV ts shutR (ex p).2).i ∧ (preL [(ex p).1]).length + p.i ≤ (wantV ts shutR (ex p).2).i + 0
 rw [h2]
 refine ⟨m1, by show p.i ≤ (ex p).2.i + 1; omega, ?_, by show _ ≤ (ex p).2.i + 1 + 0; omega⟩
 show _ = yk ts p.i ((ex p).2.i + 1)
 rw [yk_split m2 (Nat.le_succ _), m3, show yk ts (ex p).2.i ((ex p).2.i + 1) = [] from h3, List.append_nil]
theorem row_good (hP : Plain ts) {ex : Rule} (hx : GoodR ts 0 ex) (k : Int) (en : ByteArray) (h1 : isNm k = false) (h2 : k ≠ 1) : GoodR ts 0 (fun p => (.mk k e0 0 [] (uptoV ts en ex p).1, (uptoV ts en ex p).2)) := by
 intro p h
 obtain ⟨m1, m2, m3, m4⟩ := upto_good hP en hx p h
 show p.e = 0 ∧ p.i ≤ (uptoV ts en ex p).2.i ∧ yl [.mk k e0 0 [] (uptoV ts en ex p).1] = yk ts p.i (uptoV ts en ex p).2.i ∧ (preL [.mk k e0 0 [] (uptoV ts en ex p).1]).length + p.i ≤ (uptoV ts en ex p).2.i + 0
 rw [yl_node, cnt_node, it_none h1 h2, List.nil_append]
 exact ⟨m1, m2, m3, by omega⟩
theorem choice_good (hP : Plain ts) {ex un : Rule} (hx : GoodR ts 0 ex) (hu : GoodR ts 0 un) : GoodR ts 0 (choiceV ts ex un) := by
 intro p h
 have h' : (wantV ts wEnd (sevV ts sem (clauseV ts ex un) (wantV ts wOf (ex p).2)).2).e = 0 := h
 obtain ⟨a1, a2, a3⟩ := want_at hP h'
 obtain ⟨b1, b2, b3, b4⟩ := sev_good hP sem (by decide) (clause_good hP hx hu) _ a1
 obtain ⟨c1, c2, c3⟩ := want_at hP b1
 obtain ⟨m1, m2, m3, m4⟩ := hx p c1
 unfold choiceV
 show p.e = 0 ∧ p.i ≤ (wantV ts wEnd (sevV ts sem (clauseV ts ex un) (wantV ts wOf (ex p).2)).2).i ∧ yl [.mk 12 e0 0 [] ([(ex p).1] ++ (sevV ts sem (clauseV ts ex un) (wantV ts wOf (ex p).2)).1)] = yk ts p.i (wantV ts wEnd (sevV ts sem (clauseV ts ex un) (wantV ts wOf (ex p).2)).2).i ∧ (preL [.mk 12 e0 0 [] ([(ex p).1] ++ (sevV ts sem (clauseV ts ex un) (wantV ts wOf (ex p).2)).1)]).length + p.i ≤ (wantV ts wEnd (sevV ts sem (clauseV ts ex un) (wantV ts wOf (ex p).2)).2).i + 0
 rw [a2]
 rw [yl_node, cnt_node, it_none (by decide) (by decide), List.nil_append, cnt_app, yl_app]
 rw [c2] at b2 b3 b4 a3 ⊢
 generalize sevV ts sem (clauseV ts ex un) (ex p).2.next = r at b2 b3 b4 a3 ⊢
 have b2' : (ex p).2.i + 1 ≤ r.2.i := b2
 have b4' : (preL r.1).length + ((ex p).2.i + 1) ≤ r.2.i + 1 := b4
 have b3' : yl r.1 = yk ts ((ex p).2.i + 1) r.2.i := b3
 refine ⟨m1, by show p.i ≤ r.2.i + 1; omega, ?_, by show _ ≤ r.2.i + 1 + 0; omega⟩
 show _ = yk ts p.i (r.2.i + 1)
 rw [m3, b3', yk_split (ts := ts) (a := p.i) (b := r.2.i) (c := r.2.i + 1) (by omega) (Nat.le_succ _), a3, List.append_nil, yk_split (ts := ts) (a := p.i) (b := (ex p).2.i) (c := r.2.i) m2 (by omega), yk_skip c3 b2']
/-- What receive tells ahead of its end. -/
theorem raft_good (hP : Plain ts) {ex un : Rule} (hx : GoodR ts 0 ex) (hu : GoodR ts 0 un) (p : Ps) (h : (raftV ts ex (rclV ts ex un p)).2.e = 0) :
 p.e = 0 ∧ p.i ≤ (raftV ts ex (rclV ts ex un p)).2.i ∧ yl (raftV ts ex (rclV ts ex un p)).1 = yk ts p.i (raftV ts ex (rclV ts ex un p)).2.i ∧ (preL (raftV ts ex (rclV ts ex un p)).1).length + p.i ≤ (raftV ts ex (rclV ts ex un p)).2.i + 1 := by
 have hcl : ∀ q, q = rclV ts ex un p → q.2.e = 0 → p.e = 0 ∧ p.i ≤ q.2.i ∧ yl q.1 = yk ts p.i q.2.i ∧ (preL q.1).length + p.i ≤ q.2.i + 1 := by
  intro q hq he
  subst hq
  unfold rclV at he ⊢
  by_cases hs : isV ts p wAft = true
  · rw [if_pos hs] at he ⊢
    exact ⟨he, Nat.le_refl _, by show yl [] = yk ts p.i p.i; rw [yl_nil, yk_same], by show (preL []).length + p.i ≤ p.i + 1; rw [cnt_nil]; omega⟩
  · rw [if_neg hs] at he ⊢
    exact sev_good hP sem (by decide) (clause_good hP hx hu) p he
 generalize hq : rclV ts ex un p = q at h ⊢
 unfold raftV at h ⊢
 by_cases hs : isV ts q.2 wAft = true
 ·
  rw [if_pos hs] at h ⊢
  obtain ⟨he, hy⟩ := is_at hP hs
  have h' : (arrowV ts ex (ex q.2.next).2).2.e = 0 := h
  obtain ⟨k1, k2, k3, k4⟩ := arrow_good hP hx _ h'
  obtain ⟨m1, m2, m3, m4⟩ := hx _ k1
  obtain ⟨b1, b2, b3, b4⟩ := hcl q hq.symm he
  have m2' : q.2.i + 1 ≤ (ex q.2.next).2.i := m2
  have m3' : yl [(ex q.2.next).1] = yk ts (q.2.i + 1) (ex q.2.next).2.i := m3
  have m4' : (preL [(ex q.2.next).1]).length + (q.2.i + 1) ≤ (ex q.2.next).2.i + 0 := m4
  show p.e = 0 ∧ p.i ≤ (arrowV ts ex (ex q.2.next).2).2.i ∧ yl (q.1 ++ [.mk 14 e0 0 [] [(ex q.2.next).1, (arrowV ts ex (ex q.2.next).2).1]]) = yk ts p.i (arrowV ts ex (ex q.2.next).2).2.i ∧ (preL (q.1 ++ [.mk 14 e0 0 [] [(ex q.2.next).1, (arrowV ts ex (ex q.2.next).2).1]])).length + p.i ≤ (arrowV ts ex (ex q.2.next).2).2.i + 1
  rw [yl_app, cnt_app, yl_node, cnt_node, it_none (by decide) (by decide), List.nil_append, cnt_two, two_good m2' k2 m3' k3, b3]
  refine ⟨b1, by omega, ?_, by omega⟩
  rw [← yk_skip hy (Nat.le_trans m2' k2), ← yk_split b2 (by omega)]
 · rw [if_neg hs] at h ⊢
   exact hcl q hq.symm h
theorem recv_good (hP : Plain ts) {ex un : Rule} (hx : GoodR ts 0 ex) (hu : GoodR ts 0 un) : GoodR ts 1 (recvV ts ex un) := by
 intro p h
 have h' : (wantV ts wEnd (raftV ts ex (rclV ts ex un p)).2).e = 0 := h
 obtain ⟨a1, a2, a3⟩ := want_at hP h'
 obtain ⟨b1, b2, b3, b4⟩ := raft_good hP hx hu p a1
 show p.e = 0 ∧ p.i ≤ (wantV ts wEnd (raftV ts ex (rclV ts ex un p)).2).i ∧ yl [.mk 13 e0 0 [] (raftV ts ex (rclV ts ex un p)).1] = yk ts p.i (wantV ts wEnd (raftV ts ex (rclV ts ex un p)).2).i ∧ (preL [.mk 13 e0 0 [] (raftV ts ex (rclV ts ex un p)).1]).length + p.i ≤ (wantV ts wEnd (raftV ts ex (rclV ts ex un p)).2).i + 1
 rw [a2, yl_node, cnt_node, it_none (by decide) (by decide), List.nil_append]
 generalize raftV ts ex (rclV ts ex un p) = r at b2 b3 b4 a3 ⊢
 refine ⟨b1, by show p.i ≤ r.2.i + 1; omega, ?_, by show _ ≤ r.2.i + 1 + 1; omega⟩
 show _ = yk ts p.i (r.2.i + 1)
 rw [b3, yk_split (ts := ts) (a := p.i) (b := r.2.i) (c := r.2.i + 1) b2 (Nat.le_succ _), a3, List.append_nil]
theorem atom_good (hP : Plain ts) {ex : Rule} (hx : GoodR ts 0 ex) : GoodR ts 0 (atomV ts ex) := by
 intro p h
 unfold atomV at h ⊢
 by_cases hs : isV ts (nameV ts 2 p).2 opn = true
 ·
  rw [if_pos hs] at h ⊢
  obtain ⟨he, hy⟩ := is_at hP hs
  obtain ⟨n1, n2, n3⟩ := name_at hP (.inl rfl) he
  rw [n2] at h hy he ⊢
  generalize (nameV ts 2 p).1 = nm at h n3 ⊢
  have hcall : ∀ q : Ps, (callV ts nm ex q).2.e = 0 → q.e = 0 ∧ q.i ≤ (callV ts nm ex q).2.i ∧ yl (uptoV ts shutR ex q).1 = yk ts q.i (callV ts nm ex q).2.i ∧ (preL (uptoV ts shutR ex q).1).length + q.i + 1 ≤ (callV ts nm ex q).2.i := fun q hq => upto_good hP shutR hx q hq
  unfold deeperV at h ⊢
  by_cases hd : p.next.d = 40
  · rw [if_pos hd] at h
    exfalso
    have h' : (failV 161 p.next).e = 0 := h
    unfold failV at h'
    rw [if_pos he] at h'
    exact absurd (show (161 : Int) = 0 from h') (by decide)
  ·
   rw [if_neg hd] at h ⊢
   have h' : (callV ts nm ex p.next.deep).2.e = 0 := h
   obtain ⟨k1, k2, k3, k4⟩ := hcall _ h'
   have k2' : p.i + 1 + 1 ≤ (callV ts nm ex p.next.deep).2.i := k2
   have k4' : (preL (uptoV ts shutR ex p.next.deep).1).length + (p.i + 1 + 1) + 1 ≤ (callV ts nm ex p.next.deep).2.i := k4
   have k3' : yl (uptoV ts shutR ex p.next.deep).1 = yk ts (p.i + 1 + 1) (callV ts nm ex p.next.deep).2.i := k3
   have hy' : yk ts (p.i + 1) (p.i + 1 + 1) = [] := hy
   show p.e = 0 ∧ p.i ≤ (callV ts nm ex p.next.deep).2.i ∧ yl [.mk 11 nm 0 [] (uptoV ts shutR ex p.next.deep).1] = yk ts p.i (callV ts nm ex p.next.deep).2.i ∧ (preL [.mk 11 nm 0 [] (uptoV ts shutR ex p.next.deep).1]).length + p.i ≤ (callV ts nm ex p.next.deep).2.i + 0
   rw [yl_node, cnt_node, k3']
   refine ⟨n1, by omega, ?_, by omega⟩
   rw [yk_split (ts := ts) (a := p.i) (b := p.i + 1) (c := (callV ts nm ex p.next.deep).2.i) (by omega) (by omega), n3, yk_skip hy' k2']
   simp [itT, isNm, itB]
 ·
  rw [if_neg hs] at h ⊢
  have h' : (nameV ts 2 p).2.e = 0 := h
  obtain ⟨n1, n2, n3⟩ := name_at hP (.inl rfl) h'
  show p.e = 0 ∧ p.i ≤ (nameV ts 2 p).2.i ∧ yl [.mk 2 (nameV ts 2 p).1 0 [] []] = yk ts p.i (nameV ts 2 p).2.i ∧ (preL [.mk 2 (nameV ts 2 p).1 0 [] []]).length + p.i ≤ (nameV ts 2 p).2.i + 0
  rw [yl_node, cnt_node, cnt_nil, yl_nil, n2]
  refine ⟨n1, Nat.le_succ _, ?_, by show 1 + 0 + p.i ≤ p.i + 1 + 0; omega⟩
  show _ = yk ts p.i (p.i + 1)
  rw [n3]
  simp [itT, isNm, itB]
theorem nest_good (hP : Plain ts) {ex un : Rule} (hx : GoodR ts 0 ex) (hu : GoodR ts 0 un) : GoodR ts 0 (nestV ts ex un) := by
 intro p h
 have key : ∀ (s : ByteArray) (g : Rule), GoodR ts 1 g → isV ts p s = true → (deeperV g p).2.e = 0 → p.e = 0 ∧ p.i ≤ (deeperV g p).2.i ∧ yl [(deeperV g p).1] = yk ts p.i (deeperV g p).2.i ∧ (preL [(deeperV g p).1]).length + p.i ≤ (deeperV g p).2.i + 0 := by
  intro s g hg hs he
  obtain ⟨h1, h2⟩ := is_at hP hs
  obtain ⟨k1, k2, k3⟩ := deeper_good hg p h2 h1 he
  exact ⟨h1, by omega, k2, by omega⟩
 have up : ∀ {g : Rule}, GoodR ts 0 g → GoodR ts 1 g := fun hg p h => by obtain ⟨a, b, c, d⟩ := hg p h; exact ⟨a, b, c, by omega⟩
 unfold nestV at h ⊢
 by_cases q0 : isV ts p opn = true
 · rw [if_pos q0] at h ⊢; exact key _ _ (up (bracket_good hP hx)) q0 h
 rw [if_neg q0] at h ⊢
 by_cases q1 : isV ts p opn5 = true
 · rw [if_pos q1] at h ⊢; exact key _ _ (up (row_good hP hx 5 shut5 (by decide) (by decide))) q1 h
 rw [if_neg q1] at h ⊢
 by_cases q2 : isV ts p opn6 = true
 · rw [if_pos q2] at h ⊢; exact key _ _ (up (row_good hP hx 6 shut6 (by decide) (by decide))) q2 h
 rw [if_neg q2] at h ⊢
 by_cases q3 : isV ts p wCase = true
 · rw [if_pos q3] at h ⊢; exact key _ _ (up (choice_good hP hx hu)) q3 h
 rw [if_neg q3] at h ⊢
 by_cases q4 : isV ts p wRecv = true
 · rw [if_pos q4] at h ⊢; exact key _ _ (recv_good hP hx hu) q4 h
 rw [if_neg q4] at h
 exfalso
 have h' : (failV 160 p).e = 0 := h
 unfold failV at h'
 by_cases he : p.e = 0
 · rw [if_pos he] at h'; exact absurd (show (160 : Int) = 0 from h') (by decide)
 · rw [if_neg he] at h'; exact he h'
theorem prim_good (hP : Plain ts) {ex un : Rule} (hx : GoodR ts 0 ex) (hu : GoodR ts 0 un) : GoodR ts 0 (primV ts ex un) := by
 intro p h
 unfold primV at h ⊢
 by_cases k1 : (pkT ts p).k = 1
 ·
  rw [if_pos k1] at h ⊢
  obtain ⟨he, ht⟩ := pk_at (ts := ts) (p := p) (by rw [k1]; decide)
  refine ⟨he, Nat.le_succ _, ?_, ?_⟩
  · show yl [.mk 1 e0 (pkT ts p).n [] []] = yk ts p.i (p.i + 1)
    rw [yl_node, yl_nil, yk_one ht]
    have hb : (pkT ts p).b = [] := hP _ (List.mem_of_getElem? ht) (by rw [k1]; decide)
    simp [itT, itK, isNm, itB, k1, hb]
  · show (preL [.mk 1 e0 (pkT ts p).n [] []]).length + p.i ≤ p.i + 1 + 0
    rw [cnt_node, cnt_nil]; omega
 rw [if_neg k1] at h ⊢
 by_cases k4 : (pkT ts p).k = 4
 ·
  rw [if_pos k4] at h ⊢
  obtain ⟨he, ht⟩ := pk_at (ts := ts) (p := p) (by rw [k4]; decide)
  refine ⟨he, Nat.le_succ _, ?_, ?_⟩
  · show yl [.mk 4 e0 0 (pkT ts p).b []] = yk ts p.i (p.i + 1)
    rw [yl_node, yl_nil, yk_one ht]
    simp [itT, itK, isNm, k4]
  · show (preL [.mk 4 e0 0 (pkT ts p).b []]).length + p.i ≤ p.i + 1 + 0
    rw [cnt_node, cnt_nil]; omega
 rw [if_neg k4] at h ⊢
 by_cases k3 : (pkT ts p).k = 3
 · rw [if_pos k3] at h ⊢; exact var_good hP p h
 rw [if_neg k3] at h ⊢
 by_cases k2 : (pkT ts p).k = 2
 · rw [if_pos k2] at h ⊢; exact atom_good hP hx p h
 rw [if_neg k2] at h ⊢
 exact nest_good hP hx hu p h
theorem unary_good (hP : Plain ts) {ex un : Rule} (hx : GoodR ts 0 ex) (hu : GoodR ts 0 un) : GoodR ts 0 (unaryV ts ex un) := by
 intro p h
 unfold unaryV at h ⊢
 by_cases hs : isV ts p mns = true
 ·
  rw [if_pos hs] at h ⊢
  have h' : (deeperV un p).2.e = 0 := h
  obtain ⟨h1, h2⟩ := is_at hP hs
  obtain ⟨k1, k2, k3⟩ := deeper_good hu p h2 h1 h'
  show p.e = 0 ∧ p.i ≤ (deeperV un p).2.i ∧ yl [.mk 7 e0 0 [] [(deeperV un p).1]] = yk ts p.i (deeperV un p).2.i ∧ (preL [.mk 7 e0 0 [] [(deeperV un p).1]]).length + p.i ≤ (deeperV un p).2.i + 0
  rw [yl_node, cnt_node, it_none (by decide) (by decide), List.nil_append]
  exact ⟨h1, by omega, k2, by omega⟩
 · rw [if_neg hs] at h ⊢
   exact prim_good hP hx hu p h
theorem any_at (hP : Plain ts) {sg : List ByteArray} (h : sg.any (isV ts p) = true) : p.e = 0 ∧ yk ts p.i (p.i + 1) = [] := by
 obtain ⟨s, _, hs⟩ := List.any_eq_true.1 h
 exact is_at hP hs
theorem it_bin (s : ByteArray) (l : List Tr) : itT (.mk 8 s 0 [] l) = [] := by simp [itT, isNm, itB]
theorem joinL_good (hP : Plain ts) {g : Rule} (hg : GoodR ts 0 g) (sg : List ByteArray) : ∀ (f : Nat) (a : Nat) (t : Tr) (p : Ps), a ≤ p.i → yl [t] = yk ts a p.i → (preL [t]).length + a ≤ p.i → (joinL ts sg g f t p).2.e = 0 →
 p.e = 0 ∧ p.i ≤ (joinL ts sg g f t p).2.i ∧ yl [(joinL ts sg g f t p).1] = yk ts a (joinL ts sg g f t p).2.i ∧ (preL [(joinL ts sg g f t p).1]).length + a ≤ (joinL ts sg g f t p).2.i
 | 0, a, t, p, h1, h2, h3, h => ⟨h, Nat.le_refl _, h2, h3⟩
 | f + 1, a, t, p, h1, h2, h3, h => by
  rw [joinL] at h ⊢
  by_cases hs : sg.any (isV ts p) = true
  ·
   rw [if_pos hs] at h ⊢
   obtain ⟨he, hy⟩ := any_at hP hs
   by_cases hge : (g p.next).2.e = 0
   ·
    obtain ⟨k1, k2, k3, k4⟩ := hg p.next hge
    have k2' : p.i + 1 ≤ (g p.next).2.i := k2
    have k3' : yl [(g p.next).1] = yk ts (p.i + 1) (g p.next).2.i := k3
    have k4' : (preL [(g p.next).1]).length + (p.i + 1) ≤ (g p.next).2.i + 0 := k4
    have hn : yl [.mk 8 (pkT ts p).s 0 [] [t, (g p.next).1]] = yk ts a (g p.next).2.i := by
     rw [yl_node, it_bin, List.nil_append]
     refine two_good h1 (by omega) h2 ?_
     rw [k3', yk_skip hy k2']
    obtain ⟨m1, m2, m3, m4⟩ := joinL_good hP hg sg f a _ _ (by omega) hn (by rw [cnt_node, cnt_two]; omega) h
    exact ⟨he, by omega, m3, m4⟩
   · exfalso
     have : (joinL ts sg g f (.mk 8 (pkT ts p).s 0 [] [t, (g p.next).1]) (g p.next).2).2 = (g p.next).2 := by
      cases f with
      | zero => rfl
      | succ f => rw [joinL, any_err hge, if_neg (by decide)]
     rw [this] at h
     exact hge h
  · rw [if_neg hs] at h ⊢
    exact ⟨h, Nat.le_refl _, h2, h3⟩
theorem join_good (hP : Plain ts) {g : Rule} (hg : GoodR ts 0 g) (hst : Stuck g) (sg : List ByteArray) (f : Nat) : GoodR ts 0 (joinV ts sg g f) := by
 intro p h
 unfold joinV at h ⊢
 by_cases hge : (g p).2.e = 0
 · obtain ⟨k1, k2, k3, k4⟩ := hg p hge
   obtain ⟨m1, m2, m3, m4⟩ := joinL_good hP hg sg f p.i (g p).1 (g p).2 k2 k3 (by omega) h
   exact ⟨k1, by omega, m3, by omega⟩
 ·
  exfalso
  have : (joinL ts sg g f (g p).1 (g p).2).2 = (g p).2 := by
   cases f with
   | zero => rfl
   | succ f => rw [joinL, any_err hge, if_neg (by decide)]
  rw [this] at h
  exact hge h
theorem expr_good (hP : Plain ts) {ex jn : Rule} (hx : GoodR ts 0 ex) (hj : GoodR ts 0 jn) : GoodR ts 0 (exprV ts ex jn) := by
 intro p h
 have key : ∀ (k : Int) (s : ByteArray), isNm k = false → k ≠ 1 → isV ts (jn p).2 s = true → (deeperV ex (jn p).2).2.e = 0 → p.e = 0 ∧ p.i ≤ (deeperV ex (jn p).2).2.i ∧ yl [.mk k e0 0 [] [(jn p).1, (deeperV ex (jn p).2).1]] = yk ts p.i (deeperV ex (jn p).2).2.i ∧ (preL [.mk k e0 0 [] [(jn p).1, (deeperV ex (jn p).2).1]]).length + p.i ≤ (deeperV ex (jn p).2).2.i + 0 := by
  intro k s h1 h2 hs he
  obtain ⟨a1, a2⟩ := is_at hP hs
  obtain ⟨b1, b2, b3, b4⟩ := hj p a1
  obtain ⟨k1, k2, k3⟩ := deeper_good hx (jn p).2 a2 a1 he
  rw [yl_node, cnt_node, it_none h1 h2, List.nil_append, cnt_two]
  exact ⟨b1, by omega, two_good b2 (by omega) b3 k2, by omega⟩
 unfold exprV at h ⊢
 by_cases q1 : isV ts (jn p).2 sEq = true
 · rw [if_pos q1] at h ⊢; exact key 9 _ (by decide) (by decide) q1 h
 rw [if_neg q1] at h ⊢
 by_cases q2 : isV ts (jn p).2 sBang = true
 · rw [if_pos q2] at h ⊢; exact key 10 _ (by decide) (by decide) q2 h
 rw [if_neg q2] at h ⊢
 exact hj p h
end
end Go.Proofs.YtjedbfbolifjjaaGreatDoor

namespace Go.Proofs.YtjedbfbolifjjaaGreatDoor
section
variable {ts : List Tn} {p : Ps}
theorem fail_no {c : Int} (hc : c ≠ 0) (h : (failV c p).e = 0) : False := by
 unfold failV at h
 by_cases he : p.e = 0
 · rw [if_pos he] at h; exact hc h
 · rw [if_neg he] at h; exact he h
theorem exun_good (hP : Plain ts) : ∀ m, GoodR ts 0 (exun ts m).1 ∧ GoodR ts 0 (exun ts m).2
 | 0 => ⟨fun p h => (fail_no (c := 161) (by decide) h).elim, fun p h => (fail_no (c := 161) (by decide) h).elim⟩
 | m + 1 => by
  obtain ⟨hx, hu⟩ := exun_good hP m
  have hun := unary_good hP hx hu
  refine ⟨expr_good hP hx ?_, hun⟩
  exact join_good hP (join_good hP (join_good hP hun unaryV_err _ _) (joinV_err unaryV_err _ _) _ _) (joinV_err (joinV_err unaryV_err _ _) _ _) _ _
theorem fun_good (hP : Plain ts) {ex : Rule} (hx : GoodR ts 0 ex) (hst : Stuck ex) : ∀ p : Ps, (funV ts ex p).2.e = 0 → p.e = 0 ∧ p.i ≤ (funV ts ex p).2.i ∧ yl [(funV ts ex p).1] = yk ts p.i (funV ts ex p).2.i ∧ (preL [(funV ts ex p).1]).length + p.i + 1 ≤ (funV ts ex p).2.i := by
 intro p h
 have h' : (wantV ts dot (arrowV ts ex (parV ts p).2).2).e = 0 := h
 obtain ⟨a1, a2, a3⟩ := want_at hP h'
 obtain ⟨b1, b2, b3, b4⟩ := arrow_good hP hx _ a1
 have b1' : (uptoV ts shutR (varV ts) (wantV ts opn (nameV ts 2 p).2)).2.e = 0 := b1
 obtain ⟨c1, c2, c3, c4⟩ := upto_good hP shutR (var_good hP) _ b1'
 obtain ⟨d1, d2, d3⟩ := want_at hP c1
 obtain ⟨n1, n2, n3⟩ := name_at hP (.inl rfl) d1
 show p.e = 0 ∧ p.i ≤ (wantV ts dot (arrowV ts ex (parV ts p).2).2).i ∧ yl [.mk 17 (nameV ts 2 p).1 0 [] ((parV ts p).1 ++ [(arrowV ts ex (parV ts p).2).1])] = yk ts p.i (wantV ts dot (arrowV ts ex (parV ts p).2).2).i ∧ (preL [.mk 17 (nameV ts 2 p).1 0 [] ((parV ts p).1 ++ [(arrowV ts ex (parV ts p).2).1])]).length + p.i + 1 ≤ (wantV ts dot (arrowV ts ex (parV ts p).2).2).i
 have e1 : wantV ts opn (nameV ts 2 p).2 = p.next.next := by rw [d2, n2]
 have hpar : parV ts p = uptoV ts shutR (varV ts) p.next.next := by rw [← e1]; rfl
 rw [e1] at c2 c3 c4
 rw [n2] at d3
 rw [a2]
 rw [hpar] at a3 b2 b3 b4 ⊢
 clear a2 hpar e1 d2 c1 b1 b1' a1 h' h d1
 generalize uptoV ts shutR (varV ts) p.next.next = u at a3 b2 b3 b4 c2 c3 c4 ⊢
 generalize arrowV ts ex u.2 = r at a3 b2 b3 b4 ⊢
 have c2' : p.i + 1 + 1 ≤ u.2.i := c2
 have c3' : yl u.1 = yk ts (p.i + 1 + 1) u.2.i := c3
 have c4' : (preL u.1).length + (p.i + 1 + 1) + 1 ≤ u.2.i := c4
 have d3' : yk ts (p.i + 1) (p.i + 1 + 1) = [] := d3
 have hi : r.2.next.i = r.2.i + 1 := rfl
 rw [hi, yl_node, cnt_node, cnt_app, yl_app, c3', b3]
 refine ⟨n1, by omega, ?_, by omega⟩
 rw [yk_split (ts := ts) (a := p.i) (b := r.2.i) (c := r.2.i + 1) (by omega) (Nat.le_succ _), a3, List.append_nil, yk_split (ts := ts) (a := p.i) (b := p.i + 1) (c := r.2.i) (by omega) (by omega), n3, yk_skip d3' (by omega), yk_split (ts := ts) (a := p.i + 1 + 1) (b := u.2.i) (c := r.2.i) c2' b2]
 simp [itT, isNm, itB]
theorem progL_good (hP : Plain ts) {ex : Rule} (hx : GoodR ts 0 ex) (hst : Stuck ex) : ∀ (f : Nat) (l : List Tr) (p : Ps), mu ts.length p ≤ f → yl l = yk ts 0 p.i → (preL l).length + l.length ≤ p.i → (progL ts ex f l p).2.e = 0 →
 ts.length ≤ (progL ts ex f l p).2.i ∧ yl (progL ts ex f l p).1 = yk ts 0 (progL ts ex f l p).2.i ∧ (preL (progL ts ex f l p).1).length + (progL ts ex f l p).1.length ≤ (progL ts ex f l p).2.i
 | 0, l, p, hf, h1, h2, h => by
  unfold mu at hf
  rw [progL] at h
  have h' : p.e = 0 := h
  rw [if_pos h'] at hf
  omega
 | f + 1, l, p, hf, h1, h2, h => by
  rw [progL] at h ⊢
  by_cases hc : p.e = 0 ∧ p.i < ts.length
  ·
   rw [if_pos hc] at h ⊢
   by_cases he : (funV ts ex p).2.e = 0
   · obtain ⟨k1, k2, k3, k4⟩ := fun_good hP hx hst p he
     refine progL_good hP hx hst f _ _ (by have := mu_lt (q' := (funV ts ex p).2) hc.1 hc.2 k2 (.inr (by omega)); omega) ?_ ?_ h
     · rw [yl_app, h1, k3, ← yk_split (Nat.zero_le _) k2]
     · rw [cnt_app, List.length_append]
       simp only [List.length_cons, List.length_nil]
       omega
   · exfalso
     have : (progL ts ex f (l ++ [(funV ts ex p).1]) (funV ts ex p).2).2 = (funV ts ex p).2 := by
      cases f with
      | zero => rfl
      | succ f => rw [progL, if_neg (fun hh => he hh.1)]
     rw [this] at h
     exact he h
  · rw [if_neg hc] at h ⊢
    have h' : p.e = 0 := h
    refine ⟨?_, h1, h2⟩
    rcases Nat.lt_or_ge p.i ts.length with hlt | hge
    · exact absurd ⟨h', hlt⟩ hc
    · exact hge
end
end Go.Proofs.YtjedbfbolifjjaaGreatDoor

namespace Go.Proofs.YtjedbfbolifjjaaGreatDoor
open Go.RowKit Go.Maps
variable {x : Kx} {W W' : World} {pb : Nat} {p p' : Ps}
/-- Only bytes have bytes. -/
theorem tokV_plain {s : ByteArray} {i j : Nat} {t : Tok} (h : tokV s i = .ok (t, j)) : t.k ≠ 4 → t.b = [] := by
 unfold tokV at h
 split at h
 · split at h
   · cases h
   · cases h; exact fun _ => rfl
 ·
  split at h
  · split at h
    · cases h
    · cases h; exact fun e => absurd rfl e
  ·
   split at h
   · split at h
     · cases h
     · cases h; exact fun _ => rfl
   · split at h
     · cases h
     · cases h; exact fun _ => rfl
theorem scn_plain {s : ByteArray} : ∀ (f i : Nat) (ts l : List Tok), scn s f i ts = .ok l → (∀ t ∈ ts, t.k ≠ 4 → t.b = []) → ∀ t ∈ l, t.k ≠ 4 → t.b = []
 | 0, i, ts, l, h, h1 => by simp [scn] at h; subst h; exact h1
 | f + 1, i, ts, l, h, h1 => by
  rw [scn] at h
  split at h
  ·
   split at h
   · cases h
   ·
    cases ht : tokV s i with
    | error c => rw [ht] at h; cases h
    | ok v =>
     obtain ⟨t, j⟩ := v
     rw [ht] at h
     refine scn_plain f _ _ l h (fun u hu => ?_)
     rcases List.mem_append.1 hu with hu | hu
     · exact h1 u hu
     · rw [List.mem_singleton] at hu; subst hu; exact tokV_plain ht
  · cases h; exact h1
theorem scanV_plain {s : ByteArray} {l : List Tok} (h : scanV s = .ok l) : Plain (l.map tnOf) := by
 intro t ht
 obtain ⟨u, hu, rfl⟩ := List.mem_map.1 ht
 unfold scanV at h
 split at h
 · cases h
 · exact scn_plain _ _ _ _ h (fun t ht => by cases ht) u hu
end Go.Proofs.YtjedbfbolifjjaaGreatDoor
