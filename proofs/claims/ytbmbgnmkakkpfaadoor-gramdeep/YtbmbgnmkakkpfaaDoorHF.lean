/-
  Tokens of a text that is put together of pieces, one of them again and again (pure).
-/
import Derived.Test.YtbmbgnmkakkpfaaDoorO
import Derived.Test.YtbmbgnmkakkpfaaDoorGA
set_option linter.unusedVariables false
set_option linter.unusedSimpArgs false
namespace Go.Proofs.YtbmbgnmkakkpfaaDoor

/-- A token without its place. -/
def st (t : Tok) : Tn := ⟨t.k, t.s, t.n, t.b, 0⟩
def chunkV (c : ByteArray) (m : Nat) : Nat → Nat → Option (List Tok)
  | 0, _ => none
  | f + 1, i => match tokV c i with
    | .error _ => none
    | .ok (t, j) => if m < j then none else if m ≤ skp c j false then some [t] else (chunkV c m f (skp c j false)).map (fun r => t :: r)
section
variable {u c : ByteArray} {j0 m : Nat}
theorem skp_end (h37 : ∀ k, k < m → pk c k ≠ 37) (hm : m < c.size) (hu : j0 + m ≤ u.size) (hs : Sh u j0 c 0 c.size) : ∀ d j, j + d = m → m ≤ skp c j false → skp u (j0 + j) false = skp u (j0 + m) false
  | 0, j, hj, h => by rw [show j = m by omega]
  | d + 1, j, hj, h => by
    have e : pk u (j0 + j) = pk c j := by have := hs j (by omega); rwa [Nat.zero_add] at this
    rw [skp_def c j false (by omega)] at h
    rw [skp_def u (j0 + j) false (by omega), e]
    have h3 := h37 j (by omega)
    by_cases h1 : pk c j = 10
    · rw [if_pos h1] at h ⊢
      exact skp_end h37 hm hu hs d (j + 1) (by omega) h
    · rw [if_neg h1, if_neg h3] at h ⊢
      by_cases h2 : (false = false ∧ blk (pk c j) = false)
      · rw [if_pos h2] at h; omega
      · rw [if_neg h2] at h ⊢
        exact skp_end h37 hm hu hs d (j + 1) (by omega) h
theorem skp_in (h37 : ∀ k, k < m → pk c k ≠ 37) (hm : m < c.size) (hu : j0 + m ≤ u.size) (hs : Sh u j0 c 0 c.size) : ∀ d j, j + d = m → skp c j false < m → skp u (j0 + j) false = j0 + skp c j false
  | 0, j, hj, h => by have := skp_ge c j false; omega
  | d + 1, j, hj, h => by
    have e : pk u (j0 + j) = pk c j := by have := hs j (by omega); rwa [Nat.zero_add] at this
    rw [skp_def c j false (by omega)] at h ⊢
    rw [skp_def u (j0 + j) false (by omega), e]
    have h3 := h37 j (by omega)
    by_cases h1 : pk c j = 10
    · rw [if_pos h1] at h ⊢
      rw [if_pos h1]
      exact skp_in h37 hm hu hs d (j + 1) (by omega) h
    · rw [if_neg h1, if_neg h3] at h ⊢
      rw [if_neg h1, if_neg h3]
      by_cases h2 : (false = false ∧ blk (pk c j) = false)
      · rw [if_pos h2, if_pos h2]
      · rw [if_neg h2] at h ⊢
        rw [if_neg h2]
        exact skp_in h37 hm hu hs d (j + 1) (by omega) h
theorem chunk (h37 : ∀ k, k < m → pk c k ≠ 37) (hm : m < c.size) (hu : j0 + m ≤ u.size) (hs : Sh u j0 c 0 c.size) : ∀ (f i : Nat) (toks l : List Tok), chunkV c m f i = some toks → i < m → l.length + toks.length ≤ 4000 →
    ∃ l', scb u (j0 + i) l = scb u (skp u (j0 + m) false) l' ∧ l'.map st = l.map st ++ toks.map st
  | 0, i, toks, l, h, _, _ => by cases h
  | f + 1, i, toks, l, h, hi, hl => by
    rw [chunkV] at h
    cases ht : tokV c i with
    | error e => rw [ht] at h; cases h
    | ok p =>
      obtain ⟨t, j⟩ := p
      rw [ht] at h
      have h' : (if m < j then none else if m ≤ skp c j false then some [t] else (chunkV c m f (skp c j false)).map (fun r => t :: r)) = some toks := h
      obtain ⟨o1, o2, o3, o4⟩ := tokV_ok (by omega) ht
      by_cases hmj : m < j
      · rw [if_pos hmj] at h'; cases h'
      · rw [if_neg hmj] at h'
        have hsh : Sh u (j0 + i) c i (j - i) := by
          have := hs.shift i (j - i) (by omega)
          rwa [Nat.zero_add] at this
        have hst : Stp (pk u (j0 + i + (j - i))) (pk c j) := .inl (by
          rw [show j0 + i + (j - i) = j0 + j by omega]
          have := hs j (by omega)
          rwa [Nat.zero_add] at this)
        have htu := tok_sh (by omega) ht hsh hst
        rw [show j0 + i + (j - i) = j0 + j by omega] at htu
        by_cases hk : m ≤ skp c j false
        · rw [if_pos hk] at h'
          cases h'
          refine ⟨l ++ [{ t with at' := j0 + i }], ?_, by simp [st]⟩
          rw [scb_tok (by omega) (by simp at hl; omega) htu, skp_end h37 hm hu hs (m - j) j (by omega) hk]
        · rw [if_neg hk] at h'
          obtain ⟨r, hr, rfl⟩ := Option.map_eq_some_iff.1 h'
          obtain ⟨l', e1, e2⟩ := chunk h37 hm hu hs f (skp c j false) r (l ++ [{ t with at' := j0 + i }]) hr (by omega) (by simp at hl ⊢; omega)
          refine ⟨l', ?_, by rw [e2]; simp [st]⟩
          rw [scb_tok (by omega) (by simp at hl; omega) htu, skp_in h37 hm hu hs (m - j) j (by omega) (by omega), e1]
end
/-! ### Pieces -/
def eqN (a b : Tn) : Bool := (a.k == b.k) && (a.s.data.toList == b.s.data.toList) && (a.n == b.n) && (a.b == b.b) && (a.o == b.o)
def eqT : List Tn → List Tn → Bool
  | [], [] => true
  | a :: r, b :: s => eqN a b && eqT r s
  | _, _ => false
theorem eqN_eq {a b : Tn} (h : eqN a b = true) : a = b := by
  obtain ⟨k, s, n, l, o⟩ := a
  obtain ⟨k', s', n', l', o'⟩ := b
  simp only [eqN, Bool.and_eq_true, beq_iff_eq] at h
  obtain ⟨⟨⟨⟨rfl, h2⟩, rfl⟩, rfl⟩, rfl⟩ := h
  have : s = s' := by apply ByteArray.ext; exact Array.toList_inj.1 h2
  rw [this]
theorem eqT_eq : ∀ {a b : List Tn}, eqT a b = true → a = b
  | [], [], _ => rfl
  | a :: r, b :: s, h => by
    rw [eqT, Bool.and_eq_true] at h
    rw [eqN_eq h.1, eqT_eq h.2]
  | [], _ :: _, h => by cases h
  | _ :: _, [], h => by cases h
/-- The tokens of a piece with this byte behind it. -/
def okC (bs : List Int) (nb : Int) (tk : List Tn) : Bool :=
  (bs.all fun c => decide (0 ≤ c) && decide (c < 256) && decide (c ≠ 37)) && decide (0 ≤ nb) && decide (nb < 256) && decide (skp (sb (bs ++ [nb])) 0 false < bs.length) &&
  match chunkV (sb (bs ++ [nb])) bs.length 9 (skp (sb (bs ++ [nb])) 0 false) with
  | some ts => eqT (ts.map st) tk
  | none => false
theorem sb_sz (l : List Int) : (sb l).size = l.length := by simp [sb, ByteArray.size]
/-- The bytes bs, and the byte nb behind them, stand in u from j on. -/
theorem piece {L P Q bs : List Int} {nb : Int} {tk : List Tn} {l : List Tok} (hB : ∀ c ∈ L, 0 ≤ c ∧ c < 256) (hL : L ++ [0] = P ++ (bs ++ (nb :: Q))) (hc : okC bs nb tk = true) (hl : l.length + tk.length ≤ 4000) :
    ∃ l', scb (sb L) (skp (sb L) P.length false) l = scb (sb L) (skp (sb L) (P.length + bs.length) false) l' ∧ l'.map st = l.map st ++ tk := by
  unfold okC at hc
  simp only [Bool.and_eq_true, List.all_eq_true, decide_eq_true_eq] at hc
  obtain ⟨⟨⟨⟨h1, h2⟩, h3⟩, h4⟩, h5⟩ := hc
  have hlen : L.length + 1 = P.length + (bs.length + (Q.length + 1)) := by
    have := congrArg List.length hL
    simpa using this
  have hcb : ∀ x ∈ bs ++ [nb], 0 ≤ x ∧ x < 256 := by
    intro x hx
    rcases List.mem_append.1 hx with hx | hx
    · exact (h1 x hx).1
    · rw [List.mem_singleton] at hx; subst hx; exact ⟨h2, h3⟩
  have hget : ∀ k, L.getD k 0 = (L ++ [0]).getD k 0 := by
    intro k
    rw [List.getD_eq_getElem?_getD, List.getD_eq_getElem?_getD]
    by_cases hk : k < L.length
    · rw [List.getElem?_append_left hk]
    · rw [List.getElem?_eq_none (by omega)]
      by_cases he : k = L.length
      · subst he; simp
      · rw [List.getElem?_eq_none (by simp; omega)]
  have hsz : (sb (bs ++ [nb])).size = bs.length + 1 := by rw [sb_sz]; simp
  have hs : Sh (sb L) P.length (sb (bs ++ [nb])) 0 (sb (bs ++ [nb])).size := by
    intro k hk
    rw [hsz] at hk
    rw [pk_sb L hB, pk_sb _ hcb, Nat.zero_add, hget, hL, List.getD_eq_getElem?_getD, List.getD_eq_getElem?_getD, List.getElem?_append_right (by omega), show P.length + k - P.length = k by omega, show bs ++ nb :: Q = (bs ++ [nb]) ++ Q by simp, List.getElem?_append_left (by simp; omega)]
  have h37 : ∀ k, k < bs.length → pk (sb (bs ++ [nb])) k ≠ 37 := by
    intro k hk
    rw [pk_sb _ hcb, List.getD_eq_getElem?_getD, List.getElem?_append_left hk, List.getElem?_eq_getElem hk]
    exact (h1 _ (List.getElem_mem hk)).2
  have hm : bs.length < (sb (bs ++ [nb])).size := by omega
  have hu : P.length + bs.length ≤ (sb L).size := by rw [sb_sz]; omega
  have h0 := skp_in h37 hm hu hs bs.length 0 (by omega) h4
  rw [Nat.add_zero] at h0
  rw [h0]
  cases hch : chunkV (sb (bs ++ [nb])) bs.length 9 (skp (sb (bs ++ [nb])) 0 false) with
  | none => rw [hch] at h5; cases h5
  | some ts =>
    rw [hch] at h5
    have e := eqT_eq h5
    obtain ⟨l', e1, e2⟩ := chunk h37 hm hu hs 9 _ ts l hch h4 (by have := congrArg List.length e; simp at this; omega)
    exact ⟨l', e1, by rw [e2, e]⟩
def repL {α : Type} (n : Nat) (b : List α) : List α := (List.replicate n b).flatten
theorem repL_zero {α : Type} (b : List α) : repL 0 b = [] := rfl
theorem repL_succ {α : Type} (n : Nat) (b : List α) : repL (n + 1) b = b ++ repL n b := by unfold repL; rw [List.replicate_succ, List.flatten_cons]
theorem repL_snoc {α : Type} : ∀ (n : Nat) (b : List α), repL (n + 1) b = repL n b ++ b
  | 0, b => by rw [repL_succ, repL_zero, List.append_nil, List.nil_append]
  | n + 1, b => by
    rw [repL_succ (n + 1)]
    exact ((congrArg (b ++ ·) (repL_snoc n b)).trans (List.append_assoc _ _ _).symm).trans (congrArg (· ++ b) (repL_succ n b).symm)
theorem repL_len {α : Type} : ∀ (n : Nat) (b : List α), (repL n b).length = n * b.length
  | 0, b => by rw [repL_zero]; simp
  | n + 1, b => by rw [repL_succ, List.length_append, repL_len n b, Nat.succ_mul]; omega
theorem repL_mem {α : Type} {n : Nat} {b : List α} {x : α} (h : x ∈ repL n b) : x ∈ b := by
  unfold repL at h
  obtain ⟨l, hl, hx⟩ := List.mem_flatten.1 h
  rw [List.eq_of_mem_replicate hl] at hx
  exact hx
theorem repL_none {α : Type} : ∀ n : Nat, repL n ([] : List α) = []
  | 0 => rfl
  | n + 1 => by rw [repL_succ, repL_none n]; rfl
theorem pieces {L bs : List Int} {nb : Int} {tk : List Tn} (hB : ∀ c ∈ L, 0 ≤ c ∧ c < 256) (h1 : okC bs nb tk = true) (h2 : okC bs (bs.headD 0) tk = true) (hne : bs ≠ []) (Q : List Int) :
    ∀ (r : Nat) (P : List Int) (l : List Tok), L ++ [0] = P ++ (repL r bs ++ (nb :: Q)) → l.length + r * tk.length ≤ 4000 →
      ∃ l', scb (sb L) (skp (sb L) P.length false) l = scb (sb L) (skp (sb L) (P ++ repL r bs).length false) l' ∧ l'.map st = l.map st ++ repL r tk
  | 0, P, l, hL, hl => ⟨l, by rw [repL_zero, List.append_nil], by rw [repL_zero, List.append_nil]⟩
  | r + 1, P, l, hL, hl => by
    rw [repL_succ, List.append_assoc] at hL
    have hx : ∃ nb' Q', repL r bs ++ (nb :: Q) = nb' :: Q' ∧ okC bs nb' tk = true := by
      cases r with
      | zero => exact ⟨nb, Q, rfl, h1⟩
      | succ r =>
        cases bs with
        | nil => exact absurd rfl hne
        | cons b bs' => exact ⟨b, _, by rw [repL_succ]; rfl, h2⟩
    obtain ⟨nb', Q', hq, hok⟩ := hx
    have hL' := hL
    rw [hq] at hL
    have hmul : (r + 1) * tk.length = tk.length + r * tk.length := by rw [Nat.succ_mul]; omega
    obtain ⟨l1, e1, e2⟩ := piece hB hL hok (l := l) (by omega)
    have hlen : l1.length = l.length + tk.length := by have := congrArg List.length e2; simpa using this
    obtain ⟨l2, e3, e4⟩ := pieces hB h1 h2 hne Q r (P ++ bs) l1 (by rw [hL', List.append_assoc]) (by omega)
    refine ⟨l2, ?_, by rw [e4, e2, repL_succ, List.append_assoc]⟩
    rw [e1, ← List.length_append, e3, repL_succ, List.append_assoc]
theorem pieces' {L bs : List Int} {nb : Int} {tk : List Tn} (hB : ∀ c ∈ L, 0 ≤ c ∧ c < 256) (h : (bs = [] ∧ tk = []) ∨ (bs ≠ [] ∧ okC bs nb tk = true ∧ okC bs (bs.headD 0) tk = true)) (Q : List Int) (r : Nat) (P : List Int) (l : List Tok) (hL : L ++ [0] = P ++ (repL r bs ++ (nb :: Q))) (hl : l.length + r * tk.length ≤ 4000) :
    ∃ l', scb (sb L) (skp (sb L) P.length false) l = scb (sb L) (skp (sb L) (P ++ repL r bs).length false) l' ∧ l'.map st = l.map st ++ repL r tk := by
  rcases h with ⟨rfl, rfl⟩ | ⟨hne, h1, h2⟩
  · exact ⟨l, by rw [repL_none, List.append_nil], by rw [repL_none, List.append_nil]⟩
  · exact pieces hB h1 h2 hne Q r P l hL hl
/-- The whole: what stands ahead, a head so often, a middle, an end so often, a last one. -/
theorem scan_deep {A H M E D : List Int} {tA tH tM tE tD : List Tn} (n : Nat) (hB : ∀ c ∈ A ++ (repL n H ++ (M ++ (repL n E ++ D))), 0 ≤ c ∧ c < 256) (hsz : (A ++ (repL n H ++ (M ++ (repL n E ++ D)))).length ≤ 16384)
    (hn : tA.length + (n * tH.length + (tM.length + (n * tE.length + tD.length))) ≤ 4000)
    (m0 : Int) (M' : List Int) (hM : M = m0 :: M') (d0 : Int) (D' : List Int) (hD : D = d0 :: D')
    (hH : H ≠ [] ∧ okC H m0 tH = true ∧ okC H (H.headD 0) tH = true) (hA : okC A m0 tA = true ∧ okC A (H.headD 0) tA = true)
    (hE : (E = [] ∧ tE = []) ∨ (E ≠ [] ∧ okC E d0 tE = true ∧ okC E (E.headD 0) tE = true)) (hM2 : okC M d0 tM = true ∧ (E ≠ [] → okC M (E.headD 0) tM = true)) (hD2 : okC D 0 tD = true) :
    ∃ l, scanV (sb (A ++ (repL n H ++ (M ++ (repL n E ++ D))))) = .ok l ∧ l.map st = tA ++ (repL n tH ++ (tM ++ (repL n tE ++ tD))) := by
  generalize hL : A ++ (repL n H ++ (M ++ (repL n E ++ D))) = L at *
  rw [scanV_scb (by rw [sb_sz]; exact hsz)]
  have hx : ∃ nb Q, repL n H ++ (M ++ (repL n E ++ (D ++ [0]))) = nb :: Q ∧ okC A nb tA = true := by
    cases n with
    | zero => exact ⟨m0, _, by rw [hM]; rfl, hA.1⟩
    | succ n =>
      cases H with
      | nil => exact absurd rfl hH.1
      | cons b H' => exact ⟨b, _, by rw [repL_succ]; rfl, hA.2⟩
  obtain ⟨nb, Q, hq, hok⟩ := hx
  have hL0 : L ++ [0] = A ++ (repL n H ++ (M ++ (repL n E ++ (D ++ [0])))) := by rw [← hL]; simp
  obtain ⟨l1, a1, a2⟩ := piece (P := []) (l := []) hB (by rw [hL0, hq]; rfl) hok (by simp; omega)
  have n1 : l1.length = tA.length := by have := congrArg List.length a2; simpa using this
  have hL1 : L ++ [0] = A ++ (repL n H ++ (m0 :: (M' ++ (repL n E ++ (D ++ [0]))))) := by rw [hL0, hM]; rfl
  obtain ⟨l2, b1, b2⟩ := pieces hB hH.2.1 hH.2.2 hH.1 _ n A l1 hL1 (by omega)
  have n2 : l2.length = tA.length + n * tH.length := by have := congrArg List.length b2; simp [repL_len] at this; omega
  have hy : ∃ nb Q, repL n E ++ (D ++ [0]) = nb :: Q ∧ okC M nb tM = true := by
    cases n with
    | zero => exact ⟨d0, _, by rw [hD]; rfl, hM2.1⟩
    | succ n =>
      cases hEE : E with
      | nil => exact ⟨d0, _, by rw [repL_none, hD]; rfl, hM2.1⟩
      | cons b E' => exact ⟨b, _, by rw [repL_succ]; rfl, by have := hM2.2 (by rw [hEE]; exact List.cons_ne_nil _ _); rwa [hEE] at this⟩
  obtain ⟨nb2, Q2, hq2, hok2⟩ := hy
  obtain ⟨l3, c1, c2⟩ := piece (P := A ++ repL n H) (Q := Q2) (l := l2) hB (by rw [hL0, hq2]; simp) hok2 (by omega)
  have n3 : l3.length = tA.length + n * tH.length + tM.length := by have := congrArg List.length c2; simp [n2] at this; omega
  obtain ⟨l4, d1, d2⟩ := pieces' hB hE (D' ++ [0]) n (A ++ repL n H ++ M) l3 (by rw [hL0, hD]; simp) (by omega)
  have n4 : l4.length = tA.length + n * tH.length + tM.length + n * tE.length := by have := congrArg List.length d2; simp [n3, repL_len] at this; omega
  obtain ⟨l5, e1, e2⟩ := piece (P := A ++ repL n H ++ M ++ repL n E) (Q := []) (l := l4) hB (by rw [hL0]; simp) hD2 (by omega)
  refine ⟨l5, ?_, by rw [e2, d2, c2, b2, a2]; simp⟩
  have z1 : scb (sb L) (skp (sb L) 0 false) [] = scb (sb L) (skp (sb L) A.length false) l1 := by
    have := a1
    simpa using this
  rw [z1, b1]
  rw [show (A ++ repL n H ++ M ++ repL n E).length + D.length = (sb L).size by rw [sb_sz, ← hL]; simp; omega, skp_out _ _ _ (Nat.le_refl _), scb_end (Nat.le_refl _)] at e1
  rw [c1, ← List.length_append, d1, e1]
end Go.Proofs.YtbmbgnmkakkpfaaDoor
