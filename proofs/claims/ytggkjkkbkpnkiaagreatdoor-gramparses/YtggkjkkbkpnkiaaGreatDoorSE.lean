/-
  A copy of tokens that came in: the rows that the law makes.
-/
import Derived.Test.YtggkjkkbkpnkiaaGreatDoorSD
set_option linter.unusedVariables false
set_option linter.unusedSimpArgs false
namespace Go.Proofs.YtggkjkkbkpnkiaaGreatDoor
open Go.RowKit Go.Maps
variable {W W' : World}
theorem tncs_len : ∀ (ts : List Tn) (vs : List Value), vs.length = ts.length → (tncs ts vs).length = ts.length * 5
  | [], vs, h => by simp [tncs]
  | t :: ts, [], h => by simp at h
  | t :: ts, v :: vs, h => by
    rw [tncs, List.length_append, tncs_len ts vs (by simpa using h)]
    simp
    omega
theorem tncs_cell : ∀ (ts : List Tn) (vs : List Value) (j : Nat) (u : Value), (tncs ts vs)[j]? = some u → ∃ k r t v, j = k * 5 + r ∧ r < 5 ∧ ts[k]? = some t ∧ vs[k]? = some v ∧ (tnc t v)[r]? = some u
  | [], vs, j, u, h => by simp [tncs] at h
  | t :: ts, [], j, u, h => by simp [tncs] at h
  | t :: ts, v :: vs, j, u, h => by
    rw [tncs] at h
    by_cases hj : j < 5
    · rw [List.getElem?_append_left (by simpa using hj)] at h
      exact ⟨0, j, t, v, by omega, hj, rfl, rfl, h⟩
    · rw [List.getElem?_append_right (by simp; omega)] at h
      obtain ⟨k, r, t', v', h1, h2, h3, h4, h5⟩ := tncs_cell ts vs _ u h
      simp only [List.length_cons, List.length_nil] at h1
      exact ⟨k + 1, r, t', v', by omega, h2, by simpa using h3, by simpa using h4, h5⟩
theorem tncs_get : ∀ (ts : List Tn) (vs : List Value) (k r : Nat) (t : Tn) (v : Value), ts[k]? = some t → vs[k]? = some v → r < 5 → (tncs ts vs)[k * 5 + r]? = (tnc t v)[r]?
  | [], vs, k, r, t, v, h, _, _ => by simp at h
  | t0 :: ts, [], k, r, t, v, _, h, _ => by simp at h
  | t0 :: ts, v0 :: vs, 0, r, t, v, h1, h2, hr => by
    simp at h1 h2
    subst h1 h2
    rw [tncs, Nat.zero_mul, Nat.zero_add, List.getElem?_append_left (by simpa using hr)]
  | t0 :: ts, v0 :: vs, k + 1, r, t, v, h1, h2, hr => by
    rw [tncs, List.getElem?_append_right (by simp; omega)]
    rw [← tncs_get ts vs k r t v (by simpa using h1) (by simpa using h2) hr]
    congr 1
    simp
    omega
theorem tncs_set : ∀ (ts : List Tn) (vs : List Value) (k : Nat) (v : Value), vs.length = ts.length → (tncs ts vs).set (k * 5 + 3) v = tncs ts (vs.set k v)
  | [], vs, k, v, h => by simp [tncs]
  | t0 :: ts, [], k, v, h => by simp at h
  | t0 :: ts, v0 :: vs, 0, v, h => by
    rw [List.set_cons_zero, tncs, tncs]
    rfl
  | t0 :: ts, v0 :: vs, k + 1, v, h => by
    rw [List.set_cons_succ, tncs, tncs, ← tncs_set ts vs k v (by simpa using h)]
    rw [show (k + 1) * 5 + 3 = k * 5 + 3 + 1 + 1 + 1 + 1 + 1 by omega]
    rfl
theorem info27' : ∃ i0, Tryz.prog.info? 27 = some i0 ∧ i0.zero = some (.agg #[.int .i64 0, .string e0, .int .i64 0, nl, .int .i64 0]) ∧ i0.size = 5 ∧ i0.bytes = 64 := info_parts (by kernel_rfl)
/-- Tokens that came in, put into a row of the call's own. -/
theorem app_tok (w : World) (ty : TypeId) (base gb : Nat) {N : Nat} {ts : List Tn} {vs : List Value} {a : Option Addr} {c : Nat} (hown : w.ownsRow base 27 5 (.slice (some ⟨gb, 0, none⟩) 0 0) 0 []) (h : TokK N w ts vs a) (hvs : vs.length = ts.length) (ha : a = none → ts.length = 0 ∧ c = 0)
    (hn : ts.length ≤ 4500) (hbase : base ≤ w.heap.size) :
    ∃ g' c' w', (Builtin.append_ #[22, 22] ty #[.slice (some ⟨gb, 0, none⟩) 0 0, .slice a ts.length c]).run Tryz.prog w = .ok (.slice (some ⟨g', 0, none⟩) ts.length c') w' ∧ w'.ownsRow base 27 5 (.slice (some ⟨g', 0, none⟩) ts.length c') ts.length (tncs ts vs) ∧ w.grownBy w' (some gb) := by
  obtain ⟨i0, hi0, hzz, hz1, hz2⟩ := info27'
  cases a with
  | none =>
    obtain ⟨h0, rfl⟩ := ha rfl
    have e : ts = [] := List.eq_nil_of_length_eq_zero h0
    subst e
    exact ⟨gb, 0, w, run_append_owned_none w base 22 ty 27 i0 5 Tryz.underlying22 hi0 _ _ _ hown, by simpa [tncs] using hown, World.grownBy.refl _ _⟩
  | some ad =>
    have hcell : ∀ j u, (tncs ts vs)[j]? = some u → w.cell? (ad.add j) = some u := by
      intro j u hu
      obtain ⟨k, r, t, v, rfl, hr, h1, h2, h3⟩ := tncs_cell ts vs j u hu
      obtain ⟨v', g, o, hv, hag, _, _, hc⟩ := h k t h1
      rw [h2] at hv
      cases hv
      cases hag
      have hadd : ∀ j, (⟨g, o, none⟩ : Addr).add j = ⟨g, o + j, none⟩ := fun j => by unfold Addr.add; split <;> simp_all
      rw [hadd, ← Nat.add_assoc]
      exact hc r u h3
    have hone : ∀ u ∈ tncs ts vs, u.oneCell' = true := by
      intro u hu
      obtain ⟨j, hj⟩ := List.getElem?_of_mem hu
      obtain ⟨k, r, t, v, rfl, hr, h1, h2, h3⟩ := tncs_cell ts vs j u hj
      obtain ⟨v', g, o, hv, hag, _, hb, hc⟩ := h k t h1
      rw [h2] at hv
      cases hv
      obtain ⟨va, vc, rfl⟩ := hb.sv
      match r, hr with
      | 0, _ => cases h3; rfl
      | 1, _ => cases h3; rfl
      | 2, _ => cases h3; rfl
      | 3, _ => cases h3; rfl
      | 4, _ => cases h3; rfl
    obtain ⟨v', w', hr', hown', hgrow, hnil, hloc⟩ := run_append_own_at (P := Tryz.prog) w base 22 ty 27 i0 _ 5 64 Tryz.underlying22 hi0 hzz hz1 hz2 rfl (by decide) (.slice (some ⟨gb, 0, none⟩) 0 0) 0 [] hown ad ts.length c (tncs ts vs) (tncs_len ts vs hvs) hcell hone (by unfold maxLen; omega) (by omega) hbase
    rw [Nat.zero_add, List.nil_append] at hown'
    rcases hown'.2 with ⟨e, _⟩ | ⟨g', cap, cur, e, _⟩
    · have := (hnil.1 e).1
      cases this
    · subst e
      exact ⟨g', cap, w', hr', hown', hgrow⟩
section
variable {ops : Array Oper} {rest : List Oper} {o : Oper} {a : Act} {Q : Exit → Act → World → Prop}
theorem wpList_tok (w : World) (hgd : o.guard = none) (t1 t2 : Operand) (ho : o.op = .call { callee := .builtin .append, args := #[t1, t2], argTypes := #[22, 22] }) (base gb : Nat) {N : Nat} {ts : List Tn} {vs : List Value} {ad : Option Addr} {c : Nat}
    (hx : a.eval t1 = .slice (some ⟨gb, 0, none⟩) 0 0) (hy : a.eval t2 = .slice ad ts.length c)
    (hown : w.ownsRow base 27 5 (.slice (some ⟨gb, 0, none⟩) 0 0) 0 []) (h : TokK N w ts vs ad) (hvs : vs.length = ts.length) (ha : ad = none → ts.length = 0 ∧ c = 0) (hn : ts.length ≤ 4500) (hbase : base ≤ w.heap.size)
    (hK : ∀ g' c' w', w'.ownsRow base 27 5 (.slice (some ⟨g', 0, none⟩) ts.length c') ts.length (tncs ts vs) → w.grownBy w' (some gb) → wpList Tryz.prog ops Q rest (a.put o.dst (.slice (some ⟨g', 0, none⟩) ts.length c')) w') : wpList Tryz.prog ops Q (o :: rest) a w := by
  refine wpList_plain hgd fun K hK2 => ?_
  obtain ⟨g', c', w', hr, h1, h2⟩ := app_tok w o.type base gb hown h hvs ha hn hbase
  unfold Oper.wp execOp
  simp only [ho, resolve, invoke, builtin, Sem.run_bind, Sem.run_pure, Result.andThen_ok, List.map_toArray, List.map_cons, List.map_nil, hx, hy, hr]
  exact hK2 _ _ (hK g' c' w' h1 h2)
end
/-- The copy's row: its tokens with these rows of bytes. -/
def CpR (w : World) (ts : List Tn) (ws : List Value) (gb : Nat) : Prop := ∃ cur cap, w.heap[gb]? = some (.cells cur 27 (0, 0)) ∧ cur.size = cap * 5 ∧ ts.length ≤ cap ∧ cur.toList.take (ts.length * 5) = tncs ts ws
theorem CpR.at {ts : List Tn} {ws : List Value} {gb : Nat} (h : CpR W ts ws gb) (k r : Nat) (t : Tn) (v : Value) (h1 : ts[k]? = some t) (h2 : ws[k]? = some v) (hr : r < 5) (u : Value) (hu : (tnc t v)[r]? = some u) : W.cell? ⟨gb, k * 5 + r, none⟩ = some u ∧ W.frozen? ⟨gb, k * 5 + r, none⟩ = false := by
  obtain ⟨cur, cap, hb, hs, hc, ht⟩ := h
  have hk : k < ts.length := (List.getElem?_eq_some_iff.1 h1).1
  have e := tncs_get ts ws k r t v h1 h2 hr
  rw [hu, ← ht, List.getElem?_take_of_lt (by omega)] at e
  constructor
  · simp only [World.cell?, hb]
    simpa using e
  · have hl : k * 5 + r < cur.size := by omega
    simp [World.frozen?, hb]
theorem CpR.gr {S : Nat → Prop} {ts : List Tn} {ws : List Value} {gb : Nat} (h : CpR W ts ws gb) (g : Gr S W W') (hs : ¬ S gb) : CpR W' ts ws gb := by
  obtain ⟨cur, cap, hb, hs', hc, ht⟩ := h
  exact ⟨cur, cap, g.keep hb hs, hs', hc, ht⟩
theorem CpR.set {ts : List Tn} {ws : List Value} {gb k : Nat} {v : Value} (h : CpR W ts ws gb) (hl : ws.length = ts.length) (hk : k < ts.length) : CpR (W.setCell ⟨gb, k * 5 + 3, none⟩ v) ts (ws.set k v) gb := by
  obtain ⟨cur, cap, hb, hs, hc, ht⟩ := h
  refine ⟨cur.setIfInBounds (k * 5 + 3) v, cap, heap_setCell_same W gb (k * 5 + 3) _ 27 _ hb, by simp [hs], hc, ?_⟩
  rw [← tncs_set ts ws k v hl, ← ht, Array.toList_setIfInBounds, List.take_set]
end Go.Proofs.YtggkjkkbkpnkiaaGreatDoor
