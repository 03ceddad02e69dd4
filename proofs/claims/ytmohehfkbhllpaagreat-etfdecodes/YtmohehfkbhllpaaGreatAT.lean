/-
  Carried over from another seat of ours (AT).
-/
import Derived.Test.YtmohehfkbhllpaaGreatZ
set_option linter.unusedVariables false
set_option linter.unusedSimpArgs false
namespace Go.Proofs.YtmohehfkbhllpaaGreat
open Go.RowKit Go.Maps

/-- A row's parts behind o, at most m in all. -/
def allL : List Tm → Nat → List Tm → List Tm
  | [], _, o => o
  | .mk t bs x :: l, m, o => if o.length < m then allL l m (o ++ (if m - o.length = 0 then [] else allL x (m - o.length) [.mk t bs x])) else o
/-- A tree's parts, at most m. -/
def allT : Tm → Nat → List Tm
  | .mk t bs l, m => if m = 0 then [] else allL l m [.mk t bs l]
theorem allL_cons (x : Tm) (l : List Tm) (m : Nat) (o : List Tm) : allL (x :: l) m o = if o.length < m then allL l m (o ++ allT x (m - o.length)) else o := by
  cases x; rw [allL, allT]
theorem allL_le : ∀ (l : List Tm) (m : Nat) (o : List Tm), o.length ≤ m → (allL l m o).length ≤ m
  | [], m, o, h => by rw [allL]; exact h
  | .mk t bs x :: l, m, o, h => by
    rw [allL]
    split
    · refine allL_le l m _ ?_
      rw [List.length_append]
      split
      · simp; omega
      · have := allL_le x (m - o.length) [.mk t bs x] (by simp; omega)
        omega
    · exact h
theorem allT_le : ∀ (T : Tm) (m : Nat), (allT T m).length ≤ m
  | .mk t bs l, m => by
    rw [allT]
    split
    · simp
    · exact allL_le l m _ (by simp; omega)
theorem Rep.nine {A : Nat → Prop} {W : World} {T : Tm} {v : Value} (h : Rep A W T v) : (cellsOf v).length = 9 := by
  obtain ⟨tk, tn, tx, ty, ts, ta, tc, td, a1, n1, c1, a2, n2, c2, rfl⟩ := h.agg
  rfl
theorem reps_at {A : Nat → Prop} {W : World} : ∀ (l : List Tm) (vs : List Value), Reps A W l vs → ∀ (k : Nat) (x : Tm), l[k]? = some x → ∃ v, Rep A W x v ∧ ∀ j u, (cellsOf v)[j]? = some u → (vs.flatMap cellsOf)[k * 9 + j]? = some u
  | [], vs, _, k, x, hx => by simp at hx
  | t :: l, vs, h, k, x, hx => by
    obtain ⟨v, r, rfl, h1, h2⟩ := h
    cases k with
    | zero =>
      simp at hx
      subst hx
      refine ⟨v, h1, fun j u hu => ?_⟩
      rw [List.flatMap_cons, Nat.zero_mul, Nat.zero_add, List.getElem?_append_left]
      · exact hu
      · exact (List.getElem?_eq_some_iff.1 hu).1
    | succ k =>
      obtain ⟨w, k1, k2⟩ := reps_at l r h2 k x (by simpa using hx)
      refine ⟨w, k1, fun j u hu => ?_⟩
      rw [List.flatMap_cons, List.getElem?_append_right (by rw [Rep.nine h1]; omega), Rep.nine h1, show (k + 1) * 9 + j - 9 = k * 9 + j by omega]
      exact k2 j u hu
theorem row_at {A : Nat → Prop} {W : World} {l : List Tm} {vs : List Value} {g : Nat} {cur : Array Value} {t : TypeId} {z : Nat × Nat} (hcur : W.heap[g]? = some (.cells cur t z)) (htake : cur.toList.take (l.length * 9) = vs.flatMap cellsOf) (hreps : Reps A W l vs) (k : Nat) (x : Tm) (hx : l[k]? = some x) :
    ∃ tk tn tx ty ts ta tc td a1 n1 c1 a2 n2 c2, Rep A W x (tv tk tn tx ty ts ta tc td (.slice a1 n1 c1) (.slice a2 n2 c2)) ∧ W.cell? ⟨g, k * 9, none⟩ = some (.int .i64 tk) ∧ W.cell? ⟨g, k * 9 + 1, none⟩ = some (.int .i64 tn) ∧ W.cell? ⟨g, k * 9 + 2, none⟩ = some (.complex .f64 tx ty) ∧ W.cell? ⟨g, k * 9 + 3, none⟩ = some (.string ts) ∧
      W.cell? ⟨g, k * 9 + 4, none⟩ = some (.int .i64 ta) ∧ W.cell? ⟨g, k * 9 + 5, none⟩ = some (.int .u32 tc) ∧ W.cell? ⟨g, k * 9 + 6, none⟩ = some (.int .u64 td) ∧ W.cell? ⟨g, k * 9 + 7, none⟩ = some (.slice a1 n1 c1) ∧ W.cell? ⟨g, k * 9 + 8, none⟩ = some (.slice a2 n2 c2) := by
  obtain ⟨v, h1, h2⟩ := reps_at l vs hreps k x hx
  obtain ⟨tk, tn, tx, ty, ts, ta, tc, td, a1, n1, c1, a2, n2, c2, rfl⟩ := h1.agg
  have hc : ∀ j u, (cellsOf (tv tk tn tx ty ts ta tc td (.slice a1 n1 c1) (.slice a2 n2 c2)))[j]? = some u → W.cell? ⟨g, k * 9 + j, none⟩ = some u := by
    intro j u hu
    have e := h2 j u hu
    rw [← htake] at e
    have hlt : k * 9 + j < l.length * 9 := by
      rcases Nat.lt_or_ge (k * 9 + j) (l.length * 9) with h | h
      · exact h
      · rw [List.getElem?_eq_none (by simp; omega)] at e; cases e
    rw [List.getElem?_take_of_lt hlt] at e
    simp only [World.cell?, hcur]
    simpa using e
  exact ⟨tk, tn, tx, ty, ts, ta, tc, td, a1, n1, c1, a2, n2, c2, h1, hc 0 _ rfl, hc 1 _ rfl, hc 2 _ rfl, hc 3 _ rfl, hc 4 _ rfl, hc 5 _ rfl, hc 6 _ rfl, hc 7 _ rfl, hc 8 _ rfl⟩
theorem allL_ge : ∀ (l : List Tm) (m : Nat) (o : List Tm), o.length ≤ (allL l m o).length
  | [], m, o => by rw [allL]; exact Nat.le_refl _
  | x :: l, m, o => by
    rw [allL_cons]
    split
    · have := allL_ge l m (o ++ allT x (m - o.length))
      rw [List.length_append] at this
      omega
    · exact Nat.le_refl _
theorem allT_pos (T : Tm) (m : Nat) (h : 1 ≤ m) : 1 ≤ (allT T m).length := by
  cases T with
  | mk t bs l =>
    rw [allT, if_neg (by omega)]
    exact allL_ge l m [.mk t bs l]
theorem Reps.append {A : Nat → Prop} {W : World} : ∀ {l l' : List Tm} {vs vs' : List Value}, Reps A W l vs → Reps A W l' vs' → Reps A W (l ++ l') (vs ++ vs')
  | [], l', vs, vs', h, k => by cases h; exact k
  | t :: l, l', vs, vs', h, k => by
    obtain ⟨v, r, rfl, h1, h2⟩ := h
    exact ⟨v, r ++ vs', rfl, h1, Reps.append h2 k⟩
theorem Reps.one {A : Nat → Prop} {W : World} : ∀ {l : List Tm} {vs : List Value}, Reps A W l vs → ∀ u ∈ vs.flatMap cellsOf, u.oneCell' = true
  | [], vs, h, u, hu => by cases h; simp at hu
  | t :: l, vs, h, u, hu => by
    obtain ⟨v, r, rfl, h1, h2⟩ := h
    rw [List.flatMap_cons, List.mem_append] at hu
    rcases hu with hu | hu
    · obtain ⟨tk, tn, tx, ty, ts, ta, tc, td, a1, n1, c1, a2, n2, c2, rfl⟩ := Rep.agg h1
      simp [cellsOf] at hu
      rcases hu with rfl | rfl | rfl | rfl | rfl | rfl | rfl | rfl | rfl <;> rfl
    · exact Reps.one h2 u hu
/-- What a call of All does at a tree. -/
def AllOk (T : Tm) : Prop := ∀ (A : Nat → Prop) (W : World) (v : Value) (m : Nat), Rep A W T v → m ≤ 5000 →
  Calls Tryz.prog 17 #[v, .int .i64 (m : Int)] W fun e w' => ∃ u vs, e = .returned u ∧ w'.ownsRow W.heap.size 31 9 u (allT T m).length (vs.flatMap cellsOf) ∧ Reps A w' (allT T m) vs ∧ Gr (fun _ => False) W w'

set_option maxRecDepth 200000 in
set_option maxHeartbeats 1600000 in
theorem all_c (t : Lf) (bs : List Int) (l : List Tm) (ih : ∀ x ∈ l, AllOk x) : AllOk (.mk t bs l) := by
  intro A0 W v m h hm
  obtain ⟨A, hA⟩ : ∃ A, A = fun k => A0 k ∧ k < W.heap.size := ⟨_, rfl⟩
  replace h : Rep A W _ v := h.turn (fun z hz hlt => ⟨by rw [hA]; exact ⟨hz, hlt⟩, rfl⟩)
  have hAlt : ∀ z, A z → z < W.heap.size := fun z hz => by rw [hA] at hz; exact hz.2
  have hA0 : ∀ z, A z → A0 z := fun z hz => by rw [hA] at hz; exact hz.1
  clear hA
  obtain ⟨bv, lv, vs, rfl, h1, h2, h3⟩ := h
  obtain ⟨p1, n1, c1, rfl⟩ : ∃ p q r, bv = .slice p q r := by rcases h1 with ⟨_, a, c, rfl⟩ | ⟨g', cap, cur, rfl, _⟩ <;> exact ⟨_, _, _, rfl⟩
  obtain ⟨p2, c2, rfl⟩ : ∃ p r, lv = .slice p l.length r := by
    rcases h2 with ⟨e, a, c, rfl⟩ | ⟨g', cap, cur, rfl, _⟩
    · exact ⟨a, c, by rw [e]⟩
    · exact ⟨_, _, rfl⟩
  obtain ⟨tk, tn, tx, ty, ts, ta, tc, td⟩ := t
  by_cases h0 : m = 0
  · subst h0
    rw [show allT _ 0 = [] by rw [allT, if_pos rfl]]
    go_enter Tryz.func17, Tryz.ntmps17
    go_wp2_with fail
    go_ret
    exact ⟨_, [], rfl, World.ownsRow_nil _ _ _ _, rfl, Gr.alloc _ _ _⟩
  obtain ⟨i0, hi0, hz0, hz1, hz2⟩ := info_parts info31
  have hmI : (0 : Int) < (m : Int) := by omega
  have hmI2 : (m : Int) ≤ 5000 := by omega
  obtain ⟨q, hq⟩ : ∃ q, q = allT (.mk { k := tk, n := tn, x := tx, y := ty, s := ts, a := ta, c := tc, d := td } bs l) m := ⟨_, rfl⟩
  rw [← hq]
  rw [allT, if_neg h0] at hq
  have Hq := Lib.hid hq
  clear hq
  replace hm := Lib.hid hm
  have h0d : decide (m = 0) = false := by simpa using h0
  have h0 := Lib.hid h0
  go_enter Tryz.func17, Tryz.ntmps17
  go_wp2_with fail
  generalize hW1 : World.alloc (World.alloc W _) _ = W1
  have hg1 : Gr (fun _ => False) W W1 := hW1 ▸ (Gr.alloc _ _ _).trans (Gr.alloc _ _ _)
  have hT1 : W1.heap[W.heap.size]? = some (.cells #[.int .i64 tk, .int .i64 tn, .complex .f64 tx ty, .string ts, .int .i64 ta, .int .u32 tc, .int .u64 td, .slice p1 n1 c1, .slice p2 l.length c2] 31 (0, 0)) := by
    subst hW1; simp only [al, World.size_alloc]; repeat (first | rw [if_pos trivial] | rw [if_pos (by omega)] | rw [if_neg (by omega)])
  have hR1 : W1.heap[W.heap.size + 1]? = some (.cells #[.int .i64 tk, .int .i64 tn, .complex .f64 tx ty, .string ts, .int .i64 ta, .int .u32 tc, .int .u64 td, .slice p1 n1 c1, .slice p2 l.length c2] 31 (0, 0)) := by
    subst hW1; simp only [al, World.size_alloc]; repeat (first | rw [if_pos trivial] | rw [if_pos (by omega)] | rw [if_neg (by omega)])
  clear hW1
  have hrow1 : W1.ownsRow (W.heap.size + 1) 31 9 (.slice (some ⟨W.heap.size + 1, 0, none⟩) 1 1) 1 ([tv tk tn tx ty ts ta tc td (.slice p1 n1 c1) (.slice p2 l.length c2)].flatMap cellsOf) :=
    ⟨by simp [cellsOf], .inr ⟨_, 1, _, rfl, Nat.le_refl _, hR1, Nat.le_refl _, by decide, rfl, by simp [cellsOf]⟩⟩
  go_loopw [5, 6] (fun u v wr => ∃ (k : Nat) (o : List Tm) (vo : List Value), v = .int .i64 (k : Int) ∧ k ≤ l.length ∧ k < o.length ∧ Hid (o.length ≤ m) ∧ Hid (q = allL (l.drop k) m o) ∧ wr.ownsRow (W.heap.size + 1) 31 9 u o.length (vo.flatMap cellsOf) ∧ Reps A wr o vo ∧
    wr.heap[W.heap.size]? = some (.cells #[.int .i64 tk, .int .i64 tn, .complex .f64 tx ty, .string ts, .int .i64 ta, .int .u32 tc, .int .u64 td, .slice p1 n1 c1, .slice p2 l.length c2] 31 (0, 0)) ∧ Gr (fun _ => False) W wr) (fun _ v _ => l.length - (intOf v).toNat)
  case atStart =>
    refine ⟨0, _, _, rfl, by omega, by simp, (by show _ ≤ m; have := h0.out; simp; omega), Hq.out, hrow1, ⟨_, [], rfl, ?_, rfl⟩, hT1, hg1⟩
    have ht : Turn A A W W1 := fun z hz hlt => ⟨hz, hg1.block z hlt (fun e => e)⟩
    exact ⟨_, _, vs, rfl, h1.turn ht, h2.turn ht, Reps.turn ht h3⟩
  case round =>
    obtain ⟨k, o, vo, rfl, hk, ho1, ho, Ho, hrow, hreps, hT, hg⟩ := hrel
    obtain ⟨⟨m0, m1, m2, m3, m4, m5, m6, m7, m8⟩, mf⟩ := nine hT
    have hkb : (k : Int) ≤ 5000 := by have := ho.out; have := hm.out; omega
    have hob : (o.length : Int) ≤ 5000 := by have := ho.out; have := hm.out; omega
    have hs := (Array.getElem?_eq_some_iff.1 hT).1
    obtain ⟨au, cu, rfl⟩ := ownsRow_sv hrow
    by_cases hk1 : k < l.length
    case neg =>
      have e : k = l.length := by omega
      have e2 : q = o := by rw [Ho.out, e, List.drop_length, allL]
      have hkI : decide ((k : Int) < (l.length : Int)) = false := by simp; omega
      subst e2
      replace hk1 := Lib.hid hk1
      clear e
      go_wp2_with fail
      go_ret
      exact ⟨_, vo, rfl, ⟨hrow.1, hrow.2.imp id (fun ⟨g, cap, cur, e, h1, h2⟩ => ⟨g, cap, cur, e, by omega, h2⟩)⟩, hreps.turn (fun z hz hlt => ⟨hA0 z hz, rfl⟩), hg⟩
    have hkI : (k : Int) < (l.length : Int) := by omega
    by_cases hom : o.length < m
    case neg =>
      have hoI : decide ((o.length : Int) < (m : Int)) = false := by simp; omega
      have hdr : l.drop k = l[k] :: l.drop (k + 1) := List.drop_eq_getElem_cons hk1
      have e2 : q = o := by rw [Ho.out, hdr, allL_cons, if_neg hom]
      subst e2
      replace hk1 := Lib.hid hk1
      replace hom := Lib.hid hom
      clear hdr
      go_wp2_with fail
      go_ret
      exact ⟨_, vo, rfl, ⟨hrow.1, hrow.2.imp id (fun ⟨g, cap, cur, e, h1, h2⟩ => ⟨g, cap, cur, e, by omega, h2⟩)⟩, hreps.turn (fun z hz hlt => ⟨hA0 z hz, rfl⟩), hg⟩
    have hoI : (o.length : Int) < (m : Int) := by omega
    obtain ⟨g, cap, cur, hp2, hA, hcur, hcap, htake⟩ : ∃ g cap cur, Value.slice p2 l.length c2 = .slice (some ⟨g, 0, none⟩) l.length cap ∧ A g ∧ W.heap[g]? = some (.cells cur 31 (0, 0)) ∧ l.length ≤ cap ∧ cur.toList.take (l.length * 9) = vs.flatMap cellsOf := by
      rcases h2 with ⟨e, _⟩ | h2
      · omega
      · exact h2
    cases hp2
    have ht : Turn A A W wr := fun z hz hlt => ⟨hz, hg.block z hlt (fun e => e)⟩
    have hxk : l[k]? = some l[k] := List.getElem?_eq_getElem hk1
    have hmem : l[k] ∈ l := List.getElem_mem hk1
    have hdr : l.drop k = l[k] :: l.drop (k + 1) := List.drop_eq_getElem_cons hk1
    generalize l[k] = x at hxk hmem hdr
    obtain ⟨xk, xn, xx, xy, xs, xa, xc, xd, b1, d1, f1, b2, d2, f2, hrx, e0', e1, e2, e3, e4, e5, e6, e7, e8⟩ := row_at (hg.keep hcur (fun e => e)) htake (Reps.turn ht h3) k x hxk
    obtain ⟨r, hr⟩ : ∃ r, m - o.length = r := ⟨_, rfl⟩
    have hrI : (m : Int) - (o.length : Int) = (r : Int) := by omega
    have hcall := ih x hmem A wr _ r hrx (by have := hm.out; omega)
    have Ho2 : Hid (q = allL (l.drop (k + 1)) m (o ++ allT x r)) := by
      show q = _
      rw [Ho.out, hdr, allL_cons, if_pos hom, hr]
    have hlr := allT_le x r
    have hpr := allT_pos x r (by omega)
    have hrm : o.length + r = m := by omega
    generalize allT x r = tx at hcall Ho2 hlr hpr
    have hlI : (tx.length : Int) ≤ 5000 := by have := hm.out; omega
    replace hrm := Lib.hid hrm
    replace hlr := Lib.hid hlr
    replace hpr := Lib.hid hpr
    replace hom := Lib.hid hom
    replace hk1 := Lib.hid hk1
    clear hdr hmem hxk hr
    go_wp2_with fail
    refine hcall.mono ?_
    rintro e w4 ⟨u4, vs4, rfl, hrow4, hreps4, hg4⟩
    obtain ⟨g4, cap4, cur4, rfl, hb4, hh4, hc4, hx4, hsz4, htk4⟩ : ∃ g cap cur, u4 = .slice (some ⟨g, 0, none⟩) tx.length cap ∧ wr.heap.size ≤ g ∧ w4.heap[g]? = some (.cells cur 31 (0, 0)) ∧ tx.length ≤ cap ∧ cap ≤ maxLen ∧ cur.size = cap * 9 ∧ cur.toList.take (tx.length * 9) = vs4.flatMap cellsOf := by
      rcases hrow4.2 with ⟨_, e⟩ | h
      · have := hpr.out; omega
      · exact h
    have hnews : ∀ j u, (vs4.flatMap cellsOf)[j]? = some u → w4.cell? ((⟨g4, 0, none⟩ : Addr).add j) = some u := by
      intro j u hu
      have e : (⟨g4, 0, none⟩ : Addr).add j = ⟨g4, j, none⟩ := by by_cases hj : j = 0 <;> simp [Addr.add, hj]
      rw [e]
      simp only [World.cell?, hh4]
      rw [← htk4] at hu
      have hlt : j < tx.length * 9 := by
        rcases Nat.lt_or_ge j (tx.length * 9) with h | h
        · exact h
        · rw [List.getElem?_eq_none (by simp; omega)] at hu; cases hu
      rw [List.getElem?_take_of_lt hlt] at hu
      simpa using hu
    have hrowW := ownsRow_gr hrow hg4 (fun _ _ e => e)
    have hs4 := hg4.size
    have hbd : (o.length + tx.length) * 120 ≤ 140737488355328 ∧ o.length + tx.length ≤ maxLen := by
      have := hm.out; have := hrm.out; have := hlr.out; unfold maxLen; omega
    replace hbd := Lib.hid hbd
    go_wp2_with (first
      | (at_builtin; refine wpList_own2 _ rfl 29 _ _ rfl (W.heap.size + 1) 31 i0 (lf 0 0 0 0 e0 0 0 0) 9 120 Tryz.underlying29 hi0 hz0 hz1 hz2 rfl (by decide) (.slice au o.length cu) o.length (vo.flatMap cellsOf) ⟨g4, 0, none⟩ tx.length cap4 (vs4.flatMap cellsOf) rfl rfl hrowW hrow4.1 hnews (hreps4.one) hbd.out.2 hbd.out.1 (by omega) ?_; intro v' w5 hrow5 hgr5 hloc5))
    have hG : Gr (fun z => W.heap.size + 1 ≤ z) w4 w5 := Gr.of_grown hgr5 (fun z e => (ownsRow_lt hrow z e).1)
    have ht5 : Turn A A w4 w5 := fun z hz hlt => ⟨hz, hG.block z hlt (by have := hAlt z hz; omega)⟩
    have ht4 : Turn A A wr w4 := fun z hz hlt => ⟨hz, hg4.block z hlt (fun e => e)⟩
    refine ⟨⟨k + 1, o ++ tx, vo ++ vs4, rfl, by have := hk1.out; omega, ?_, ?_, Ho2, ?_, ((hreps.turn ht4).turn ht5).append (hreps4.turn ht5), hG.keep (hg4.keep hT (fun e => e)) (by omega), (hg.trans hg4).trans' hG (fun i hi e => absurd e (by omega))⟩, ?_⟩
    · have := hpr.out; rw [List.length_append]; omega
    · have := hrm.out; have := hlr.out; show (o ++ tx).length ≤ m; rw [List.length_append]; omega
    · rw [List.length_append, List.flatMap_append]; exact hrow5
    · have := hk1.out; simp [intOf]; omega
end Go.Proofs.YtmohehfkbhllpaaGreat


