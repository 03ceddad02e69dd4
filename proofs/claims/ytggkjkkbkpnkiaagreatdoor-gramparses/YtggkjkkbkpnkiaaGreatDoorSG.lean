/-
  A row of tokens that came in.
-/
import Derived.Test.YtggkjkkbkpnkiaaGreatDoorSF
import Derived.Test.YtggkjkkbkpnkiaaGreatDoorR
import Derived.SizedLaws
import Derived.Carry
import Derived.Lib.SmallJoins
import Derived.Deep.Slices
import Derived.Deep.Strs
set_option linter.unusedVariables false
set_option linter.unusedSimpArgs false
namespace Go.Proofs.YtggkjkkbkpnkiaaGreatDoor
open Go.ChangeShapes Go.WideShapes Go.ChangeAt Go.RowKit Go.Maps Go.ChangeMaps Go.Joins Go.Deep

theorem cells5 : Tryz.prog.cellsOf 5 = 1 := by kernel_rfl
theorem cells27 : Tryz.prog.cellsOf 27 = 5 := by kernel_rfl
theorem cells3 : Tryz.prog.cellsOf 3 = 1 := by kernel_rfl
theorem cells2 : Tryz.prog.cellsOf 2 = 1 := by kernel_rfl
theorem cells9 : Tryz.prog.cellsOf 9 = 1 := by kernel_rfl
theorem cells25 : Tryz.prog.cellsOf 25 = 1 := by kernel_rfl
theorem bytes27 : Tryz.prog.bytesOf 27 = 64 := by kernel_rfl
theorem bytes5 : Tryz.prog.bytesOf 5 = 1 := by kernel_rfl
theorem weights_all {H : Type} {P : Program} {e : TypeId} : ∀ {ds : List (DataW H)} {d : DataW H}, d ∈ ds → ∀ n ∈ d.weights P e, n ∈ DataW.weightsAll P e ds
  | d0 :: ds, d, hd, n, hn => by
    simp only [DataW.weightsAll, List.mem_append]
    rcases List.mem_cons.1 hd with rfl | hd
    · exact .inl hn
    · exact .inr (weights_all hd n hn)
section
variable {H : Type} {enc : TypeId × Value → H} {W : World}
theorem open_bs {fuel : Nat} {v : Value} {x : DataW H × List MemPlace} (hf : DataW.trod enc Tryz.prog W 0 (fun _ => true) true fuel 25 [v] = some x) (hz : ∀ k ∈ x.1.weights Tryz.prog 25, k ≤ reachBytes) : ∃ l, RowBG (fun k => k < W.heap.size) W l v ∧ l.length ≤ reachBytes := by
  rcases open_ints Tryz.underlying25 Tryz.underlying5 cells5 hf with ⟨hcs, hx⟩ | ⟨a, len, cap, zs, hcs, _, hl, hm, hzl, hx, hcell, hwz⟩
  · simp at hcs
    subst hcs
    exact ⟨[], .inl ⟨rfl, _, _, rfl⟩, Nat.zero_le _⟩
  · simp at hcs
    subst hcs
    simp only [if_true] at hzl
    have hln : (zs.take len).length = len := by simp; omega
    have hbound : len ≤ reachBytes := by
      rw [hx] at hz
      have h1 : ((lits .u8 (zs.take len) : List (DataW H)).length + (lits .u8 (zs.drop len) : List (DataW H)).length) * Tryz.prog.bytesOf 5 ≤ reachBytes := by
        apply hz
        simp [DataW.weights, Tryz.underlying25]
      rw [bytes5] at h1
      have h2 : (lits .u8 (zs.take len) : List (DataW H)).length = len := by simp [lits, hln]; omega
      omega
    by_cases h0 : len = 0
    · subst h0
      exact ⟨[], .inl ⟨rfl, _, _, rfl⟩, Nat.zero_le _⟩
    · have hc0 := hcell 0 (by omega)
      obtain ⟨g, o, spot⟩ := a
      have hspot : spot = none := by simpa [Addr.add] using World.cell?_spot hc0
      subst hspot
      have hadd : ∀ j, (⟨g, o, none⟩ : Addr).add j = ⟨g, o + j, none⟩ := fun j => by unfold Addr.add; split <;> simp_all
      refine ⟨zs.take len, .inr ⟨g, o, cap, by rw [hln], World.block_lt_of_cell? _ _ hc0, fun j u hu => ?_⟩, by rw [hln]; exact hbound⟩
      have hj : j < len := by have := (List.getElem?_eq_some_iff.1 hu).1; simp only [List.length_map, hln] at this; exact this
      rw [← hadd, hcell j (by omega)]
      rw [← hu]
      simp [List.getD_eq_getElem?_getD, List.getElem?_take_of_lt hj, List.getElem?_eq_getElem (show j < zs.length by omega)]
set_option maxRecDepth 100000 in
theorem open_tok (n : Nat) (cs : List Value) (x : DataW H × List MemPlace) (hf : DataW.trod enc Tryz.prog W 0 (fun _ => true) true n 27 cs = some x) (hz : ∀ k ∈ x.1.weights Tryz.prog 27, k ≤ reachBytes) :
    ∃ t v, cs = tnc t v ∧ RowBG (fun k => k < W.heap.size) W t.b v ∧ t.s.size ≤ reachBytes ∧ t.b.length ≤ reachBytes := by
  obtain ⟨xs, m, hfm, hx, hl, hlen, hf⟩ := DataW.trod_struct Tryz.underlying27 hf
  rw [cells27] at hl
  match cs, hl, xs, hlen with
  | [c0, c1, c2, c3, c4], _, [y0, y1, y2, y3, y4], _ =>
    have g0 := hf 0 _ rfl
    have g1 := hf 1 _ rfl
    have g2 := hf 2 _ rfl
    have g3 := hf 3 _ rfl
    have g4 := hf 4 _ rfl
    simp [cells3, cells2, cells9, cells25] at g0 g1 g2 g3 g4
    obtain ⟨i0, e0, _, w0⟩ := DataW.trod_int Tryz.underlying3 g0
    obtain ⟨s, e1, x1, w1⟩ := DataW.trod_string Tryz.underlying9 g1
    obtain ⟨i2, e2, _, w2⟩ := DataW.trod_int Tryz.underlying2 g2
    obtain ⟨i4, e4, _, w4⟩ := DataW.trod_int Tryz.underlying3 g4
    have hd : x.1 = .agg [y0.1, y1.1, y2.1, y3.1, y4.1] := by have := congrArg Prod.fst hx; simpa using this
    have hwt : (DataW.agg [y0.1, y1.1, y2.1, y3.1, y4.1] : DataW H).weights Tryz.prog 27 = DataW.weightsEach Tryz.prog [3, 9, 2, 25, 3] [y0.1, y1.1, y2.1, y3.1, y4.1] := by simp [DataW.weights, Tryz.underlying27]
    rw [hd, hwt] at hz
    have hss : s.size ≤ reachBytes := by
      apply hz
      refine DataW.weights_mem_each (j := 1) (t := 9) rfl rfl _ ?_
      subst x1
      simp [DataW.weights]
    obtain ⟨bs, hbs, hbl⟩ := open_bs g3 (fun k hk => hz k (DataW.weights_mem_each (j := 3) (t := 25) rfl rfl _ hk))
    simp only [List.cons.injEq, and_true] at e0 e1 e2 e4
    subst e0 e1 e2 e4
    exact ⟨⟨i0, s, i2, bs, i4⟩, c3, rfl, hbs, hss, hbl⟩
/-- The first m tokens of a row. -/
theorem open_tks (a : Addr) (len n : Nat) (D : Nat → DataW H × List MemPlace)
    (hel : ∀ i, i < len → ∃ cs', W.cells? 0 (a.add (i * 5)) 5 = some cs' ∧ DataW.trod enc Tryz.prog W 0 (fun _ => true) true n 27 cs' = some (D i))
    (hw : ∀ i, i < len → ∀ k ∈ (D i).1.weights Tryz.prog 27, k ≤ reachBytes) :
    ∀ m, m ≤ len → ∃ (ts : List Tn) (vs : List Value), ts.length = m ∧ vs.length = m ∧ ∀ (k : Nat) (t : Tn), ts[k]? = some t → ∃ v, vs[k]? = some v ∧ RowBG (fun z => z < W.heap.size) W t.b v ∧ t.s.size ≤ reachBytes ∧ t.b.length ≤ reachBytes ∧ ∀ j u, (tnc t v)[j]? = some u → W.cell? (a.add (k * 5 + j)) = some u
  | 0, _ => ⟨[], [], rfl, rfl, fun k t h => by simp at h⟩
  | m + 1, hm => by
    obtain ⟨ts, vs, h1, h2, h3⟩ := open_tks a len n D hel hw m (by omega)
    obtain ⟨cs', hc, ht⟩ := hel m (by omega)
    obtain ⟨t, v, rfl, hb, hs, hbl⟩ := open_tok n cs' (D m) ht (hw m (by omega))
    obtain ⟨_, hlen', hcell⟩ := World.cells?_some hc
    refine ⟨ts ++ [t], vs ++ [v], by simp [h1], by simp [h2], fun k t' hk => ?_⟩
    by_cases hkm : k < m
    · rw [List.getElem?_append_left (by omega)] at hk
      obtain ⟨v', q1, q2⟩ := h3 k t' hk
      exact ⟨v', by rw [List.getElem?_append_left (by omega)]; exact q1, q2⟩
    · rw [List.getElem?_append_right (by omega)] at hk
      have hk0 : k = m := by have := (List.getElem?_eq_some_iff.1 hk).1; simp at this; omega
      subst hk0
      have e0 : k - ts.length = 0 := by omega
      rw [e0] at hk
      simp at hk
      subst hk
      refine ⟨v, by rw [List.getElem?_append_right (by omega)]; simp [h2], hb, hs, hbl, fun j u hu => ?_⟩
      have hlt : j < 5 := by have := (List.getElem?_eq_some_iff.1 hu).1; simpa using this
      have := hcell j hlt
      rw [add_add] at this
      rw [this]
      exact hu
set_option maxRecDepth 100000 in
/-- The tokens of an argument. -/
theorem open_toks {base : Nat} {v : Value} {d : DataW H} {p : List MemPlace} (hval : Value.okWide Tryz.prog W .any base 22 v) (h : DataW.Trod enc Tryz.prog W 0 (fun _ => true) true 22 v d p)
    (hz : ∀ n ∈ d.weights Tryz.prog 22, n ≤ reachBytes) : ∃ (ts : List Tn) (vs : List Value) (a : Option Addr) (c : Nat), v = .slice a ts.length c ∧ TokK W.heap.size W ts vs a ∧ vs.length = ts.length ∧ (a = none → ts.length = 0 ∧ c = 0) ∧ ts.length ≤ c ∧ ts.length ≤ 4611686018427387904 ∧
      (∀ t ∈ ts, t.s.size ≤ 140737488351232) ∧ (∀ t ∈ ts, t.b.length ≤ 140737488351232) := by
  obtain ⟨a0, l0, c0, rfl⟩ := okWide_slice Tryz.underlying22 hval
  obtain ⟨fuel, hf⟩ := h
  have hcl : (Value.slice a0 l0 c0).cells.toList = [.slice a0 l0 c0] := by simp [Value.cells]
  rw [hcl] at hf
  have hr : reachBytes ≤ 140737488351232 := by unfold reachBytes; omega
  rcases DataW.trod_slice Tryz.underlying22 hf with ⟨hcs, hx⟩ | ⟨a, len, cap, elems, rest, n, hn, hcs, hx, _, hlc, hmx, hel, hget, _, _⟩
  · simp at hcs
    obtain ⟨rfl, rfl, rfl⟩ := hcs
    exact ⟨[], [], none, 0, rfl, fun k t h => by simp at h, rfl, fun _ => ⟨rfl, rfl⟩, Nat.zero_le _, Nat.zero_le _, (fun t h => (List.not_mem_nil h).elim), (fun t h => (List.not_mem_nil h).elim)⟩
  · simp at hcs
    obtain ⟨rfl, rfl, rfl⟩ := hcs
    have hd : d = .slice (elems.map (·.1)) (rest.map (·.1)) := by have := congrArg Prod.fst hx; simpa using this
    rw [hd] at hz
    have hbytes : (elems.length + rest.length) * 64 ≤ reachBytes := by
      rw [← bytes27]
      apply hz
      simp [DataW.weights, Tryz.underlying22]
    rw [cells27] at hget
    have y0 : DataW H × List MemPlace := (.nil, [])
    have hel' : ∀ i, i < l0 → ∃ cs', W.cells? 0 (a.add (i * 5)) 5 = some cs' ∧ DataW.trod enc Tryz.prog W 0 (fun _ => true) true n 27 cs' = some (elems[i]?.getD y0) := by
      intro i hi
      have := hget i hi
      rw [List.getElem?_eq_getElem (by omega)] at this
      obtain ⟨cs', h1, h2⟩ := Option.bind_eq_some_iff.1 this
      exact ⟨cs', h1, by rw [h2, List.getElem?_eq_getElem (by omega)]; rfl⟩
    have hw' : ∀ i, i < l0 → ∀ k ∈ (elems[i]?.getD y0).1.weights Tryz.prog 27, k ≤ reachBytes := by
      intro i hi k hk
      rw [List.getElem?_eq_getElem (by omega)] at hk
      apply hz
      have : k ∈ DataW.weightsAll Tryz.prog 27 (elems.map (·.1)) := weights_all (List.mem_map_of_mem (List.getElem_mem (by omega))) k hk
      simp [DataW.weights, Tryz.underlying22, this]
    obtain ⟨ts, vs, t1, t2, t3⟩ := open_tks a l0 n (fun i => elems[i]?.getD y0) hel' hw' l0 (Nat.le_refl _)
    have hmem : ∀ t ∈ ts, t.s.size ≤ reachBytes ∧ t.b.length ≤ reachBytes := fun t ht => by
      obtain ⟨k, hk⟩ := List.getElem?_of_mem ht
      obtain ⟨v, _, _, h1, h2, _⟩ := t3 k t hk
      exact ⟨h1, h2⟩
    refine ⟨ts, vs, some a, c0, by rw [t1], fun k t hk => ?_, by omega, (fun h => by cases h), by omega, by unfold reachBytes at hbytes; omega, fun t ht => Nat.le_trans (hmem t ht).1 hr, fun t ht => Nat.le_trans (hmem t ht).2 hr⟩
    obtain ⟨v, q1, q2, _, _, q3⟩ := t3 k t hk
    have hkl := (List.getElem?_eq_some_iff.1 hk).1
    obtain ⟨v0, _, _, _, _, q30⟩ := t3 0 ts[0] (List.getElem?_eq_getElem (by omega))
    have hc0 := q30 0 _ rfl
    obtain ⟨g, o, spot⟩ := a
    have hspot : spot = none := by simpa [Addr.add] using World.cell?_spot hc0
    subst hspot
    have hadd : ∀ j, (⟨g, o, none⟩ : Addr).add j = ⟨g, o + j, none⟩ := fun j => by unfold Addr.add; split <;> simp_all
    rw [hadd] at hc0
    exact ⟨v, g, o, q1, rfl, World.block_lt_of_cell? _ _ hc0, q2, fun j u hu => by have := q3 j u hu; rw [hadd] at this; rw [Nat.add_assoc]; exact this⟩
end
end Go.Proofs.YtggkjkkbkpnkiaaGreatDoor
