/-
  A tree that came in.
-/
import Derived.Test.YtbmbgnmkakkpfaaDoorJA
import Derived.Test.YtbmbgnmkakkpfaaDoorGS
import Derived.Test.YtbmbgnmkakkpfaaDoorR
import Derived.SizedLaws
import Derived.Carry
import Derived.Lib.SmallJoins
import Derived.Deep.Slices
import Derived.Deep.Strs
set_option linter.unusedVariables false
set_option linter.unusedSimpArgs false
namespace Go.Proofs.YtbmbgnmkakkpfaaDoor
open Go.ChangeShapes Go.WideShapes Go.ChangeAt Go.RowKit Go.Maps Go.ChangeMaps Go.Joins Go.Deep

theorem cells5 : Tryd.prog.cellsOf 5 = 1 := by kernel_rfl
theorem cells25 : Tryd.prog.cellsOf 25 = 5 := by kernel_rfl
theorem cells3 : Tryd.prog.cellsOf 3 = 1 := by kernel_rfl
theorem cells2 : Tryd.prog.cellsOf 2 = 1 := by kernel_rfl
theorem cells9 : Tryd.prog.cellsOf 9 = 1 := by kernel_rfl
theorem cells22 : Tryd.prog.cellsOf 22 = 1 := by kernel_rfl
theorem cells23 : Tryd.prog.cellsOf 23 = 1 := by kernel_rfl
theorem bytes25 : Tryd.prog.bytesOf 25 = 80 := by kernel_rfl
theorem weights_all {H : Type} {P : Program} {e : TypeId} : ∀ {ds : List (DataW H)} {d : DataW H}, d ∈ ds → ∀ n ∈ d.weights P e, n ∈ DataW.weightsAll P e ds
  | d0 :: ds, d, hd, n, hn => by
    simp only [DataW.weightsAll, List.mem_append]
    rcases List.mem_cons.1 hd with rfl | hd
    · exact .inl hn
    · exact .inr (weights_all hd n hn)
section
variable {H : Type} {enc : TypeId × Value → H} {W : World}
theorem open_bs {fuel : Nat} {v : Value} {x : DataW H × List MemPlace} (hf : DataW.trod enc Tryd.prog W 0 (fun _ => true) true fuel 22 [v] = some x) : ∃ l, RowBG (fun k => k < W.heap.size) W l v := by
  rcases open_ints Tryd.underlying22 Tryd.underlying5 cells5 hf with ⟨hcs, hx⟩ | ⟨a, len, cap, zs, hcs, _, hl, hm, hz, hx, hcell, hwz⟩
  · simp at hcs
    subst hcs
    exact ⟨[], .inl ⟨rfl, _, _, rfl⟩⟩
  · simp at hcs
    subst hcs
    simp only [if_true] at hz
    have hln : (zs.take len).length = len := by simp; omega
    by_cases h0 : len = 0
    · subst h0
      exact ⟨[], .inl ⟨rfl, _, _, rfl⟩⟩
    · have hc0 := hcell 0 (by omega)
      obtain ⟨g, o, spot⟩ := a
      have hspot : spot = none := by simpa [Addr.add] using World.cell?_spot hc0
      subst hspot
      have hadd : ∀ j, (⟨g, o, none⟩ : Addr).add j = ⟨g, o + j, none⟩ := fun j => by unfold Addr.add; split <;> simp_all
      refine ⟨zs.take len, .inr ⟨g, o, cap, by rw [hln], World.block_lt_of_cell? _ _ hc0, fun j u hu => ?_⟩⟩
      have hj : j < len := by have := (List.getElem?_eq_some_iff.1 hu).1; simp only [List.length_map, hln] at this; exact this
      rw [← hadd, hcell j (by omega)]
      rw [← hu]
      simp [List.getD_eq_getElem?_getD, List.getElem?_take_of_lt hj, List.getElem?_eq_getElem (show j < zs.length by omega)]
theorem szs_nil : Szs [] := fun U hU => by rw [preL_nil] at hU; cases hU
/-- The first m trees of a row. -/
theorem open_trees (a : Addr) (len n : Nat) (D : Nat → DataW H × List MemPlace)
    (ih : ∀ (cs : List Value) (x : DataW H × List MemPlace), DataW.trod enc Tryd.prog W 0 (fun _ => true) true n 25 cs = some x → (∀ k ∈ x.1.weights Tryd.prog 25, k ≤ reachBytes) → ∃ T, RepG (fun k => k < W.heap.size) W T (.agg cs.toArray) ∧ Szs [T])
    (hel : ∀ i, i < len → ∃ cs', W.cells? 0 (a.add (i * 5)) 5 = some cs' ∧ DataW.trod enc Tryd.prog W 0 (fun _ => true) true n 25 cs' = some (D i))
    (hw : ∀ i, i < len → ∀ k ∈ (D i).1.weights Tryd.prog 25, k ≤ reachBytes) :
    ∀ m, m ≤ len → ∃ Ts vs, Ts.length = m ∧ RepsG (fun k => k < W.heap.size) W Ts vs ∧ Szs Ts ∧ ∀ j u, (vs.flatMap cellsOf)[j]? = some u → W.cell? (a.add j) = some u
  | 0, _ => ⟨[], [], rfl, rfl, szs_nil, fun j u h => by simp at h⟩
  | m + 1, hm => by
    obtain ⟨Ts, vs, h1, h2, h3, h4⟩ := open_trees a len n D ih hel hw m (by omega)
    obtain ⟨cs', hc, ht⟩ := hel m (by omega)
    obtain ⟨T, hT, hsz⟩ := ih cs' (D m) ht (hw m (by omega))
    obtain ⟨_, hlen', hcell⟩ := World.cells?_some hc
    refine ⟨Ts ++ [T], vs ++ [.agg cs'.toArray], by simp [h1], RepsG.app (W := W) (show RepsG _ W [T] [.agg cs'.toArray] from ⟨_, [], rfl, hT, rfl⟩) h2, fun U hU => ?_, fun j u hu => ?_⟩
    · rw [preL_app] at hU
      rcases List.mem_append.1 hU with hU | hU
      · exact h3 U hU
      · exact hsz U hU
    · rw [List.flatMap_append] at hu
      have hcl := RepsG.cells (W := W) h2
      rw [h1] at hcl
      by_cases hj : j < (vs.flatMap cellsOf).length
      · rw [List.getElem?_append_left hj] at hu
        exact h4 j u hu
      · rw [List.getElem?_append_right (by omega), hcl] at hu
        have hu' : cs'[j - m * 5]? = some u := by simpa [cellsOf] using hu
        have hlt : j - m * 5 < 5 := by have := (List.getElem?_eq_some_iff.1 hu').1; omega
        have := hcell (j - m * 5) hlt
        rw [add_add] at this
        rw [show m * 5 + (j - m * 5) = j by omega] at this
        rw [this]
        exact hu'
set_option maxRecDepth 100000 in
set_option maxHeartbeats 1600000 in
theorem open_tree : ∀ (fuel : Nat) (cs : List Value) (x : DataW H × List MemPlace), DataW.trod enc Tryd.prog W 0 (fun _ => true) true fuel 25 cs = some x → (∀ k ∈ x.1.weights Tryd.prog 25, k ≤ reachBytes) → ∃ T, RepG (fun k => k < W.heap.size) W T (.agg cs.toArray) ∧ Szs [T] := by
  intro fuel
  induction fuel using Nat.strongRecOn with
  | ind fuel IH =>
    intro cs x hf hz
    obtain ⟨xs, m, hfm, hx, hl, hlen, hf⟩ := DataW.trod_struct Tryd.underlying25 hf
    rw [cells25] at hl
    match cs, hl, xs, hlen with
    | [c0, c1, c2, c3, c4], _, [y0, y1, y2, y3, y4], _ =>
      have g0 := hf 0 _ rfl
      have g1 := hf 1 _ rfl
      have g2 := hf 2 _ rfl
      have g3 := hf 3 _ rfl
      have g4 := hf 4 _ rfl
      simp [cells3, cells2, cells9, cells22, cells23] at g0 g1 g2 g3 g4
      obtain ⟨i0, e0, _, w0⟩ := DataW.trod_int Tryd.underlying3 g0
      obtain ⟨s, e1, x1, w1⟩ := DataW.trod_string Tryd.underlying9 g1
      obtain ⟨i2, e2, _, w2⟩ := DataW.trod_int Tryd.underlying2 g2
      obtain ⟨bs, hbs⟩ := open_bs g3
      have hd : x.1 = .agg [y0.1, y1.1, y2.1, y3.1, y4.1] := by have := congrArg Prod.fst hx; simpa using this
      have hwt : (DataW.agg [y0.1, y1.1, y2.1, y3.1, y4.1] : DataW H).weights Tryd.prog 25 = DataW.weightsEach Tryd.prog [3, 9, 2, 22, 23] [y0.1, y1.1, y2.1, y3.1, y4.1] := by simp [DataW.weights, Tryd.underlying25]
      rw [hd, hwt] at hz
      have hss : s.size ≤ reachBytes := by
        apply hz
        refine DataW.weights_mem_each (j := 1) (t := 9) rfl rfl _ ?_
        subst x1
        simp [DataW.weights]
      have h4 : ∀ k ∈ y4.1.weights Tryd.prog 23, k ≤ reachBytes := fun k hk => hz k (DataW.weights_mem_each (j := 4) (t := 23) rfl rfl _ hk)
      have hr := reachBytes_lt
      have hrow : ∃ Ts vs, RowTG (fun k => k < W.heap.size) W vs Ts.length c4 ∧ RepsG (fun k => k < W.heap.size) W Ts vs ∧ Szs Ts ∧ Ts.length ≤ 4611686018427387904 := by
        rcases DataW.trod_slice Tryd.underlying23 g4 with ⟨hcs, hx4⟩ | ⟨a, len, cap, elems, rest, n, hn, hcs, hx4, _, hlc, hmx, hel, hget, _, _⟩
        · simp at hcs
          subst hcs
          exact ⟨[], [], .inl ⟨rfl, _, _, rfl⟩, rfl, szs_nil, Nat.zero_le _⟩
        · simp at hcs
          subst hcs
          rw [hx4] at h4
          have hbytes : (elems.length + rest.length) * 80 ≤ reachBytes := by
            rw [← bytes25]
            apply h4
            simp [DataW.weights, Tryd.underlying23]
          rw [cells25] at hget
          have hel' : ∀ i, i < len → ∃ cs', W.cells? 0 (a.add (i * 5)) 5 = some cs' ∧ DataW.trod enc Tryd.prog W 0 (fun _ => true) true n 25 cs' = some (elems[i]?.getD y0) := by
            intro i hi
            have := hget i hi
            rw [List.getElem?_eq_getElem (by omega)] at this
            obtain ⟨cs', h1, h2⟩ := Option.bind_eq_some_iff.1 this
            exact ⟨cs', h1, by rw [h2, List.getElem?_eq_getElem (by omega)]; rfl⟩
          have hw' : ∀ i, i < len → ∀ k ∈ (elems[i]?.getD y0).1.weights Tryd.prog 25, k ≤ reachBytes := by
            intro i hi k hk
            rw [List.getElem?_eq_getElem (by omega)] at hk
            apply h4
            have : k ∈ DataW.weightsAll Tryd.prog 25 (elems.map (·.1)) := weights_all (List.mem_map_of_mem (List.getElem_mem (by omega))) k hk
            simp [DataW.weights, Tryd.underlying23, this]
          obtain ⟨Ts, vs, t1, t2, t3, t4⟩ := open_trees a len n (fun i => elems[i]?.getD y0) (fun cs x => IH n (by omega) cs x) hel' hw' len (Nat.le_refl _)
          refine ⟨Ts, vs, ?_, t2, t3, by omega⟩
          by_cases h0 : len = 0
          · exact .inl ⟨by omega, _, _, by rw [h0]⟩
          · have hcl := RepsG.cells (W := W) t2
            have hc0 := t4 0 _ (List.getElem?_eq_getElem (by omega))
            obtain ⟨g, o, spot⟩ := a
            have hspot : spot = none := by simpa [Addr.add] using World.cell?_spot hc0
            subst hspot
            have hadd : ∀ j, (⟨g, o, none⟩ : Addr).add j = ⟨g, o + j, none⟩ := fun j => by unfold Addr.add; split <;> simp_all
            exact .inr ⟨g, o, cap, by rw [t1], World.block_lt_of_cell? _ _ hc0, fun j u hu => by rw [← hadd]; exact t4 j u hu⟩
      obtain ⟨Ts, vs, r1, r2, r3, r4⟩ := hrow
      simp only [List.cons.injEq, and_true] at e0 e1 e2
      subst e0 e1 e2
      refine ⟨.mk i0 s i2 bs Ts, ⟨c3, c4, vs, rfl, hbs, r1, r2⟩, fun U hU => ?_⟩
      rw [preL_cons, preL_nil, List.append_nil] at hU
      rcases List.mem_cons.1 hU with rfl | hU
      · exact ⟨by unfold reachBytes at hss; omega, r4⟩
      · exact r3 U hU
end
end Go.Proofs.YtbmbgnmkakkpfaaDoor
