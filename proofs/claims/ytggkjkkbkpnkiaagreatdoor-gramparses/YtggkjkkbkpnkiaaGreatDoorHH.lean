/-
  Carried over from another seat of ours (HH).
-/
import Derived.Test.YtggkjkkbkpnkiaaGreatDoorGN
import Derived.Test.YtggkjkkbkpnkiaaGreatDoorGI
set_option linter.unusedVariables false
set_option linter.unusedSimpArgs false
namespace Go.Proofs.YtggkjkkbkpnkiaaGreatDoor
open Go.RowKit Go.Maps
variable {W W' : World}

theorem row_all {base : Nat} {v : Value} {l : List Tr} {us : List Value} {A : Nat → Prop} (hr : W.ownsRow base 30 5 v l.length (us.flatMap cellsOf)) (hp : Reps A W l us) (hpos : 0 < l.length) :
    ∃ g c, v = .slice (some ⟨g, 0, none⟩) l.length c ∧ g < W.heap.size ∧ ∀ (i : Nat) (T : Tr), l[i]? = some T → ∃ v', Rep A W T v' ∧ ∀ j u, (cellsOf v')[j]? = some u → W.cell? ⟨g, i * 5 + j, none⟩ = some u := by
  obtain ⟨g, c, rfl, hc⟩ := row_cells hr hpos
  have hadd : ∀ j, (⟨g, 0, none⟩ : Addr).add j = ⟨g, j, none⟩ := fun j => by unfold Addr.add; split <;> simp_all
  have hat : ∀ (i : Nat) (T : Tr), l[i]? = some T → ∃ v', Rep A W T v' ∧ ∀ j u, (cellsOf v')[j]? = some u → W.cell? ⟨g, i * 5 + j, none⟩ = some u := by
    intro i T hi
    obtain ⟨v', h1, h2⟩ := Reps.at hp i _ hi
    exact ⟨v', h1, fun j u hu => by have := hc _ _ (h2 j u hu); rwa [hadd] at this⟩
  refine ⟨g, c, rfl, ?_, hat⟩
  obtain ⟨v', h1, h2⟩ := hat 0 l[0] (List.getElem?_eq_getElem hpos)
  obtain ⟨tk, tt, tn, a1, n1, c1, a2, n2, c2, rfl⟩ := h1.agg
  exact World.block_lt_of_cell? _ _ (h2 0 _ rfl)
/-! ### A row behind another -/
theorem info25' : ∃ i0, Tryz.prog.info? 30 = some i0 ∧ i0.zero = some (trv 0 e0 0 nl nl) ∧ i0.size = 5 ∧ i0.bytes = 80 := info_parts info25
theorem app_run (w : World) (ty : TypeId) (base : Nat) (v : Value) (n : Nat) (xs : List Value) (hown : w.ownsRow base 30 5 v n xs) (A : Nat → Prop) (l : List Tr) (vs : List Value) (y : Value) (hy : RowT A w vs l.length y) (hr : Reps A w l vs) (hb : n + l.length ≤ 100000) (hbase : base ≤ w.heap.size) :
    ∃ v' w', (Builtin.append_ #[28, 28] ty #[v, y]).run Tryz.prog w = .ok v' w' ∧ w'.ownsRow base 30 5 v' (n + l.length) (xs ++ vs.flatMap cellsOf) ∧ Gr (fun k => base ≤ k) w w' ∧ (∀ z o, w.heap[z]? = some o → v.ownBlock ≠ some z → w'.heap[z]? = some o ∧ v'.ownBlock ≠ some z) := by
  obtain ⟨i0, hi0, hzz, hz1, hz2⟩ := info25'
  rcases hy with ⟨h0, a, c, rfl⟩ | ⟨g, cap, cur, rfl, hA, hg, hnc, htk⟩
  · have hl : l = [] := List.eq_nil_of_length_eq_zero h0
    subst hl
    have hv : vs = [] := hr
    subst hv
    refine ⟨v, w, ?_, by simpa using hown, Gr.refl _ _, fun z o h1 h2 => ⟨h1, h2⟩⟩
    obtain ⟨va, vc, rfl⟩ := ownsRow_sv hown
    rcases hown.2 with ⟨h1, h2⟩ | ⟨g, cap, cur, h1, _, _, hnc, _⟩
    · cases h1
      cases a <;> simp [Builtin.append_, run_underlying Tryz.underlying28, sizeOf, typeInfo, hi0, Builtin.lenOf, Builtin.firstCells, loadCells, loadCellsFrom, hz1]
    · cases h1
      cases a <;> simp [Builtin.append_, run_underlying Tryz.underlying28, sizeOf, typeInfo, hi0, Builtin.lenOf, Builtin.firstCells, hnc, storeCells, loadCells, loadCellsFrom, hz1]
  · have hadd : ∀ j, (⟨g, 0, none⟩ : Addr).add j = ⟨g, j, none⟩ := fun j => by unfold Addr.add; split <;> simp_all
    obtain ⟨v', w', hr', hown', hgrow, _, hloc⟩ := run_append_own_at (P := Tryz.prog) w base 28 ty 30 i0 (trv 0 e0 0 nl nl) 5 80 Tryz.underlying28 hi0 hzz hz1 hz2 rfl (by decide) v n xs hown ⟨g, 0, none⟩ l.length cap (vs.flatMap cellsOf) hr.cells (fun j u hu => by
        rw [hadd]
        simp only [World.cell?, hg]
        have hj : j < l.length * 5 := by have := (List.getElem?_eq_some_iff.1 hu).1; rw [hr.cells] at this; exact this
        have : (cur.toList.take (l.length * 5))[j]? = some u := by rw [htk]; exact hu
        rw [List.getElem?_take_of_lt hj] at this
        simpa using this) hr.one (by unfold maxLen; omega) (by omega) hbase
    exact ⟨v', w', hr', hown', Gr.of_grown hgrow (fun z e => (ownsRow_lt hown z e).1), fun z o h1 h2 => ⟨(hgrow.block z (Array.getElem?_eq_some_iff.1 h1).1 (fun e => h2 e.symm)).trans h1, fun e => by
      have hz := (Array.getElem?_eq_some_iff.1 h1).1
      rcases hloc with h | h
      · exact h2 (h ▸ e)
      · rw [h] at e; cases e; omega⟩⟩
end Go.Proofs.YtggkjkkbkpnkiaaGreatDoor


