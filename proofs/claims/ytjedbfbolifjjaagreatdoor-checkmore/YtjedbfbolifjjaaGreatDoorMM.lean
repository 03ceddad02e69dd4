/-
  The reference's some: kinds of parts from a place on up to another one.
  The reference's there: is there a function of a name with so many parameters?
  Rows of names that are read; the reference's has; a row of parts by their places.
-/
import Derived.Test.YtjedbfbolifjjaaGreatDoorMI
import Derived.Test.YtjedbfbolifjjaaGreatDoorKN
import Derived.Test.YtjedbfbolifjjaaGreatDoorJP
set_option linter.unusedVariables false
set_option linter.unusedSimpArgs false
namespace Go.Proofs.YtjedbfbolifjjaaGreatDoor
open Go.RowKit Go.Maps
variable {W W' : World}
end Go.Proofs.YtjedbfbolifjjaaGreatDoor

namespace Go.Proofs.YtjedbfbolifjjaaGreatDoor
open Go.RowKit Go.Maps
variable {W W' : World}
theorem any_drop {α : Type} (p : α → Bool) {i : Nat} {l : List α} {U : α} (hU : l[i]? = some U) : (l.drop i).any p = (p U || (l.drop (i + 1)).any p) := by
 obtain ⟨hi, rfl⟩ := List.getElem?_eq_some_iff.1 hU
 rw [List.drop_eq_getElem_cons hi, List.any_cons]
end Go.Proofs.YtjedbfbolifjjaaGreatDoor

namespace Go.Proofs.YtjedbfbolifjjaaGreatDoor
open Go.RowKit Go.Maps
variable {W W' : World}
theorem bs_eq {a b : ByteArray} : (a.toList == b.toList) = decide (a = b) := by
 rw [Bool.eq_iff_iff, beq_iff_eq, decide_eq_true_eq]
 constructor
 · intro h
   rw [ByteArray.toList_eq, ByteArray.toList_eq] at h
   exact ByteArray.ext (Array.toList_inj.1 h)
 · rintro rfl; rfl
theorem new_cell (w : World) (s : ByteArray) : (w.alloc (.cells #[.string s] 9)).cell? ⟨w.heap.size, 0, none⟩ = some (.string s) := (one_cell (heap_alloc_new w (.cells #[.string s] 9))).1
/-- A row of names that may be read. -/
def Nr (N : Nat) (W : World) (v : Value) (b : List ByteArray) : Prop := ∃ a c, v = .slice a b.length c ∧ b.length ≤ c ∧ ∀ (i : Nat) (s : ByteArray), b[i]? = some s → ∃ g, a = some ⟨g, 0, none⟩ ∧ g < N ∧ W.cell? ⟨g, i, none⟩ = some (.string s)
theorem Nr.g0 {N : Nat} {v : Value} {b : List ByteArray} (h : Nr N W v b) (gr : Gr (fun _ => False) W W') : Nr N W' v b := by
 obtain ⟨a, c, rfl, hc, hk⟩ := h
 refine ⟨a, c, rfl, hc, fun i s hi => ?_⟩
 obtain ⟨g, h1, h2, h3⟩ := hk i s hi
 exact ⟨g, h1, h2, cell_gr h3 gr (fun e => e)⟩
theorem Nr.up {N N' : Nat} {v : Value} {b : List ByteArray} (h : Nr N W v b) (hN : N ≤ N') : Nr N' W v b := by
 obtain ⟨a, c, rfl, hc, hk⟩ := h
 refine ⟨a, c, rfl, hc, fun i s hi => ?_⟩
 obtain ⟨g, h1, h2, h3⟩ := hk i s hi
 exact ⟨g, h1, Nat.lt_of_lt_of_le h2 hN, h3⟩
theorem Nr.nil (N : Nat) (W : World) : Nr N W nl [] := ⟨none, 0, rfl, Nat.le_refl _, fun i s h => by simp at h⟩
theorem Nr.take {N : Nat} {a : Option Addr} {n c : Nat} {b : List ByteArray} (h : Nr N W (.slice a n c) b) (k : Nat) (hk : k ≤ b.length) : Nr N W (.slice a k c) (b.take k) := by
 obtain ⟨a', c', e, hc, hk'⟩ := h
 cases e
 refine ⟨a, c, by rw [List.length_take]; congr; omega, by rw [List.length_take]; omega, fun i s hi => ?_⟩
 have hlt := (List.getElem?_eq_some_iff.1 hi).1
 rw [List.length_take] at hlt
 rw [List.getElem?_take_of_lt (by omega)] at hi
 exact hk' i s hi
theorem Ns.nr {base : Nat} {v : Value} {ns : List ByteArray} (h : Ns base W v ns) : Nr W.heap.size W v ns := by
 rcases h.row.2 with ⟨e, h0⟩ | ⟨g, cap, cur, e, hg, h2, h3, _, _, h6⟩
 · have : ns = [] := List.eq_nil_of_length_eq_zero h0
   subst this
   exact ⟨none, 0, by rw [e]; rfl, Nat.le_refl _, fun i s h => by simp at h⟩
 ·
  refine ⟨some ⟨g, 0, none⟩, cap, e, h3, fun i s hi => ⟨g, rfl, (Array.getElem?_eq_some_iff.1 h2).1, ?_⟩⟩
  have hlt := (List.getElem?_eq_some_iff.1 hi).1
  have hj : (ns.map Value.string)[i]? = some (.string s) := by rw [List.getElem?_map, hi]; rfl
  rw [← h6, List.getElem?_take_of_lt (by omega)] at hj
  simp only [World.cell?, h2]
  simpa using hj
/-- A part at its place, loaded by value. -/
theorem TAtG.val {N g o : Nat} {T : Tr} (h : TAtG N W g o T) : ∃ v, RepG (fun z => z < N) W T v ∧ (∃ tk tt tn a1 n1 c1 a2 n2 c2, v = trv tk tt tn (.slice a1 n1 c1) (.slice a2 n2 c2)) ∧ ∀ j u, (cellsOf v)[j]? = some u → W.cell? ⟨g, o + j, none⟩ = some u := by
 obtain ⟨v, h1, h2⟩ := h
 exact ⟨v, h1, h1.agg, h2⟩
end Go.Proofs.YtjedbfbolifjjaaGreatDoor
