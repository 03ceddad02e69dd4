/-
  What is left of the ints, as rows without the program.
-/
import Derived.Test.YticgnaikbmnagaaZJ
set_option linter.unusedVariables false
set_option linter.unusedSimpArgs false
namespace Go.Proofs.Yticgnaikbmnagaa
/-- The numbers below n that are not gone. -/
def leftN (gs : List Bool) (n : Nat) : List Nat := (List.range n).filter fun i => !(gs.getD i false)
def left (gs : List Bool) (n : Nat) : List Int := (leftN gs n).map fun i : Nat => (i : Int)
theorem erase_filter : ∀ (L : List Nat) (p i : Nat), L.Nodup → L[p]? = some i → L.eraseIdx p = L.filter fun x => x != i
  | [], p, i, _, h => by simp at h
  | x :: L, 0, i, hn, h => by
    obtain ⟨h1, h2⟩ := List.nodup_cons.1 hn
    have : x = i := by simpa using h
    subst this
    rw [List.eraseIdx_cons_zero, List.filter_cons_of_neg (by simp)]
    exact (List.filter_eq_self.2 (fun y hy => by simp; rintro rfl; exact h1 hy)).symm
  | x :: L, p + 1, i, hn, h => by
    obtain ⟨h1, h2⟩ := List.nodup_cons.1 hn
    have hL : L[p]? = some i := by simpa using h
    have hx : x ≠ i := by rintro rfl; exact h1 (List.mem_of_getElem? hL)
    rw [List.eraseIdx_cons_succ, List.filter_cons_of_pos (by simpa using hx), erase_filter L p i h2 hL]
theorem left_len (gs : List Bool) (n : Nat) : (left gs n).length = (leftN gs n).length := by simp [left]
theorem leftN_le (gs : List Bool) (n : Nat) : (leftN gs n).length ≤ n := by
  have := List.length_filter_le (fun i => !(gs.getD i false)) (List.range n)
  rw [List.length_range] at this
  exact this
theorem left_le (gs : List Bool) (n : Nat) : (left gs n).length ≤ n := by rw [left_len]; exact leftN_le gs n
theorem left_mem {gs : List Bool} {n : Nat} {z : Int} (h : z ∈ left gs n) : ∃ i : Nat, z = (i : Int) ∧ i < n ∧ gs.getD i false = false := by
  obtain ⟨i, hi, rfl⟩ := List.mem_map.1 h
  obtain ⟨h1, h2⟩ := List.mem_filter.1 hi
  exact ⟨i, rfl, List.mem_range.1 h1, by simpa using h2⟩
theorem left_take {gs : List Bool} {n p : Nat} {z : Int} (hl : gs.length = n) (h : (left gs n)[p]? = some z) : ∃ i : Nat, z = (i : Int) ∧ i < n ∧ gs[i]? = some false ∧ left (gs.set i true) n = (left gs n).eraseIdx p := by
  obtain ⟨i, rfl, hi, hg⟩ := left_mem (List.mem_of_getElem? h)
  refine ⟨i, rfl, hi, ?_, ?_⟩
  · have hx := List.getElem?_eq_getElem (l := gs) (i := i) (by omega)
    rw [List.getD_eq_getElem?_getD, hx] at hg
    rw [hx]
    simpa using hg
  · have hN : (leftN gs n)[p]? = some i := by
      unfold left at h
      rw [List.getElem?_map] at h
      cases hx : (leftN gs n)[p]? with
      | none => rw [hx] at h; simp at h
      | some y =>
        rw [hx] at h
        simp at h
        rw [show y = i by omega]
    have he := erase_filter (leftN gs n) p i (List.Pairwise.filter _ List.nodup_range) hN
    have h2 : leftN (gs.set i true) n = (leftN gs n).filter fun x => x != i := by
      unfold leftN
      rw [List.filter_filter]
      refine List.filter_congr (fun x hx => ?_)
      have hxn := List.mem_range.1 hx
      rw [List.getD_eq_getElem?_getD, List.getD_eq_getElem?_getD, List.getElem?_set]
      by_cases e : i = x
      · subst e; simp [hl, hxn]
      · rw [if_neg e]
        have : (x != i) = true := by simp; exact fun h => e h.symm
        rw [this]; simp
    unfold left
    rw [h2, ← he]
    simp only [List.eraseIdx_eq_take_drop_succ, List.map_append, List.map_take, List.map_drop]
theorem left_all (n : Nat) : left (List.replicate n false) n = (List.range n).map fun i : Nat => (i : Int) := by
  unfold left leftN
  rw [List.filter_eq_self.2 (fun x hx => by
    have := List.mem_range.1 hx
    simp [List.getD_eq_getElem?_getD, List.getElem?_replicate, this])]
theorem leftN_at (gs : List Bool) (i : Nat) (hg : gs.getD i false = false) : ∀ n, i < n → (leftN gs n)[(leftN gs i).length]? = some i
  | 0, h => by omega
  | n + 1, h => by
    have hs : leftN gs (n + 1) = leftN gs n ++ [n].filter fun i => !(gs.getD i false) := by
      unfold leftN; rw [List.range_succ, List.filter_append]
    rw [hs]
    rcases Nat.lt_or_ge i n with h1 | h1
    · have := leftN_at gs i hg n h1
      rw [List.getElem?_append_left (List.getElem?_eq_some_iff.1 this).1]
      exact this
    · have e : i = n := by omega
      subst e
      rw [List.getElem?_append_right (Nat.le_refl _), Nat.sub_self, List.filter_cons_of_pos (by rw [hg]; rfl)]
      rfl
theorem left_at {gs : List Bool} {i n : Nat} (hg : gs.getD i false = false) (hi : i < n) : (left gs n)[(left gs i).length]? = some (i : Int) := by
  rw [left_len]
  unfold left
  rw [List.getElem?_map, leftN_at gs i hg n hi]
  rfl
theorem left_succ (gs : List Bool) (i : Nat) : (left gs (i + 1)).length = (left gs i).length + (if gs.getD i false = false then 1 else 0) := by
  rw [left_len, left_len]
  unfold leftN
  rw [List.range_succ, List.filter_append, List.length_append]
  by_cases h : gs.getD i false = false
  · rw [List.filter_cons_of_pos (by rw [h]; rfl), if_pos h]; rfl
  · have h' : gs.getD i false = true := by revert h; cases gs.getD i false <;> simp
    rw [List.filter_cons_of_neg (by rw [h']; simp), if_neg h]; rfl
end Go.Proofs.Yticgnaikbmnagaa
