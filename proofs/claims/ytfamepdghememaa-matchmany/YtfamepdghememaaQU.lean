/-
  Carried over from another seat of ours (QU).
-/
import Derived.Test.YtfamepdghememaaQT
set_option linter.unusedVariables false
set_option linter.unusedSimpArgs false
namespace Go.Proofs.Ytfamepdghememaa
open Go.RowKit Go.Maps Go.WideMaps
variable {S S' : Nat → Prop} {W W1 W' : World}
abbrev sX : ByteArray := ⟨#[88]⟩
abbrev sa : ByteArray := ⟨#[97]⟩
abbrev sk : ByteArray := ⟨#[107]⟩
abbrev sU : ByteArray := ⟨#[95]⟩
theorem vX : isVar sX = true := by decide +kernel
theorem vU : isVar sU = false := by decide +kernel
theorem atom_a : AtomOk sa := ok_atom sa (by decide) (by decide) (by decide +kernel) (fun j hj => by
  have : j = 0 := by have : j < 1 := hj; omega
  subst this; decide +kernel)
theorem atom_k : AtomOk sk := ok_atom sk (by decide) (by decide) (by decide +kernel) (fun j hj => by
  have : j = 0 := by have : j < 1 := hj; omega
  subst this; decide +kernel)
theorem inR12 : inR 1 = true ∧ inR 2 = true := by decide
theorem kl_nil (W : World) : Kl W none 0 0 [] := ⟨fun h => absurd h (by simp), fun j s t h => by simp at h⟩
theorem gathXX : gath [sX, sX] [] [sX] := .inr ⟨by simp, .inl ⟨by simp, rfl⟩⟩
theorem fitXX (v0 v1 : Value) : fitR ([sX, sX].zip [v0, v1]) 0 (fun _ => none) = if numV v0 = numV v1 then (true, 1, one sX v0) else (false, 1, one sX v0) := by
  show fitR [(sX, v0), (sX, v1)] 0 (fun _ => none) = _
  rw [fitR]
  show fitR [(sX, v1)] 1 (one sX v0) = _
  rw [fitR, show one sX v0 sX = some v0 from ins_same _ _ _]
  show (if numV v0 = numV v1 then fitR [] 1 (one sX v0) else (false, 1, one sX v0)) = _
  rw [fitR]
theorem match_xx (W : World) (a b : Int) (ha : inR a = true) (hb : inR b = true) (pv tv : Value) (hp : Rep (fun k => k < W.heap.size) W (.mk { k := 6 } [] [vr sX, vr sX]) pv) (ht : Rep (fun k => k < W.heap.size) W (.mk { k := 6 } [] [it a, it b]) tv) :
    Calls Try.prog 8 #[pv, tv, .slice none 0 0] W fun e w' => ((a = b ∧ ∃ kb c x1 y1 x2 y2, 1 ≤ c ∧ e = .returned (.tuple #[.slice (some ⟨kb, 0, none⟩) 1 c, .bool true, .int .i64 0]) ∧ Bd w' kb 0 sX { k := 1, n := a } x1 y1 x2 y2) ∨ (a ≠ b ∧ e = .returned (.tuple #[.slice none 0 0, .bool false, .int .i64 0]))) ∧ Gr (fun _ => False) W w' := by
  refine match_c same_ok (fun k => k < W.heap.size) W 6 (.inl rfl) [sX, sX] [sX] [a, b] pv tv hp ht (fun _ h => h) rfl (by decide) (fun s hs => ?_) (fun z hz => ?_) gathXX (fun s hs => by simp at hs ⊢; exact hs) (by decide) none 0 0 [] (kl_nil W) (by decide) (fun _ => none) (fun _ _ => rfl) (fun s v h => by cases h) (fun s v h => by cases h) (fun w g => mo_none w none 0) _ (fun vs b' m R e w' hvl hvs hf hM hG => ?_) (fun vs b' m R hvl hf hbt hvi s hs => ?_)
  · have e : s = sX := by simpa using hs
    subst e; exact ⟨vX, by decide, by decide⟩
  · simp at hz; rcases hz with rfl | rfl
    · exact ha
    · exact hb
  · obtain ⟨v0, v1, rfl⟩ : ∃ v0 v1, vs = [v0, v1] := by
      match vs, hvl with
      | [x, y], _ => exact ⟨x, y, rfl⟩
    have n0 : numV v0 = a := by obtain ⟨z, h1, h2⟩ := hvs 0 v0 rfl; simp at h1; rw [h2, h1]
    have n1 : numV v1 = b := by obtain ⟨z, h1, h2⟩ := hvs 1 v1 rfl; simp at h1; rw [h2, h1]
    have hf' : fitR ([sX, sX].zip [v0, v1]) 0 (fun _ => none) = (b', m, R) := hf
    rw [fitXX, n0, n1] at hf'
    refine ⟨?_, hG⟩
    by_cases e : a = b
    · rw [if_pos e] at hf'
      cases hf'
      rcases hM with ⟨h, _⟩ | ⟨_, h, _⟩ | ⟨_, _, v, bv, he, hrow, hB⟩
      · cases h
      · omega
      · refine .inl ⟨e, ?_⟩
        obtain ⟨x1, y1, x2, y2, l', rfl, hl'⟩ := hB
        cases hl'
        obtain ⟨kb, c, rfl⟩ := row_form hrow (by decide)
        have hn : numV ((one sX v0 sX).getD z9) = a := by rw [show one sX v0 sX = some v0 from ins_same _ _ _]; exact n0
        rw [hn] at hrow
        have hc := row_cell hrow (q := 0) rfl
        refine ⟨kb, c, x1, y1, x2, y2, hc.2.2, he, fun j u hu => ?_⟩
        rw [Nat.zero_add]
        exact (row_cell hrow (q := j) (by simpa using hu)).1
    · rw [if_neg e] at hf'
      cases hf'
      rcases hM with ⟨_, he⟩ | ⟨h, _⟩ | ⟨h, _⟩
      · exact .inr ⟨e, he⟩
      · cases h
      · cases h
  · obtain ⟨v0, v1, rfl⟩ : ∃ v0 v1, vs = [v0, v1] := by
      match vs, hvl with
      | [x, y], _ => exact ⟨x, y, rfl⟩
    have e : s = sX := by simpa using hs
    subst e
    have hf' : fitR ([sX, sX].zip [v0, v1]) 0 (fun _ => none) = (b', m, R) := hf
    rw [fitXX] at hf'
    have hR : R = one sX v0 := by split at hf' <;> cases hf' <;> rfl
    rw [hR]
    exact ⟨v0, ins_same _ _ _, hvi 0 v0 rfl⟩
end Go.Proofs.Ytfamepdghememaa

