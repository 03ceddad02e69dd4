/-
  What the two nets have in common, behind Take, Wipe and Spoil.
-/
import Derived.Test.YtjffhnpoipolfaaZH
set_option linter.unusedVariables false
set_option linter.unusedSimpArgs false
namespace Go.Proofs.Ytjffhnpoipolfaa
open Go.RowKit Go.Maps Go.WideMaps

theorem filter_erase {p : Dx → Bool} : ∀ {l : List Dx} {j : Nat} {d : Dx}, l[j]? = some d → p d = false → (l.eraseIdx j).filter p = l.filter p
  | [], j, d, h, _ => by simp at h
  | x :: l, 0, d, h, hp => by simp at h; subst h; simp [hp]
  | x :: l, j + 1, d, h, hp => by
    have ih := filter_erase (l := l) (j := j) (d := d) (by simpa using h) hp
    by_cases hx : p x = true
    · simp [List.filter_cons, hx, ih]
    · simp [List.filter_cons, hx, ih]
theorem filter_first {p : Dx → Bool} : ∀ {l : List Dx} {j : Nat} {d : Dx}, l[j]? = some d → p d = true → (∀ i, i < j → ∀ x, l[i]? = some x → p x = false) → l.filter p = d :: (l.eraseIdx j).filter p
  | [], j, d, h, _, _ => by simp at h
  | x :: l, 0, d, h, hp, _ => by simp at h; subst h; simp [List.filter_cons, hp]
  | x :: l, j + 1, d, h, hp, hb => by
    have hx := hb 0 (by omega) x rfl
    have ih := filter_first (l := l) (j := j) (d := d) (by simpa using h) hp (fun i hi y hy => hb (i + 1) (by omega) y (by simpa using hy))
    simp [List.filter_cons, hx, ih]
theorem Rel.take {s s' : Ns} {sent lost : Nat} {lw lb : List Dx} (h : Rel s sent lost lw lb) {f : Int} {D : Dg} {r : List Dg} {j : Nat} {d : Dx} (hq : s.q (some f) = D :: r) (hs : s'.sent = s.sent) (hl : s'.lost = s.lost) (hq' : s'.q = upd s.q (some f) r)
    (hj : lb[j]? = some d) (hd : d.t = f) (hfst : ∀ i, i < j → ∀ x, lb[i]? = some x → x.t ≠ f) : abx d = ab D ∧ Rel s' sent lost lw (lb.eraseIdx j) := by
  have hf := filter_first (p := fun d => d.t == f) hj (by simpa using hd) (fun i hi x hx => by simpa using hfst i hi x hx)
  have hb := h.box f
  rw [hf, hq, List.map_cons, List.map_cons, List.cons.injEq] at hb
  refine ⟨hb.1, h.sent.trans hs.symm, by rw [hl, h.lost], by rw [hq', upd_other _ _ (by simp)]; exact h.way, fun k => ?_⟩
  rw [hq']
  by_cases e : k = f
  · subst e; rw [upd_same]; exact hb.2
  · rw [upd_other _ _ (show some k ≠ some f by simpa using e), filter_erase hj (by simp [hd]; exact fun e2 => e e2.symm)]
    exact h.box k
theorem Rel.none_of {s : Ns} {sent lost : Nat} {lw lb : List Dx} (h : Rel s sent lost lw lb) {f : Int} (hq : s.q (some f) = []) : ∀ d ∈ lb, d.t ≠ f := by
  intro d hd e
  have hb := h.box f
  rw [hq, List.map_nil, List.map_eq_nil_iff, List.filter_eq_nil_iff] at hb
  exact hb d hd (by simpa using e)
theorem Rel.wipe {s s' : Ns} {sent lost : Nat} {lw lb : List Dx} (h : Rel s sent lost lw lb) {f : Int} (hs : s'.sent = s.sent) (hl : s'.lost = s.lost + (s.q (some f)).length) (hq' : s'.q = upd s.q (some f) []) :
    Rel s' sent (lost + cnt lb f) lw (lb.filter (fun d => !(d.t == f))) := by
  refine ⟨h.sent.trans hs.symm, by rw [hl, h.lost, rel_cnt h f], by rw [hq', upd_other _ _ (by simp)]; exact h.way, fun k => ?_⟩
  rw [hq', List.filter_filter]
  by_cases e : k = f
  · subst e
    rw [upd_same]
    have : lb.filter (fun d => d.t == k && !(d.t == k)) = [] := by
      rw [List.filter_eq_nil_iff]; intro x _; simp
    rw [this]; rfl
  · rw [upd_other _ _ (show some k ≠ some f by simpa using e), ← h.box k]
    congr 1
    apply List.filter_congr
    intro x _
    by_cases e2 : x.t = k
    · subst e2; simp [e]
    · simp [e2]
theorem Rel.spoil {s s' : Ns} {sent lost : Nat} {lw lb : List Dx} (h : Rel s sent lost lw lb) {n j m : Nat} {D : Dg} {d' : Dx} (hD : (s.q none)[n]? = some D) (hs : s'.sent = s.sent) (hl : s'.lost = s.lost) (hq' : s'.q = upd s.q none ((s.q none).set n (D.spoil j m)))
    (hd' : abx d' = ab (D.spoil j m)) : Rel s' sent lost (lw.set n d') lb :=
  ⟨h.sent.trans hs.symm, by rw [hl, h.lost], by rw [hq', upd_same, List.map_set, List.map_set, h.way, hd'], fun k => by rw [hq', upd_other _ _ (by simp)]; exact h.box k⟩
end Go.Proofs.Ytjffhnpoipolfaa
