/-
  What the program's net and the reference's have in common.
-/
import Derived.Test.YtjffhnpoipolfaaZD
set_option linter.unusedVariables false
set_option linter.unusedSimpArgs false
namespace Go.Proofs.Ytjffhnpoipolfaa
open Go.RowKit Go.Maps Go.WideMaps

/-- The same nets. -/
structure Rel (s : Ns) (sent lost : Nat) (lw lb : List Dx) : Prop where
  sent : sent = s.sent
  lost : lost = s.lost
  way : lw.map abx = (s.q none).map ab
  box : ∀ k, (lb.filter (fun d => d.t == k)).map abx = (s.q (some k)).map ab
theorem rel_cnt {s : Ns} {sent lost : Nat} {lw lb : List Dx} (h : Rel s sent lost lw lb) (k : Int) : cnt lb k = (s.q (some k)).length := by
  have := congrArg List.length (h.box k)
  simpa [cnt] using this
theorem Rel.len {s : Ns} {sent lost : Nat} {lw lb : List Dx} (h : Rel s sent lost lw lb) : lw.length = (s.q none).length := by
  have := congrArg List.length h.way
  simpa using this
theorem rel_at {s : Ns} {sent lost : Nat} {lw lb : List Dx} (h : Rel s sent lost lw lb) {n : Nat} {D : Dg} (hD : (s.q none)[n]? = some D) : ∃ d, lw[n]? = some d ∧ abx d = ab D := by
  have := congrArg (fun x => x[n]?) h.way
  simp only [List.getElem?_map, hD, Option.map_some] at this
  obtain ⟨d, hd, e⟩ := Option.map_eq_some_iff.1 this
  exact ⟨d, hd, e⟩
theorem map_erase {α β : Type} (f : α → β) : ∀ (l : List α) (n : Nat), (l.eraseIdx n).map f = (l.map f).eraseIdx n
  | [], _ => by simp
  | a :: l, 0 => by simp
  | a :: l, n + 1 => by simp [map_erase f l n]
theorem Rel.put {s s' : Ns} {sent lost lost' : Nat} {lw lw' lb : List Dx} (h : Rel s sent lost lw lb) {f t : Int} {n : Nat} {l : List Nat} {sp : Bool} (hp : Put s s' f t n l sp) (hx : PutX lw lw' lost lost' (f, t, n, l, sp)) (sent' : Nat) (hs : sent' = s'.sent) : Rel s' sent' lost' lw' lb := by
  have hlen := h.len
  have hl := h.lost
  rcases hp with ⟨h1, h2, bk, h3⟩ | ⟨h1, h2, h3⟩
  · rcases hx with ⟨_, e2, d, hd, rfl⟩ | ⟨e1, _⟩
    · refine ⟨hs, by rw [e2, h2, hl], ?_, fun k => ?_⟩
      · rw [h3, upd_same, List.map_append, List.map_append, h.way, List.map_cons, List.map_cons, hd]; rfl
      · rw [h3, upd_other _ _ (by simp)]; exact h.box k
    · omega
  · rcases hx with ⟨e1, _⟩ | ⟨_, e2, rfl⟩
    · omega
    · exact ⟨hs, by rw [e2, h2, hl], by rw [h3]; exact h.way, fun k => by rw [h3]; exact h.box k⟩
theorem Rel.drop {s s' : Ns} {sent lost : Nat} {lw lb : List Dx} (h : Rel s sent lost lw lb) {n : Nat} (hs : s'.sent = s.sent) (hl : s'.lost = s.lost + 1) (hq : s'.q = upd s.q none ((s.q none).eraseIdx n)) : Rel s' sent (lost + 1) (lw.eraseIdx n) lb :=
  ⟨h.sent.trans hs.symm, by rw [hl, h.lost], by rw [hq, upd_same, map_erase, map_erase, h.way], fun k => by rw [hq, upd_other _ _ (by simp)]; exact h.box k⟩
theorem Rel.came {s s' : Ns} {sent lost : Nat} {lw lb : List Dx} (h : Rel s sent lost lw lb) {n : Nat} {D : Dg} {d : Dx} (hd : abx d = ab D) (hs : s'.sent = s.sent) (hc : Came s s' n D) :
    (cnt lb d.t < 64 ∧ Rel s' sent lost (lw.eraseIdx n) (lb ++ [d])) ∨ (cnt lb d.t = 64 ∧ Rel s' sent (lost + 1) (lw.eraseIdx n) lb) := by
  have ht : d.t = D.t := by simp only [abx, ab, Prod.mk.injEq] at hd; exact hd.2.1
  have hcn := rel_cnt h D.t
  rcases hc with ⟨h1, h2, h3⟩ | ⟨h1, h2, h3⟩
  · refine .inl ⟨by rw [ht, hcn]; exact h1, h.sent.trans hs.symm, by rw [h2, h.lost], ?_, fun k => ?_⟩
    · rw [h3, upd_other _ _ (show none ≠ some D.t by simp), upd_same, map_erase, map_erase, h.way]
    · rw [h3, List.filter_append, List.map_append, h.box k]
      by_cases e : k = D.t
      · subst e
        rw [upd_same, List.map_append]
        simp [ht, hd]
      · rw [upd_other _ _ (show some k ≠ some D.t by simpa using e), upd_other _ _ (show some k ≠ none by simp)]
        have : ¬ d.t = k := fun e2 => e (e2.symm.trans ht)
        simp [this]
  · exact .inr ⟨by rw [ht, hcn]; exact h1, h.sent.trans hs.symm, by rw [h2, h.lost], by rw [h3, upd_same, map_erase, map_erase, h.way], fun k => by rw [h3, upd_other _ _ (by simp)]; exact h.box k⟩
end Go.Proofs.Ytjffhnpoipolfaa
