/-
  Carried over from another seat of ours (BK).
-/
import Derived.Test.YticgnaikbmnagaaBE
import Derived.Test.YticgnaikbmnagaaAY
set_option linter.unusedVariables false
set_option linter.unusedSimpArgs false
namespace Go.Proofs.Yticgnaikbmnagaa
open Go.RowKit Go.Maps
variable {S S' : Nat → Prop} {W W1 W' : World}

theorem q28 (w : World) (a : Option Addr) (n c n' c' : Nat) : (binOp .eql 22 (.slice a n c) (.slice none n' c')).run Try.prog w = .ok (.bool a.isNone) w := Lib.run_eql_slice_nil w _ _ a n c n' c' Try.underlying22
theorem q29 (w : World) (a : Option Addr) (n c n' c' : Nat) : (binOp .eql 33 (.slice a n c) (.slice none n' c')).run Try.prog w = .ok (.bool a.isNone) w := Lib.run_eql_slice_nil w _ _ a n c n' c' Try.underlying33
set_option maxHeartbeats 1000000 in
theorem cloneB_c (W : World) (v : Value) (bs : List Int) (h : Sb W v bs) (hl : bs.length ≤ 900000) : Calls Try.prog 44 #[v] W fun e w' => ∃ v', e = .returned v' ∧ Ob W.heap.size w' v' bs ∧ Gr (fun _ => False) W w' := by
  have q := q28
  have h0 := h
  rcases h with ⟨c, rfl, rfl⟩ | ⟨a, cap, rfl, h3⟩
  · go_enter Try.func44, Try.ntmps44
    go_wp2
    go_ret
    exact ⟨_, rfl, Ob.nil _ _, Gr.refl _ _⟩
  · have ho := Ob.lit W.heap.size W [] (by simp) (Nat.le_refl _) #[] rfl 0 rfl
    have hs : Sb (W.alloc (.cells #[] 5)) (.slice (some a) bs.length cap) bs := by
      refine .inr ⟨a, cap, rfl, fun j u hu => ?_⟩
      have := h3 j u hu
      rw [World.cell?_of_block (w' := W.alloc (.cells #[] 5)) (w := W) (a := a.add j) ((Gr.alloc W (.cells #[] 5) (fun _ => False)).block _ (World.block_lt_of_cell? W _ this) (fun e => e))]
      exact this
    clear h3
    go_enter Try.func44, Try.ntmps44
    go_wp2_with (at_builtin; refine wpList_ap rfl _ _ rfl W.heap.size (.slice (some ⟨W.heap.size, 0, none⟩) 0 0) _ [] bs rfl rfl ho hs (by simp; omega) (by simp) ?_; intro v' w1 o1 g1)
    go_ret
    refine ⟨v', rfl, by simpa using o1, ?_⟩
    exact (Gr.alloc W _ _).trans' g1.gr (fun i hi e => by simp [Value.ownBlock] at e; omega)
set_option maxHeartbeats 1000000 in
theorem cloneT_c (A : Nat → Prop) (W : World) (lv : Value) (l : List Tm) (vs : List Value) (h : RowT A W vs l.length lv) (hr : Reps A W l vs) (hl : l.length ≤ 100000) :
    Calls Try.prog 45 #[lv] W fun e w' => ∃ v', e = .returned v' ∧ w'.ownsRow W.heap.size 35 9 v' l.length (vs.flatMap cellsOf) ∧ Gr (fun _ => False) W w' := by
  have q := q29
  have hvl : (vs.flatMap cellsOf).length = l.length * 9 := by
    have : ∀ (l : List Tm) (vs : List Value), Reps A W l vs → (vs.flatMap cellsOf).length = l.length * 9 := by
      intro l
      induction l with
      | nil => intro vs h; cases h; rfl
      | cons t l ih =>
        intro vs h
        obtain ⟨v, r, rfl, h1, h2⟩ := h
        rw [List.flatMap_cons, List.length_append, Rep.nine h1, ih r h2, List.length_cons]; omega
    exact this l vs hr
  have hone := hr.one
  obtain ⟨i0, hi, hz0, hz1, hz2⟩ := info_parts info31
  rcases h with ⟨h0, a, c, rfl⟩ | ⟨g, cap, cur, rfl, hg, hcur, hcap, htake⟩
  · obtain rfl := List.length_eq_zero_iff.1 h0
    have hvs : vs.flatMap cellsOf = [] := List.eq_nil_of_length_eq_zero (by rw [hvl]; simp)
    rw [hvs]
    cases a with
    | none =>
      go_enter Try.func45, Try.ntmps45
      go_wp2
      go_ret
      exact ⟨_, rfl, World.ownsRow_nil _ _ _ _, Gr.refl _ _⟩
    | some a =>
      have ho := World.ownsRow_lit (base := W.heap.size) (e := 35) (size := 9) W #[] 0 (Nat.le_refl _) (by unfold maxLen; omega) (by rfl)
      go_enter Try.func45, Try.ntmps45
      go_wp2_with (at_builtin; refine wpList_own2 _ rfl 33 _ _ rfl W.heap.size 35 i0 (lf 0 0 0 0 e0 0 0 0) 9 120 Try.underlying33 hi hz0 hz1 hz2 rfl (by decide) (.slice (some ⟨W.heap.size, 0, none⟩) 0 0) 0 [] a 0 c [] rfl rfl ho (by simp) (fun j u hu => by simp at hu) (fun u hu => by cases hu) (by unfold maxLen; omega) (by omega) (by simp) ?_; intro v' w1 o1 g1 _)
      go_ret
      refine ⟨v', rfl, by simpa using o1, ?_⟩
      exact (Gr.alloc W _ _).trans' (Gr.of_grown (S := fun k => W.heap.size ≤ k) g1 (fun k e => by simp [Value.ownBlock] at e; omega)) (fun i hi e => by omega)
  · have hnews : ∀ (o : Obj) j u, (vs.flatMap cellsOf)[j]? = some u → (W.alloc o).cell? ((⟨g, 0, none⟩ : Addr).add j) = some u := fun o j u hu => by
      have hj : j < l.length * 9 := by have := (List.getElem?_eq_some_iff.1 hu).1; omega
      have hc : (W.alloc o).heap[g]? = some (.cells cur 35 (0, 0)) := (Gr.alloc W o (fun _ => False)).keep hcur (fun e => e)
      rw [Addr.add_lit, Nat.zero_add]
      simp only [World.cell?, hc]
      rw [← htake, List.getElem?_take_of_lt hj] at hu
      simpa using hu
    have ho := World.ownsRow_lit (base := W.heap.size) (e := 35) (size := 9) W #[] 0 (Nat.le_refl _) (by unfold maxLen; omega) (by rfl)
    go_enter Try.func45, Try.ntmps45
    go_wp2_with (at_builtin; refine wpList_own2 _ rfl 33 _ _ rfl W.heap.size 35 i0 (lf 0 0 0 0 e0 0 0 0) 9 120 Try.underlying33 hi hz0 hz1 hz2 rfl (by decide) (.slice (some ⟨W.heap.size, 0, none⟩) 0 0) 0 [] ⟨g, 0, none⟩ l.length cap (vs.flatMap cellsOf) rfl rfl ho hvl (hnews _) hone (by unfold maxLen; omega) (by omega) (by simp) ?_; intro v' w1 o1 g1 _)
    go_ret
    refine ⟨v', rfl, by simpa using o1, ?_⟩
    exact (Gr.alloc W _ _).trans' (Gr.of_grown (S := fun k => W.heap.size ≤ k) g1 (fun k e => by simp [Value.ownBlock] at e; omega)) (fun i hi e => by omega)
end Go.Proofs.Yticgnaikbmnagaa



