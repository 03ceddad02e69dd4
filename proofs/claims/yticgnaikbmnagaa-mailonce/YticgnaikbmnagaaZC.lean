/-
  The queue: passing over, none passed over; the box's Next, Again, Len, New.
-/
import Derived.Test.YticgnaikbmnagaaZB
set_option linter.unusedVariables false
set_option linter.unusedSimpArgs false
namespace Go.Proofs.Yticgnaikbmnagaa
open Go.RowKit Go.Maps
attribute [local go_sem] Oper.semAt_some
variable {S S' : Nat → Prop} {W W1 W' : World}
theorem Mb.step {b p q : Nat} {l : List Int} (h : Mb W b l p) (hq : q ≤ l.length) : Mb (W.setCell ⟨b, 1, none⟩ (.int .i64 (q : Int))) b l q ∧ Gr (fun i => i = b) W (W.setCell ⟨b, 1, none⟩ (.int .i64 (q : Int))) ∧ ∀ i, Mx (W.setCell ⟨b, 1, none⟩ (.int .i64 (q : Int))) b i → Mx W b i := by
  obtain ⟨⟨v, vs, h1, h2, h3⟩, h4⟩ := h
  have g : Gr (fun i => i = b) W (W.setCell ⟨b, 1, none⟩ (.int .i64 (q : Int))) := Gr.set _ _ _ rfl
  refine ⟨⟨⟨v, vs, set_second h1 _, ownsRow_typed h2 (fun i hi => g.block i (Array.getElem?_eq_some_iff.1 hi.choose_spec).1 (fun e => ?_)), h3⟩, hq⟩, g, fun i hi => ?_⟩
  · obtain ⟨cs, hi⟩ := hi
    subst e
    rw [h1] at hi
    cases hi
  · rcases hi with e | ⟨v', u, e1, e2⟩
    · exact .inl e
    · rw [set_second h1] at e1
      cases e1
      exact .inr ⟨_, _, h1, e2⟩
set_option maxRecDepth 20000 in
set_option maxHeartbeats 1600000 in
theorem pass_some (W : World) (b : Nat) (l : List Int) (p : Nat) (z : Int) (h : Mb W b l p) (hl : l.length ≤ 1000) (hz : l[p]? = some z) : Calls Try.prog 17 #[pt b] W fun e w' => e = .returned (.bool true) ∧ Mb w' b l (p + 1) ∧ Gr (fun i => i = b) W w' ∧ ∀ i, Mx w' b i → Mx W b i := by
  have hf := Lib.hid (first_some W b l p z h hl hz)
  have H := Lib.hid h
  have hp : Hid (p + 1 ≤ l.length) := Lib.hid (by have := (List.getElem?_eq_some_iff.1 hz).1; omega)
  have hpI : (p : Int) ≤ 1000 := by have := hp.out; omega
  have hp0 : (0 : Int) ≤ (p : Int) := by omega
  clear h hz hl
  go_enter Try.func17, Try.ntmps17
  go_wp2_with fail
  refine hf.out.mono ?_
  rintro e w1 ⟨⟨a1, c1, a2, c2, rfl⟩, g1⟩
  clear hf
  have H1 := Lib.hid (H.out.g0 g1)
  obtain ⟨⟨v, vs, k1, k2, k3⟩, k4⟩ := H1.out
  obtain ⟨⟨c0, c1⟩, cf⟩ := two_cells k1
  have hb := (Array.getElem?_eq_some_iff.1 k1).1
  have G1 := Lib.hid g1
  clear k1 k2 k3 k4 g1
  go_wp2_with fail
  obtain ⟨s1, s2, s3⟩ := H1.out.step hp.out
  refine bodyPost_ret (v := .bool true) (by simp [results, Try.results17, go_sem]) rfl ⟨rfl, ?_, ?_, fun i hi => (s3 i (hi.back (Gr.alloc _ _ _) s1.lt)).back G1.out H.out.lt⟩
  · exact s1.g0 (Gr.alloc _ _ _)
  · exact ((G1.out.mono (fun _ _ e => e.elim)).trans s2).trans (Gr.alloc _ _ _)
set_option maxRecDepth 20000 in
set_option maxHeartbeats 1600000 in
theorem pass_none (W : World) (b : Nat) (l : List Int) (h : Mb W b l l.length) (hl : l.length ≤ 1000) : Calls Try.prog 17 #[pt b] W fun e w' => e = .returned (.bool false) ∧ Gr (fun _ => False) W w' := by
  have hf := Lib.hid (first_none W b l h hl)
  clear h hl
  go_enter Try.func17, Try.ntmps17
  go_wp2_with fail
  refine hf.out.mono ?_
  rintro e w1 ⟨rfl, g1⟩
  have G1 := Lib.hid g1
  clear hf g1
  go_wp2_with fail
  refine bodyPost_ret (v := .bool false) (by simp [results, Try.results17, go_sem]) rfl ⟨rfl, ?_⟩
  exact G1.out.trans (Gr.alloc _ _ _)
set_option maxRecDepth 20000 in
set_option maxHeartbeats 1600000 in
theorem qagain_c (W : World) (b : Nat) (l : List Int) (p : Nat) (h : Mb W b l p) : Calls Try.prog 19 #[pt b] W fun e w' => (∃ v, e = .returned v) ∧ Mb w' b l 0 ∧ Gr (fun i => i = b) W w' ∧ (∀ i, Mx w' b i → Mx W b i) ∧ ∀ v, W.heap[b]? = some (.cells #[v, .int .i64 (p : Int)] 49 (0, 0)) → w'.heap[b]? = some (.cells #[v, .int .i64 0] 49 (0, 0)) := by
  have H1 := Lib.hid h
  obtain ⟨⟨v, vs, k1, k2, k3⟩, k4⟩ := h
  obtain ⟨⟨c0, c1⟩, cf⟩ := two_cells k1
  have hb := (Array.getElem?_eq_some_iff.1 k1).1
  clear k1 k2 k3 k4
  go_enter Try.func19, Try.ntmps19
  go_wp2_with fail
  obtain ⟨s1, s2, s3⟩ := H1.out.step (q := 0) (Nat.zero_le _)
  exact bodyPost_end (v := .tuple #[]) (by simp [results, Try.results19, go_sem]) rfl ⟨⟨_, rfl⟩, s1, s2, s3, fun v hv => set_second hv _⟩
set_option maxRecDepth 20000 in
set_option maxHeartbeats 1600000 in
theorem next_some (W : World) (b : Nat) (l : List Int) (p : Nat) (z : Int) (h : Mb W b l p) (hl : l.length ≤ 1000) (hz : l[p]? = some z) : Calls Try.prog 8 #[pt b] W fun e w' => e = .returned (.int .i64 0) ∧ Mb w' b l (p + 1) ∧ Gr (fun i => i = b) W w' ∧ ∀ i, Mx w' b i → Mx W b i := by
  have hf := Lib.hid (pass_some W b l p z h hl hz)
  clear h hz hl
  go_enter Try.func8, Try.ntmps8
  go_wp2_with fail
  refine hf.out.mono ?_
  rintro e w1 ⟨rfl, m1, g1, x1⟩
  clear hf
  go_wp2_with fail
  go_ret
  exact ⟨rfl, m1, g1, x1⟩
set_option maxRecDepth 20000 in
set_option maxHeartbeats 1600000 in
theorem next_none (W : World) (b : Nat) (l : List Int) (h : Mb W b l l.length) (hl : l.length ≤ 1000) : Calls Try.prog 8 #[pt b] W fun e w' => e = .returned (.int .i64 211) ∧ Gr (fun _ => False) W w' := by
  have hf := Lib.hid (pass_none W b l h hl)
  clear h hl
  go_enter Try.func8, Try.ntmps8
  go_wp2_with fail
  refine hf.out.mono ?_
  rintro e w1 ⟨rfl, g1⟩
  clear hf
  go_wp2_with fail
  go_ret
  exact ⟨rfl, g1⟩
set_option maxRecDepth 20000 in
set_option maxHeartbeats 1600000 in
theorem again_c (W : World) (b : Nat) (l : List Int) (p : Nat) (h : Mb W b l p) : Calls Try.prog 10 #[pt b] W fun e w' => (∃ v, e = .returned v) ∧ Mb w' b l 0 ∧ Gr (fun i => i = b) W w' ∧ ∀ i, Mx w' b i → Mx W b i := by
  have hf := Lib.hid (qagain_c W b l p h)
  clear h
  go_enter Try.func10, Try.ntmps10
  go_wp2_with fail
  refine hf.out.mono ?_
  rintro e w1 ⟨⟨v, rfl⟩, m1, g1, x1, -⟩
  clear hf
  go_wp2_with fail
  exact bodyPost_end (v := .tuple #[]) (by simp [results, Try.results10, go_sem]) rfl ⟨⟨_, rfl⟩, m1, g1, x1⟩
set_option maxRecDepth 20000 in
set_option maxHeartbeats 1600000 in
theorem len_c (W : World) (b : Nat) (l : List Int) (p : Nat) (h : Mb W b l p) : Calls Try.prog 13 #[pt b] W fun e w' => e = .returned (.int .i64 (l.length : Int)) ∧ Gr (fun _ => False) W w' := by
  obtain ⟨⟨v, vs, k1, k2, k3⟩, k4⟩ := h
  obtain ⟨a, c, rfl⟩ := ownsRow_sv k2
  obtain ⟨⟨c0, c1⟩, cf⟩ := two_cells k1
  have hb := (Array.getElem?_eq_some_iff.1 k1).1
  clear k1 k2 k3 k4
  go_enter Try.func13, Try.ntmps13
  go_wp2_with fail
  go_ret
  exact ⟨rfl, Gr.refl _ _⟩
set_option maxRecDepth 20000 in
set_option maxHeartbeats 1600000 in
theorem new_c (W : World) : Calls Try.prog 5 #[] W fun e w' => e = .returned (pt W.heap.size) ∧ Mb w' W.heap.size [] 0 ∧ Gr (fun _ => False) W w' ∧ ∀ i, Mx w' W.heap.size i → W.heap.size ≤ i := by
  go_enter Try.func5, Try.ntmps5
  go_wp2_with fail
  go_ret
  refine ⟨rfl, ⟨⟨_, [], heap_alloc_new W _, World.ownsRow_nil _ _ _ _, rfl⟩, Nat.le_refl _⟩, Gr.alloc _ _ _, fun i hi => ?_⟩
  rcases hi with e | ⟨v, u, e1, e2⟩
  · omega
  · rw [heap_alloc_new] at e1
    cases e1
    cases e2
end Go.Proofs.Yticgnaikbmnagaa
