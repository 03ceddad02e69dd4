/-
  A copy of a table has the same names, in memory of its own.
-/
import Derived.Test.YtipdniiamaaolaaF
namespace Go.Proofs.Ytipdniiamaaolaa
open Go.RowKit Go.Maps Go.WideMaps Go.Shelf
attribute [local go_sem] Oper.semAt_some

theorem cell_of {W : World} {b : Nat} {v : Value} {t : TypeId} (h : W.heap[b]? = some (.cells #[v] t (0, 0))) : W.cell? ⟨b, 0, none⟩ = some v ∧ W.frozen? ⟨b, 0, none⟩ = false := by
  simp [World.cell?, World.frozen?, h]
theorem Snap.gr {S : Nat → Prop} {W W' : World} {sv : Value} {xs : List ByteArray} (h : Snap W sv xs) (g : Gr S W W') (hS : ∀ k, sv.ownBlock = some k → ¬ S k) : Snap W' sv xs := by
  refine ⟨h.1, ?_⟩
  rcases h.2 with h0 | ⟨gb, cap, rfl, hc⟩
  · exact .inl h0
  · refine .inr ⟨gb, cap, rfl, fun k hk => ?_⟩
    have h1 := hc k hk
    have hlt : gb < W.heap.size := by
      simp only [World.cell?] at h1
      rcases hh : W.heap[gb]? with _ | o
      · rw [hh] at h1; cases h1
      · exact (Array.getElem?_eq_some_iff.1 hh).1
    rw [World.cell?_of_block (w' := W') (w := W) (a := ⟨gb, k, none⟩) (g.block gb hlt (hS gb rfl))]
    exact h1
theorem Good.at_name {l : List ByteArray} (h : Good l) {k : Nat} (hk : k < l.length) : isName (at_ l k) = true ∧ at_ l k ∉ l.take k ∧ l.take (k + 1) = l.take k ++ [at_ l k] := by
  have e : at_ l k = l[k] := by simp [at_, hk]
  rw [e]
  refine ⟨h.name _ (List.getElem_mem hk), fun hm => ?_, by rw [List.take_succ_eq_append_getElem hk]⟩
  obtain ⟨i, hi, he⟩ := List.getElem_of_mem hm
  have hi2 : i < k := by simp at hi; omega
  rw [List.getElem_take] at he
  exact absurd (List.getElem_inj h.nodup |>.1 he) (by omega)
theorem Good.take {l : List ByteArray} (h : Good l) (k : Nat) : Good (l.take k) :=
  ⟨h.nodup.sublist (List.take_sublist _ _), fun s hs => h.name s (List.mem_of_mem_take hs), by have := h.len; simp; omega⟩

/-- Between two rounds of Copy's loop. -/
def CopyI (W : World) (N : Nat) (l : List ByteArray) (k : Nat) (X : World) : Prop :=
  ∃ m' sv', Tab X W.heap.size m' sv' (l.take k) ∧ (∀ i, Fp W.heap.size m' sv' i → W.heap.size ≤ i ∧ (i < N ∨ N + 3 < i)) ∧ X.heap[N]? = some (.cells #[pt W.heap.size] 25 (0, 0)) ∧ Gr (fun _ => False) W X

theorem CopyI.turn {W X X' : World} {N k : Nat} {l : List ByteArray} (hN : W.heap.size ≤ N) (h : CopyI W N l k X) (t : BookTurn (N + 2) X X') : CopyI W N l k X' := by
  obtain ⟨m', sv', ht, hf, hb, hg⟩ := h
  refine ⟨m', sv', ht.gr t (fun i hi e => ?_), hf, ?_, hg.trans' t (fun i hi e => by omega)⟩
  · have := (hf i hi).2; omega
  · exact (t.block N (Array.getElem?_eq_some_iff.1 hb).1 (by omega)).trans hb
theorem CopyI.step {W X X' : World} {N k : Nat} {l : List ByteArray} (hl : Good l) (hk : k < l.length) {m' : Option Nat} {sv' : Value} (hN : N + 3 < X.heap.size) (hf : ∀ i, Fp W.heap.size m' sv' i → W.heap.size ≤ i ∧ (i < N ∨ N + 3 < i))
    (hb : X.heap[N]? = some (.cells #[pt W.heap.size] 25 (0, 0))) (hg : Gr (fun _ => False) W X) (ha : Added X X' W.heap.size m' sv' (l.take k ++ [at_ l k])) : Book (N + 2) X X' ∧ CopyI W N l (k + 1) X' := by
  obtain ⟨m2, sv2, ht, hg2, hf2, _⟩ := ha
  refine ⟨⟨hg2.block _ (by omega) (fun e => by have := (hf _ e).2; omega), hg2.block _ (by omega) (fun e => by have := (hf _ e).2; omega)⟩, m2, sv2, ?_, ?_, ?_, ?_⟩
  · rw [(hl.at_name hk).2.2]; exact ht
  · intro i hi
    rcases hf2 i hi with e | e
    · exact hf i e
    · have := hg.size; exact ⟨by omega, by omega⟩
  · exact (hg2.block N (by omega) (fun e => by have := (hf _ e).2; omega)).trans hb
  · exact hg.trans' hg2 (fun i hi e => by have := (hf _ e).1; omega)

theorem fp_new {c N : Nat} (h : c < N) : ∀ i, Fp c none (.slice none 0 0) i → c ≤ i ∧ (i < N ∨ N + 3 < i) := by
  rintro i (e | e | e)
  · subst e; exact ⟨Nat.le_refl _, .inl h⟩
  · cases e
  · cases e

set_option maxRecDepth 100000 in
set_option maxHeartbeats 2000000 in
theorem copy_c (W : World) (b : Nat) (m : Option Nat) (sv : Value) (l : List ByteArray) (h : Tab W b m sv l) :
    Calls Try.prog 19 #[pt b] W fun e W' => ∃ c m' sv', e = .returned (pt c) ∧ Tab W' c m' sv' l ∧ Gr (fun _ => False) W W' ∧ ∀ k, Fp c m' sv' k → W.heap.size ≤ k := by
  refine (callsIn_wide (n := 3)).1 ?_
  refine callsIn_of_wp_marks Try.func19 rfl trivial ?_ rfl
  simp only [Try.ntmps19, List.size_toArray, List.length_cons, List.length_nil, Nat.reduceAdd, Nat.reduceSub, Array.replicate_succ, Array.replicate_zero, List.push_toArray, List.append_toArray, List.nil_append, List.cons_append]
  gi_wp2_with (first
    | (refine ⟨trivial, ?_⟩; gi_at_call 12; refine (callsIn_wide.2 (new_c _)).mono ?_; rintro e w1 ⟨rfl, ht1, hg1⟩)
    | (refine ⟨trivial, ?_⟩; gi_at_call 22; refine (callsIn_wide.2 (all_c _ b m sv l (h.gr (hg1.trans (Gr.alloc _ _ _)) (fun _ _ e => e)))).mono ?_; rintro e w2 ⟨rfl, rfl⟩))
  obtain ⟨X0, hX0⟩ : ∃ X0, (w1.alloc (Obj.cells #[pt W.heap.size] 25)).alloc (Obj.cells #[sv] 27) = X0 := ⟨_, rfl⟩
  have hs0 : X0.heap.size = w1.heap.size + 2 := by rw [← hX0]; simp
  have hb0 : X0.heap[w1.heap.size]? = some (.cells #[pt W.heap.size] 25 (0, 0)) := by rw [← hX0]; exact (heap_alloc_old _ _ (by simp)).trans (heap_alloc_new _ _)
  have hn0 : X0.heap[w1.heap.size + 1]? = some (.cells #[sv] 27 (0, 0)) := by rw [← hX0]; have := heap_alloc_new (w1.alloc (Obj.cells #[pt W.heap.size] 25)) (Obj.cells #[sv] 27); rwa [World.size_alloc] at this
  have hg0 : Gr (fun _ => False) W X0 := by rw [← hX0]; exact (hg1.trans (Gr.alloc _ _ _)).trans (Gr.alloc _ _ _)
  have hgx : Gr (fun _ => False) w1 X0 := by rw [← hX0]; exact (Gr.alloc _ _ _).trans (Gr.alloc _ _ _)
  have hw1 := ht1.lt _ (.inl rfl)
  refine (congrArg (fun X => Code.wpIn Fence.wide 3 Try.prog _ _ _ X) hX0).mpr ?_
  refine rangeAll (nb := w1.heap.size + 1) (sv := sv) (xs := l) rfl rfl (cell_of hn0).1 (h.gr hg0 (fun _ _ e => e)).snap (CopyI W w1.heap.size l) (fun _ _ => False) ?_ (fun _ _ _ e _ => e) ?_ ?_
    (fun k => { tmps := #[pt b, undef, Value.pointer none, pt w1.heap.size, undef, .string (at_ l k), pt b, Value.bool false, pt W.heap.size, pt b, Value.func (Fn.func 26) #[] #[pt (w1.heap.size + 1)], .int .i64 k, .string (at_ l k), undef, undef, undef, undef], defers := [] }) ?assign ?body ?done ?stop
  · intro k X X' hi t; rw [hs0] at t; exact hi.turn (by omega) t
  · rintro k X ⟨_, _, _, _, _, hg⟩; exact (h.gr hg (fun _ _ e => e)).snap
  · exact ⟨none, .slice none 0 0, ht1.gr hgx (fun _ _ e => e), fp_new hw1, hb0, hg0⟩
  case assign =>
    intro lp k X K _ hK
    gi_wp2
    exact hK
  case body =>
    rintro k X ⟨m', sv', ht, hf, hb, hg⟩ hk hlt
    rw [hs0] at hlt ⊢
    obtain ⟨c0, f0⟩ := cell_of hb
    obtain ⟨q1, q2, q3⟩ := h.good.at_name hk
    have hlk : (l.take k).length < 4096 := by have := h.good.len; simp; omega
    gi_wp2_with (first
      | (refine ⟨trivial, ?_⟩; gi_at_call 25; refine (CallsIn.inRound _ (callsIn_wide.2 (add_c X _ m' sv' (l.take k) _ ht q1 q2 hlk))).mono ?_; rintro e X2 ⟨rfl, ha⟩))
    exact CopyI.step h.good hk hlt hf hb hg ha
  case done =>
    rintro X ⟨m', sv', ht, hf, hb, hg⟩ hK
    rw [hs0] at hK ⊢
    obtain ⟨c0, f0⟩ := cell_of hb
    gi_wp2
    refine ⟨by simp, .inl ⟨_, _, rfl, run_takeDeferred hK, ?_⟩⟩
    refine ⟨_, results_tmp rfl _ _ _, _, m', sv', rfl, ?_⟩
    have hput : BookTurn (w1.heap.size + 2) X (X.putObj (w1.heap.size + 2) (.deferred none)) := Gr.of_grown (grownBy_putObj' X _ _) (fun k e => by cases e; exact .inl rfl)
    rw [List.take_length] at ht
    exact ⟨ht.gr hput (fun i hi e => by have := (hf i hi).2; omega), hg.trans' hput (fun i hi e => by omega), fun k hk => (hf k hk).1⟩
  case stop =>
    rintro c X e _
    exact e.elim
end Go.Proofs.Ytipdniiamaaolaa
