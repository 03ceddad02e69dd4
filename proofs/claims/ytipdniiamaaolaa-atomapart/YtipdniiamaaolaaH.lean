/-
  The chapter's examples come out as it says.
-/
import Derived.Test.YtipdniiamaaolaaG
namespace Go.Proofs.Ytipdniiamaaolaa
open Go.RowKit Go.Maps Go.WideMaps Go.Shelf
attribute [local go_sem] Oper.semAt_some

/-- A table with the names l, all of whose blocks are newer than w0, where nothing that was there in w0 has turned. -/
def Own (w0 W : World) (b : Nat) (l : List ByteArray) : Prop :=
  ∃ m sv, Tab W b m sv l ∧ (∀ k, Fp b m sv k → w0.heap.size ≤ k) ∧ Gr (fun _ => False) w0 W
theorem new_o {w0 W : World} (h : Gr (fun _ => False) w0 W) : Calls Try.prog 12 #[] W fun e W' => e = .returned (pt W.heap.size) ∧ Own w0 W' W.heap.size [] :=
  (new_c W).mono fun _ _ ⟨he, ht, hg⟩ => ⟨he, none, .slice none 0 0, ht, fun k hk => Nat.le_trans h.size (fp_new (Nat.lt_succ_self _) k hk).1, h.trans hg⟩
theorem Added.own {w0 W W' : World} {b : Nat} {m : Option Nat} {sv : Value} {l : List ByteArray} (h : Added W W' b m sv l) (hf : ∀ k, Fp b m sv k → w0.heap.size ≤ k) (hg : Gr (fun _ => False) w0 W) : Own w0 W' b l := by
  obtain ⟨m', sv', ht, hg2, hf2, _⟩ := h
  refine ⟨m', sv', ht, fun k hk => ?_, hg.trans' hg2 (fun i hi e => by have := hf i e; omega)⟩
  rcases hf2 k hk with e | e
  · exact hf k e
  · have := hg.size; omega
theorem put_o {w0 W : World} {b : Nat} {l : List ByteArray} (s : ByteArray) (h : Own w0 W b l) :
    Calls Try.prog 14 #[pt b, .string s] W fun e W' => e = .returned (.tuple #[.int .i64 (putN l s), .int .i64 (putE l s)]) ∧ Own w0 W' b (putL l s) := by
  obtain ⟨m, sv, ht, hf, hg⟩ := h
  exact (put_c W b m sv l s ht).mono fun e W' ⟨he, ha⟩ => ⟨he, ha.own hf hg⟩
theorem name_o {w0 W : World} {b : Nat} {l : List ByteArray} (n : Int) (h : Own w0 W b l) :
    Calls Try.prog 17 #[pt b, .int .i64 n] W fun e W' => e = .returned (.tuple #[.string (nameS l n), .int .i64 (nameE l n)]) ∧ W = W' := by
  obtain ⟨m, sv, ht, hf, hg⟩ := h
  exact nameC W b m sv l n ht
theorem len_o {w0 W : World} {b : Nat} {l : List ByteArray} (h : Own w0 W b l) : Calls Try.prog 20 #[pt b] W fun e W' => e = .returned (.int .i64 (l.length : Int)) ∧ W = W' := by
  obtain ⟨m, sv, ht, hf, hg⟩ := h
  exact len_c W b m sv l ht
theorem find_o {w0 W : World} {b : Nat} {l : List ByteArray} (s : ByteArray) (hs : s.size ≤ maxLen) (h : Own w0 W b l) :
    Calls Try.prog 16 #[pt b, .string s] W fun e W' => e = .returned (.tuple #[.int .i64 (((fnd l s 0).getD 0 : Nat) : Int), .bool (fnd l s 0).isSome]) ∧ W = W' := by
  obtain ⟨m, sv, ht, hf, hg⟩ := h
  exact find_c W b m sv l s ht hs
theorem copy_o {w0 W : World} {b : Nat} {l : List ByteArray} (h : Own w0 W b l) : Calls Try.prog 19 #[pt b] W fun e W' => ∃ c, e = .returned (pt c) ∧ Own w0 W' c l ∧ Gr (fun _ => False) W W' := by
  obtain ⟨m, sv, ht, hf, hg⟩ := h
  refine (copy_c W b m sv l ht).mono ?_
  rintro e W' ⟨c, m', sv', he, ht', hg', hf'⟩
  exact ⟨c, he, ⟨m', sv', ht', fun k hk => by have := hf' k hk; have := hg.size; omega, hg.trans hg'⟩, hg'⟩
theorem Own.gr {w0 W W' : World} {b : Nat} {l : List ByteArray} {S : Nat → Prop} (h : Own w0 W b l) (g : Gr S W W') (hS : ∀ k, k < W.heap.size → ¬ S k) : Own w0 W' b l := by
  obtain ⟨m, sv, ht, hf, hg⟩ := h
  exact ⟨m, sv, ht.gr g (fun k hk => hS k (ht.lt k hk)), hf, hg.trans' g (fun i hi e => absurd e (hS i (Nat.lt_of_lt_of_le hi hg.size)))⟩

theorem eqFn (w : World) (nb : Nat) : (binOp .eql 48 (.func (.func 26) #[] #[pt nb]) .nilFunc).run Try.prog w = .ok (.bool false) w := by kernel_rfl

abbrev sa : ByteArray := ⟨#[97]⟩
abbrev sb : ByteArray := ⟨#[98]⟩
abbrev sB : ByteArray := ⟨#[66]⟩
theorem p1 : putN [] sa = 0 := by decide +kernel
theorem p2 : putE [] sa = 0 := by decide +kernel
theorem p3 : putL [] sa = [sa] := by decide +kernel
theorem p4 : putN [sa] sb = 1 := by decide +kernel
theorem p5 : putE [sa] sb = 0 := by decide +kernel
theorem p6 : putL [sa] sb = [sa, sb] := by decide +kernel
theorem p7 : putN [sa, sb] sa = 0 := by decide +kernel
theorem p8 : putE [sa, sb] sa = 0 := by decide +kernel
theorem p9 : putL [sa, sb] sa = [sa, sb] := by decide +kernel
theorem p10 : putE [sa, sb] sB = 30 := by decide +kernel
theorem p11 : putL [sa, sb] sB = [sa, sb] := by decide +kernel
theorem p12 : nameE [sa, sb] 2 = 32 := by decide +kernel

/-- A loop over All that only counts. -/
def CntI (X0 : World) (q : Nat) (k : Nat) (X : World) : Prop := X.heap[q]? = some (.cells #[.int .i64 (k : Int)] 3 (0, 0)) ∧ Gr (fun i => q ≤ i) X0 X

theorem CntI.turn {X0 X X' : World} {q k : Nat} (h : CntI X0 q k X) (t : BookTurn (q + 1) X X') : CntI X0 q k X' :=
  ⟨(t.block q (Array.getElem?_eq_some_iff.1 h.1).1 (by omega)).trans h.1, h.2.trans' t (fun i _ e => by omega)⟩
theorem CntI.step {X0 X : World} {q k : Nat} (h : CntI X0 q k X) : Book (q + 1) X (X.setCell ⟨q, 0, none⟩ (.int .i64 ((k : Int) + 1))) ∧ CntI X0 q (k + 1) (X.setCell ⟨q, 0, none⟩ (.int .i64 ((k : Int) + 1))) :=
  ⟨⟨heap_setCell_other X _ _ _ (by simp), heap_setCell_other X _ _ _ (by show q + 1 + 1 ≠ q; omega)⟩, heap_setCell_same X q 0 _ 3 _ h.1, h.2.trans (Gr.set _ _ _ (Nat.le_refl _))⟩

set_option maxRecDepth 100000 in
set_option maxHeartbeats 4000000 in
theorem alive_c (W : World) : Calls Try.prog 9 #[] W fun e W' => e = .returned (.bool true) ∧ Gr (fun _ => False) W W' := by
  have q1 := p1
  have q2 := p2
  have q3 := p3
  have q4 := p4
  have q5 := p5
  have q6 := p6
  have q7 := p7
  have q8 := p8
  have q9 := p9
  have q10 := p10
  have q11 := p11
  have q12 := p12
  have hq := eqFn
  refine (callsIn_wide (n := 3)).1 ?_
  refine callsIn_of_wp_marks Try.func9 rfl trivial ?_ rfl
  simp only [Try.ntmps9, List.size_toArray, List.length_nil, Nat.reduceSub, Array.replicate_succ, Array.replicate_zero, List.push_toArray, List.append_toArray, List.nil_append, List.cons_append]
  gi_wp2_with (first
    | (refine ⟨trivial, ?_⟩; gi_at_call 12; refine (callsIn_wide.2 (new_o (w0 := W) (Gr.refl _ _))).mono ?_; rintro e w1 ⟨rfl, ho⟩)
    | (refine ⟨trivial, ?_⟩; gi_at_call 14; refine (callsIn_wide.2 (put_o _ ho)).mono ?_; clear ho; rintro e w2 ⟨rfl, ho⟩)
    | (refine ⟨trivial, ?_⟩; gi_at_call 17; refine (callsIn_wide.2 (name_o _ ho)).mono ?_; rintro e w3 ⟨rfl, rfl⟩)
    | (refine ⟨trivial, ?_⟩; gi_at_call 22; obtain ⟨m, sv, ht, hf, hg⟩ := ho; refine (callsIn_wide.2 (all_c _ _ m sv _ ht)).mono ?_; rintro e w4 ⟨rfl, rfl⟩))
  have hlist : putL (putL (putL (putL [] sa) sb) sa) sB = [sa, sb] := by rw [q3, q6, q9, q11]
  rw [hlist] at ht
  obtain ⟨X0, hX0⟩ : ∃ X0, (w2.alloc (Obj.cells #[sv] 27)).alloc (Obj.cells #[Value.int IntKind.i64 0] 3) = X0 := ⟨_, rfl⟩
  have hs0 : X0.heap.size = w2.heap.size + 2 := by rw [← hX0]; simp
  have hn0 : X0.heap[w2.heap.size]? = some (.cells #[sv] 27 (0, 0)) := by rw [← hX0]; exact (heap_alloc_old _ _ (by simp)).trans (heap_alloc_new _ _)
  have hc0 : X0.heap[w2.heap.size + 1]? = some (.cells #[.int .i64 ((0 : Nat) : Int)] 3 (0, 0)) := by rw [← hX0]; have := heap_alloc_new (w2.alloc (Obj.cells #[sv] 27)) (Obj.cells #[Value.int IntKind.i64 0] 3); rwa [World.size_alloc] at this
  have hg0 : Gr (fun _ => False) w2 X0 := by rw [← hX0]; exact (Gr.alloc _ _ _).trans (Gr.alloc _ _ _)
  have ho : Own W w2 W.heap.size [sa, sb] := ⟨m, sv, ht, hf, hg⟩
  have back : ∀ k X, CntI X0 (w2.heap.size + 1) k X → Own W X W.heap.size [sa, sb] := fun k X h => ho.gr (hg0.trans' h.2 (fun i hi e => by omega)) (fun _ _ e => e)
  have snap : ∀ k X, CntI X0 (w2.heap.size + 1) k X → Snap X sv [sa, sb] := fun k X h => ht.snap.gr (hg0.trans' h.2 (fun i hi e => by omega)) (fun _ _ e => e)
  refine (congrArg (fun X => Code.wpIn Fence.wide 3 Try.prog _ _ _ X) hX0).mpr ?_
  refine rangeAll (nb := w2.heap.size) (sv := sv) (xs := [sa, sb]) rfl rfl (cell_of hn0).1 (ht.snap.gr hg0 (fun _ _ e => e)) (CntI X0 (w2.heap.size + 1)) (fun _ _ => False) ?_ (fun _ _ _ e _ => e) snap ⟨hc0, Gr.refl _ _⟩
    (fun k => { tmps := #[Value.bool false, pt W.heap.size, Value.int IntKind.i64 0, Value.int IntKind.i64 0, Value.int IntKind.i64 1, Value.int IntKind.i64 0, Value.int IntKind.i64 0, Value.int IntKind.i64 0, Value.int IntKind.i64 (putN [sa, sb] ⟨#[66]⟩), Value.int IntKind.i64 30, Value.string (nameS [sa, sb] 2), Value.int IntKind.i64 32, Value.func (Fn.func 26) #[] #[pt w2.heap.size], Value.pointer (some ⟨w2.heap.size + 1, 0, none⟩), pt W.heap.size, Value.tuple #[Value.int IntKind.i64 0, Value.int IntKind.i64 0], pt W.heap.size, Value.tuple #[Value.int IntKind.i64 0, Value.int IntKind.i64 0], Value.int IntKind.i64 0, Value.int IntKind.i64 0, Value.tuple #[Value.int IntKind.i64 1, Value.int IntKind.i64 0], pt W.heap.size, Value.tuple #[Value.int IntKind.i64 1, Value.int IntKind.i64 0], Value.int IntKind.i64 1, Value.int IntKind.i64 0, Value.tuple #[Value.int IntKind.i64 0, Value.int IntKind.i64 0], pt W.heap.size, Value.tuple #[Value.int IntKind.i64 0, Value.int IntKind.i64 0], Value.int IntKind.i64 0, Value.int IntKind.i64 0, Value.tuple #[Value.int IntKind.i64 (putN [sa, sb] ⟨#[66]⟩), Value.int IntKind.i64 30], pt W.heap.size, Value.tuple #[Value.int IntKind.i64 (putN [sa, sb] ⟨#[66]⟩), Value.int IntKind.i64 30], Value.int IntKind.i64 (putN [sa, sb] ⟨#[66]⟩), Value.int IntKind.i64 30, Value.tuple #[Value.string (nameS [sa, sb] 2), Value.int IntKind.i64 32], pt W.heap.size, Value.tuple #[Value.string (nameS [sa, sb] 2), Value.int IntKind.i64 32], Value.string (nameS [sa, sb] 2), Value.int IntKind.i64 32, pt W.heap.size, Value.func (Fn.func 26) #[] #[pt w2.heap.size], Value.func (Fn.func 26) #[] #[pt w2.heap.size], Value.bool false, Value.bool false, Value.int IntKind.i64 1, Value.bool false, Value.bool false, Value.func (Fn.func 26) #[] #[pt w2.heap.size], .int .i64 (k : Int), .string (at_ [sa, sb] k), undef, undef, undef, undef, undef, undef, undef, undef, undef, undef, undef, undef, undef, undef, undef, undef, undef, undef, undef, undef, undef, undef, undef, undef, undef, undef, undef, undef, undef, undef, undef, undef, undef, undef, undef, undef, undef, undef, undef, undef, undef, undef], defers := [] }) ?assign ?body ?done ?stop
  · intro k X X' hi t; rw [hs0] at t; exact hi.turn t
  case assign =>
    intro lp k X K _ hK
    gi_wp2
    exact hK
  case body =>
    rintro k X hi hk hlt
    rw [hs0] at hlt ⊢
    obtain ⟨c0, f0⟩ := cell_of hi.1
    have hk2 : k < 2 := hk
    gi_wp2
    exact hi.step
  case done =>
    rintro X hi hK
    rw [hs0] at hK ⊢
    have hoX := back _ X hi
    obtain ⟨c0, f0⟩ := cell_of hi.1
    gi_wp2_with (first
      | (refine ⟨trivial, ?_⟩; gi_at_call 19; refine (callsIn_wide.2 (copy_o hoX)).mono ?_; rintro e w5 ⟨c, rfl, ho5, hg5⟩)
      | (refine ⟨trivial, ?_⟩; gi_at_call 20; refine (callsIn_wide.2 (len_o ho5)).mono ?_; rintro e w6 ⟨rfl, rfl⟩))
    have hK5 := (hg5.block _ (Array.getElem?_eq_some_iff.1 hK).1 (fun e => e)).trans hK
    refine ⟨by simp, .inl ⟨_, _, rfl, run_takeDeferred hK5, ?_⟩⟩
    refine ⟨_, results_tmp rfl _ _ _, rfl, ?_⟩
    obtain ⟨_, _, _, _, hgW⟩ := ho5
    exact hgW.trans' (Gr.of_grown (S := fun i => i = w2.heap.size + 2) (grownBy_putObj' w5 _ _) (fun k e => by cases e; rfl)) (fun i hi e => by have := hg.size; omega)
  case stop =>
    rintro c X e _
    exact e.elim
end Go.Proofs.Ytipdniiamaaolaa
