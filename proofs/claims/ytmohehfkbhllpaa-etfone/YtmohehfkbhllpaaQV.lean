/-
  Carried over from another seat of ours (V).
-/
import Derived.Test.YtmohehfkbhllpaaKF
import Derived.Test.YtmohehfkbhllpaaBC
import Derived.Test.YtmohehfkbhllpaaBS
import Derived.Test.YtmohehfkbhllpaaQT
import Derived.Test.YtmohehfkbhllpaaQU
import Derived.Stop.RegionWithIn
set_option linter.unusedVariables false
set_option linter.unusedSimpArgs false
namespace Go.Proofs.Ytmohehfkbhllpaa
open Go.RowKit Go.Maps Go.Shelf
attribute [local go_sem] Oper.semAt_some
theorem Wg.step {W : World} {N kb : Nat} {k n : Int} {x y : Nat} {s : ByteArray} {a c d : Int} {X : World} (h : Wg W N kb k n x y s a c d 0 X) (hkb : kb < N := by omega) (hN : W.heap.size ≤ N := by omega) :
    Wg W N kb k n x y s a c d 1 (X.setCell ⟨N + 4, 0, none⟩ (.int .i64 1)).drew := by
  have t : Gr (fun i => i = N + 4) X (X.setCell ⟨N + 4, 0, none⟩ (.int .i64 1)).drew := (Gr.set (S := fun i => i = N + 4) X ⟨N + 4, 0, none⟩ (.int .i64 1) rfl).trans (Gr.drew _ _)
  exact ⟨h.term.gr t (fun e => by omega), t.keep h.tab (fun e => by omega), t.keep h.r1 (fun e => by omega), t.keep h.r2 (fun e => by omega),
    heap_setCell_same X (N + 4) 0 _ 3 _ h.size, t.keep h.at_ (fun e => by omega), h.kd.gr t (fun e => by omega), h.gr.trans' t (fun i hi e => by omega)⟩
theorem wgood {W : World} {N kb : Nat} {k n : Int} {x y : Nat} {s : ByteArray} {a c d : Int} {X X2 X3 : World} (h2 : Gr (fun i => i = N + 4) X X2) (h3 : Gr (fun _ => False) X2 X3) (hw : Wg W N kb k n x y s a c d 1 X3) (hlt : N + 7 + 1 < X.heap.size) :
    Book (N + 7) X X3 ∧ Wg W N kb k n x y s a c d 1 X3 := by
  have t : Gr (fun i => i = N + 4) X X3 := h2.trans (h3.mono (fun _ _ e => e.elim))
  exact ⟨⟨t.block _ (by omega) (by omega), t.block _ (by omega) (by omega)⟩, hw⟩
theorem wfail {W : World} {kb : Nat} {k n : Int} {x y : Nat} {s : ByteArray} {a c d : Int} {X X2 X3 : World} (h2 : Gr (fun i => i = W.heap.size + 4) X X2) (h3 : Gr (fun _ => False) X2 X3) (hw : Wg W W.heap.size kb k n x y s a c d 1 X3) (hlt : W.heap.size + 7 + 1 < X.heap.size) :
    Book (W.heap.size + 7) X ((X3.setCell ⟨W.heap.size + 1 + 1, 0, none⟩ (.int .i64 0)).setCell ⟨W.heap.size + 1 + 1 + 1, 0, none⟩ (.int .i64 24)) ∧ Code.ret = Code.ret ∧
    ((X3.setCell ⟨W.heap.size + 1 + 1, 0, none⟩ (.int .i64 0)).setCell ⟨W.heap.size + 1 + 1 + 1, 0, none⟩ (.int .i64 24)).heap[W.heap.size + 2]? = some (.cells #[.int .i64 0] 3 (0, 0)) ∧
    ((X3.setCell ⟨W.heap.size + 1 + 1, 0, none⟩ (.int .i64 0)).setCell ⟨W.heap.size + 1 + 1 + 1, 0, none⟩ (.int .i64 24)).heap[W.heap.size + 3]? = some (.cells #[.int .i64 24] 32 (0, 0)) ∧
    Gr (fun _ => False) W ((X3.setCell ⟨W.heap.size + 1 + 1, 0, none⟩ (.int .i64 0)).setCell ⟨W.heap.size + 1 + 1 + 1, 0, none⟩ (.int .i64 24)) := by
  have t3 : Gr (fun i => i = W.heap.size + 2) X3 (X3.setCell ⟨W.heap.size + 1 + 1, 0, none⟩ (.int .i64 0)) := Gr.set _ _ _ rfl
  have t4 : Gr (fun i => i = W.heap.size + 3) (X3.setCell ⟨W.heap.size + 1 + 1, 0, none⟩ (.int .i64 0)) ((X3.setCell ⟨W.heap.size + 1 + 1, 0, none⟩ (.int .i64 0)).setCell ⟨W.heap.size + 1 + 1 + 1, 0, none⟩ (.int .i64 24)) := Gr.set _ _ _ rfl
  have t : Gr (fun i => i = W.heap.size + 2 ∨ i = W.heap.size + 3 ∨ i = W.heap.size + 4) X ((X3.setCell ⟨W.heap.size + 1 + 1, 0, none⟩ (.int .i64 0)).setCell ⟨W.heap.size + 1 + 1 + 1, 0, none⟩ (.int .i64 24)) :=
    (((h2.mono (fun _ _ e => .inr (.inr e))).trans (h3.mono (fun _ _ e => e.elim))).trans (t3.mono (fun _ _ e => .inl e))).trans (t4.mono (fun _ _ e => .inr (.inl e)))
  refine ⟨⟨t.block _ (by omega) (by omega), t.block _ (by omega) (by omega)⟩, rfl, ?_, ?_, ?_⟩
  · exact t4.keep (heap_setCell_same X3 (W.heap.size + 2) 0 _ 3 _ hw.r1) (by omega)
  · exact heap_setCell_same _ (W.heap.size + 3) 0 _ 32 _ (t3.keep hw.r2 (by omega))
  · exact (hw.gr.trans' t3 (fun i hi e => by omega)).trans' t4 (fun i hi e => by omega)
set_option maxRecDepth 100000 in
set_option maxHeartbeats 1600000 in
theorem weigh_c (W : World) (kb : Nat) (k n : Int) (x y : Nat) (s : ByteArray) (a c d : Int) (hK : Kd W kb) (m : Bool)
    (hf : ∀ W g, Kd W kb → Bx W g k n x y s a c d nl nl → Calls Try.prog 34 #[pt kb, pt g, .int .i64 1, .int .i64 1] W fun e w' => e = .returned (.int .i64 (okE m)) ∧ Gr (fun _ => False) W w') :
    Calls Try.prog 17 #[lf k n x y s a c d, pt kb] W fun e w' => e = .returned (.tuple #[.int .i64 (if m = true then 1 else 0), .int .i64 (okE m)]) ∧ Gr (fun _ => False) W w' := by
  have hkb := hK.lt
  refine (callsIn_wide (n := 3)).1 ?_
  refine callsIn_of_wp_marks Try.func17 rfl trivial ?_ rfl
  simp only [Try.ntmps17, List.size_toArray, List.length_cons, List.length_nil, Nat.reduceAdd, Nat.reduceSub, Array.replicate_succ, Array.replicate_zero, List.push_toArray, List.append_toArray, List.nil_append, List.cons_append]
  gi_wp2_with (first
    | (refine ⟨trivial, ?_⟩; gi_at_call 33; refine (callsIn_wide.2 (parts_c _ _ _)).mono ?_; rintro e w1 ⟨rfl, rfl⟩))
  generalize hX0 : (World.alloc (World.alloc (World.alloc (World.alloc (World.alloc (World.alloc (World.alloc W _) _) _) _) _) _) _) = X0
  have hgX : Gr (fun _ => False) W X0 := hX0 ▸ (((((((Gr.alloc _ _ _).trans (Gr.alloc _ _ _)).trans (Gr.alloc _ _ _)).trans (Gr.alloc _ _ _)).trans (Gr.alloc _ _ _)).trans (Gr.alloc _ _ _)).trans (Gr.alloc _ _ _))
  have hs0 : X0.heap.size = W.heap.size + 7 := by rw [← hX0]; simp
  have hw0 : Wg W W.heap.size kb k n x y s a c d 0 X0 := by
    subst hX0
    refine ⟨?_, ?_, ?_, ?_, ?_, ?_, hK.gr hgX (fun e => e), hgX⟩ <;> (simp only [Bx, al, World.size_alloc]; repeat (first | rw [if_pos trivial] | rw [if_pos (by omega)] | rw [if_neg (by omega)]))
  have hd0 : X0.heap[W.heap.size + 6]? = some (.cells #[.int .i64 1] 3 (0, 0)) := by subst hX0; simp only [al, World.size_alloc]; repeat (first | rw [if_pos trivial] | rw [if_pos (by omega)] | rw [if_neg (by omega)])
  have c6 := cell_of hd0
  have c5 := cell_of hw0.at_
  clear hX0
  refine rangeLeaf (bd := W.heap.size + 6) (bt := W.heap.size + 5) (g := W.heap.size) (d := 1) rfl rfl (by omega) (by omega) c6.1 c5.1
    (fun j X => (j = 0 ∧ Wg W W.heap.size kb k n x y s a c d 0 X) ∨ (j = 1 ∧ m = true ∧ Wg W W.heap.size kb k n x y s a c d 1 X))
    (fun q X => q = .ret ∧ m = false ∧ X.heap[W.heap.size + 2]? = some (.cells #[.int .i64 0] 3 (0, 0)) ∧ X.heap[W.heap.size + 3]? = some (.cells #[.int .i64 24] 32 (0, 0)) ∧ Gr (fun _ => False) W X)
    ?hI ?hIx ?hS (.inl ⟨rfl, hw0⟩) ?a1 ?assign ?body ?done ?stop
  case hI =>
    rintro j X X' (⟨rfl, h⟩ | ⟨rfl, hm, h⟩) t
    · exact .inl ⟨rfl, h.turn t (fun i e => by omega) hkb (Nat.le_refl _)⟩
    · exact .inr ⟨rfl, hm, h.turn t (fun i e => by omega) hkb (Nat.le_refl _)⟩
  case hIx =>
    rintro q X X' ⟨rfl, hm, h1, h2, h3⟩ t
    exact ⟨rfl, hm, t.keep h1 (fun e => by omega), t.keep h2 (fun e => by omega), h3.trans' t (fun i hi e => by omega)⟩
  case hS =>
    rintro X (⟨h, _⟩ | ⟨_, _, h⟩)
    · cases h
    · exact ⟨(cell_of h.at_).1, h.term.facts.2.2.2.2.2.2.2.2⟩
  case assign =>
    intro l X K hK
    gi_wp2
    exact hK
  case body =>
    rintro X (⟨_, h⟩ | ⟨h, _⟩) hlt
    · have hw1 : IntKind.i64.wrap (IntKind.i64.wrap 1) = 1 := by decide
      rw [hs0] at hlt
      obtain ⟨t0, t1, t2, t3, t4, t5, t6, t7, t8⟩ := h.term.facts
      obtain ⟨z1, z2⟩ := cell_of h.size
      obtain ⟨y1, y2⟩ := cell_of h.tab
      have z1' : X.cell? ⟨W.heap.size + 1 + 1 + 1 + 1, 0, none⟩ = some (.int .i64 0) := z1
      have z2' : X.frozen? ⟨W.heap.size + 1 + 1 + 1 + 1, 0, none⟩ = false := z2
      gi_wp2
      gi_region_with (fail)
      all_goals

        generalize hX2 : World.drew (World.setCell X _ _) = X2
        have hs2 : Gr (fun i => i = W.heap.size + 4) X X2 := hX2 ▸ ((Gr.set (S := fun i => i = W.heap.size + 4) X ⟨W.heap.size + 4, 0, none⟩ (.int .i64 1) rfl).trans (Gr.drew _ _))
        have hw2 : Wg W W.heap.size kb k n x y s a c d 1 X2 := hX2 ▸ h.step
        have hx2 : W.heap.size + 8 < X2.heap.size := by have := hs2.size; omega
        clear hX2 z1 z2 z1' z2' y1 y2 t0 t1 t2 t3 t4 t5 t6 t7 t8
        obtain ⟨z1, z2⟩ := cell_of hw2.size
        obtain ⟨y1, y2⟩ := cell_of hw2.tab
        have z1' : X2.cell? ⟨W.heap.size + 1 + 1 + 1 + 1, 0, none⟩ = some (.int .i64 1) := z1
        cases m
        · gi_wp2_with (first
            | (refine ⟨trivial, ?_⟩; gi_at_call 34; refine (CallsIn.inRound _ (callsIn_wide.2 (hf X2 _ hw2.kd hw2.term))).mono ?_; rintro e X3 ⟨rfl, hg3⟩; have hw3 := hw2.turn hg3 (fun i e => e.elim) hkb (Nat.le_refl _); have q1 := cell_of hw3.r1; have q2 := cell_of hw3.r2; have q1' : X3.frozen? ⟨W.heap.size + 1 + 1, 0, none⟩ = false := q1.2; have q2' : X3.frozen? ⟨W.heap.size + 1 + 1 + 1, 0, none⟩ = false := q2.2; have q3' : X3.cell? ⟨W.heap.size + 1 + 1, 0, none⟩ = some (.int .i64 0) := q1.1; have q4' : X3.cell? ⟨W.heap.size + 1 + 1 + 1, 0, none⟩ = some (.int .i64 0) := q2.1))
          exact wfail hs2 hg3 hw3 hlt
        · gi_wp2_with (first
            | (refine ⟨trivial, ?_⟩; gi_at_call 34; refine (CallsIn.inRound _ (callsIn_wide.2 (hf X2 _ hw2.kd hw2.term))).mono ?_; rintro e X3 ⟨rfl, hg3⟩; have hw3 := hw2.turn hg3 (fun i e => e.elim) hkb (Nat.le_refl _)))
          exact wgood hs2 hg3 hw3 hlt
    · cases h
  case done =>
    rintro X (⟨h, _⟩ | ⟨_, hm, h⟩) hD
    · cases h
    · rw [hs0] at hD ⊢
      subst hm
      obtain ⟨z1, z2⟩ := cell_of h.size
      obtain ⟨p1, p2⟩ := cell_of h.r1
      obtain ⟨p3, p4⟩ := cell_of h.r2
      have z1' : X.cell? ⟨W.heap.size + 1 + 1 + 1 + 1, 0, none⟩ = some (.int .i64 1) := z1
      have p1' : X.cell? ⟨W.heap.size + 1 + 1, 0, none⟩ = some (.int .i64 0) := p1
      have p2' : X.frozen? ⟨W.heap.size + 1 + 1, 0, none⟩ = false := p2
      have p3' : X.cell? ⟨W.heap.size + 1 + 1 + 1, 0, none⟩ = some (.int .i64 0) := p3
      have p4' : X.frozen? ⟨W.heap.size + 1 + 1 + 1, 0, none⟩ = false := p4
      have t3 : Gr (fun i => i = W.heap.size + 2) X (X.setCell ⟨W.heap.size + 1 + 1, 0, none⟩ (.int .i64 1)) := Gr.set _ _ _ rfl
      have t4 : Gr (fun i => i = W.heap.size + 3) (X.setCell ⟨W.heap.size + 1 + 1, 0, none⟩ (.int .i64 1)) ((X.setCell ⟨W.heap.size + 1 + 1, 0, none⟩ (.int .i64 1)).setCell ⟨W.heap.size + 1 + 1 + 1, 0, none⟩ (.int .i64 0)) := Gr.set _ _ _ rfl
      have e1 : ((X.setCell ⟨W.heap.size + 1 + 1, 0, none⟩ (.int .i64 1)).setCell ⟨W.heap.size + 1 + 1 + 1, 0, none⟩ (.int .i64 0)).heap[W.heap.size + 2]? = some (.cells #[.int .i64 1] 3 (0, 0)) := t4.keep (heap_setCell_same X (W.heap.size + 2) 0 _ 3 _ h.r1) (by omega)
      have e2 : ((X.setCell ⟨W.heap.size + 1 + 1, 0, none⟩ (.int .i64 1)).setCell ⟨W.heap.size + 1 + 1 + 1, 0, none⟩ (.int .i64 0)).heap[W.heap.size + 3]? = some (.cells #[.int .i64 0] 32 (0, 0)) := heap_setCell_same (X.setCell ⟨W.heap.size + 1 + 1, 0, none⟩ (.int .i64 1)) (W.heap.size + 3) 0 _ 32 _ (t3.keep h.r2 (by omega))
      have e3 := t4.keep (t3.keep hD (by omega)) (by omega)
      have e4 := (h.gr.trans' t3 (fun i hi e => by omega)).trans' t4 (fun i hi e => by omega)
      gi_wp2
      refine ⟨by simp, .inl ⟨_, _, rfl, run_takeDeferred e3, ?_⟩⟩
      obtain ⟨k1, k2, k3⟩ := wend e1 e2 e4
      exact ⟨.tuple #[.int .i64 1, .int .i64 0], by simp [results, Try.results17, go_sem, k1, k2], rfl, k3⟩
  case stop =>
    rintro q X ⟨rfl, hm, h1, h2, h3⟩ hD
    rw [hs0] at hD ⊢
    subst hm
    obtain ⟨p1, p2⟩ := cell_of h1
    obtain ⟨p3, p4⟩ := cell_of h2
    gi_wp2
    refine ⟨by simp, .inl ⟨_, _, rfl, run_takeDeferred hD, ?_⟩⟩
    obtain ⟨k1, k2, k3⟩ := wend h1 h2 h3
    exact ⟨.tuple #[.int .i64 0, .int .i64 24], by simp [results, Try.results17, go_sem, k1, k2], rfl, k3⟩
end Go.Proofs.Ytmohehfkbhllpaa
/-
  Check of a term that has no elements.
-/
namespace Go.Proofs.Ytmohehfkbhllpaa
open Go.RowKit Go.Maps
set_option maxRecDepth 100000 in
set_option maxHeartbeats 400000 in
theorem check_c (W : World) (k n : Int) (x y : Nat) (s : ByteArray) (a c d : Int) (m : Bool)
    (hf : ∀ kb W g, Kd W kb → Bx W g k n x y s a c d nl nl → Calls Try.prog 34 #[pt kb, pt g, .int .i64 1, .int .i64 1] W fun e w' => e = .returned (.int .i64 (okE m)) ∧ Gr (fun _ => False) W w') :
    Calls Try.prog 8 #[lf k n x y s a c d] W fun e w' => e = .returned (.int .i64 (okE m)) ∧ Gr (fun _ => False) W w' := by
  have hw := fun w2 kb hK => weigh_c w2 kb k n x y s a c d hK m (hf kb)
  generalize (if m = true then (1 : Int) else 0) = z at hw
  generalize okE m = e at hw ⊢
  clear hf
  replace hw := Lib.hid hw
  go_enter Try.func8, Try.ntmps8
  go_wp2_with fail
  go_region_with (first
    | (go_at_call 18; refine (makeKinds_c _).mono ?_; rintro e w2 ⟨rfl, hK2, hg2⟩; have hK3 : Kd w2 (W.heap.size + 1) := (by simpa using hK2); clear hK2; have hB2 : Bx w2 W.heap.size k n x y s a c d nl nl := ((Gr.drew _ (fun _ => False)).trans hg2).keep (heap_alloc_new W _) (fun e => e); obtain ⟨c0, c1, c2, c3, c4, c5, c6, c7, c8⟩ := hB2.facts)
    | (go_at_call 17; refine (hw.out w2 (W.heap.size + 1) hK3).mono ?_; rintro e' w3 ⟨rfl, hg3⟩))
  all_goals
    go_wp2_with fail
    go_ret
    exact ⟨rfl, (((Gr.alloc _ _ _).trans (Gr.drew _ _)).trans hg2).trans hg3⟩

theorem check_int (W : World) (n : Int) : Calls Try.prog 8 #[lf 1 n 0 0 e0 0 0 0] W fun e w' => e = .returned (.int .i64 (okE (inR n))) ∧ Gr (fun _ => False) W w' :=
  check_c W 1 n 0 0 e0 0 0 0 _ (fun kb W g hK hB => fault_int W kb g n hK hB _ (right_int n))
theorem check_cx (W : World) (x y : Nat) (hx : x < 18446744073709551616) (hy : y < 18446744073709551616) : Calls Try.prog 8 #[lf 2 0 x y e0 0 0 0] W fun e w' => e = .returned (.int .i64 (okE (rp x && rp y))) ∧ Gr (fun _ => False) W w' :=
  check_c W 2 0 x y e0 0 0 0 _ (fun kb W g hK hB => fault_cx W kb g x y hK hB _ (right_cx x y hx hy))
theorem check_ref (W : World) (a c d : Int) : Calls Try.prog 8 #[lf 4 0 0 0 e0 a c d] W fun e w' => e = .returned (.int .i64 (okE (idOk a c d))) ∧ Gr (fun _ => False) W w' :=
  check_c W 4 0 0 0 e0 a c d _ (fun kb W g hK hB => fault_ref W kb g a c d hK hB _ (idMay_c 4 a c d))
theorem check_pid (W : World) (a c d : Int) : Calls Try.prog 8 #[lf 5 0 0 0 e0 a c d] W fun e w' => e = .returned (.int .i64 (okE (idOk a c d))) ∧ Gr (fun _ => False) W w' :=
  check_c W 5 0 0 0 e0 a c d _ (fun kb W g hK hB => fault_pid W kb g a c d hK hB _ (idMay_c 5 a c d))
end Go.Proofs.Ytmohehfkbhllpaa

