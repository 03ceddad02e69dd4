/-
  The queue's put.
-/
import Derived.Test.YticgnaikbmnagaaZD
set_option linter.unusedVariables false
set_option linter.unusedSimpArgs false
namespace Go.Proofs.Yticgnaikbmnagaa
open Go.RowKit Go.Maps
attribute [local go_sem] Oper.semAt_some
variable {S S' : Nat → Prop} {W W1 W' : World}
/-- What the region reads. -/
abbrev T9 (N : Nat) (z : Int) (a1 : Option Addr) (c1 : Nat) (a2 : Option Addr) (c2 : Nat) (w : World) : Prop := w.cell? ⟨N, 0, none⟩ = some (.int .i64 1) ∧ w.cell? ⟨N, 1, none⟩ = some (.int .i64 z) ∧ w.cell? ⟨N, 2, none⟩ = some (.complex .f64 0 0) ∧ w.cell? ⟨N, 3, none⟩ = some (.string e0) ∧ w.cell? ⟨N, 4, none⟩ = some (.int .i64 0) ∧ w.cell? ⟨N, 5, none⟩ = some (.int .u32 0) ∧ w.cell? ⟨N, 6, none⟩ = some (.int .u64 0) ∧ w.cell? ⟨N, 7, none⟩ = some (.slice a1 0 c1) ∧ w.cell? ⟨N, 8, none⟩ = some (.slice a2 0 c2)
theorem T9.gr {S : Nat → Prop} {N : Nat} {z : Int} {a1 : Option Addr} {c1 : Nat} {a2 : Option Addr} {c2 : Nat} (h : T9 N z a1 c1 a2 c2 W) (g : Gr S W W') (hN : ¬ S N) : T9 N z a1 c1 a2 c2 W' := by
  have k : ∀ (m o : Nat) (u : Value), ¬ S m → W.cell? ⟨m, o, none⟩ = some u → W'.cell? ⟨m, o, none⟩ = some u := fun m o u hm hu => by
    rw [World.cell?_of_block (w' := W') (w := W) (a := ⟨m, o, none⟩) (g.block m (World.block_lt_of_cell? W _ hu) hm)]; exact hu
  obtain ⟨q0, q1, q2, q3, q4, q5, q6, q7, q8⟩ := h
  exact ⟨k _ _ _ hN q0, k _ _ _ hN q1, k _ _ _ hN q2, k _ _ _ hN q3, k _ _ _ hN q4, k _ _ _ hN q5, k _ _ _ hN q6, k _ _ _ hN q7, k _ _ _ hN q8⟩
set_option maxRecDepth 20000 in
set_option maxHeartbeats 3200000 in
theorem qput_c (W : World) (b : Nat) (l : List Int) (p : Nat) (h : Mb W b l p) (hl : l.length ≤ 255) (z : Int) (a1 : Option Addr) (d1 : Nat) (a2 : Option Addr) (d2 : Nat) : Calls Try.prog 15 #[pt b, iv z a1 d1 a2 d2] W fun e w' => (∃ v, e = .returned v) ∧ Mb w' b (l ++ [z]) p ∧ Gr (Mx W b) W w' ∧ ∀ i, Mx w' b i → Mx W b i ∨ W.heap.size ≤ i := by
  obtain ⟨⟨v, vs, k1, k2, k3⟩, k4⟩ := h
  obtain ⟨a, c, rfl⟩ := ownsRow_sv k2
  have hbW := (Array.getElem?_eq_some_iff.1 k1).1
  have hrb : ∀ k, (Value.slice a l.length c).ownBlock = some k → ∃ cs : Array Value, W.heap[k]? = some (Obj.cells cs 35 (0, 0)) := fun k e => by
    rcases k2.2 with ⟨e', _⟩ | ⟨g', cap, cur, e', _, k, _⟩
    · rw [e'] at e; cases e
    · rw [e'] at e; cases e; exact ⟨_, k⟩
  have ga := Gr.alloc W (.cells #[.int .i64 1, .int .i64 z, .complex .f64 0 0, .string e0, .int .i64 0, .int .u32 0, .int .u64 0, .slice a1 0 d1, .slice a2 0 d2] 35) (fun _ => False)
  have h0 := Lib.hid (heap_alloc_new W (.cells #[.int .i64 1, .int .i64 z, .complex .f64 0 0, .string e0, .int .i64 0, .int .u32 0, .int .u64 0, .slice a1 0 d1, .slice a2 0 d2] 35))
  have G0 := Lib.hid ga
  have H1 := Lib.hid (ga.keep k1 (fun e => e))
  have O1 := Lib.hid (ownsRow_gr k2 ga (fun _ _ e => e))
  have Z1 : Hid ((W.alloc (.cells #[.int .i64 1, .int .i64 z, .complex .f64 0 0, .string e0, .int .i64 0, .int .u32 0, .int .u64 0, .slice a1 0 d1, .slice a2 0 d2] 35)).heap.size = W.heap.size + 1) := Lib.hid (by simp)
  have K3 := Lib.hid k3
  have K4 := Lib.hid k4
  have HB := Lib.hid hbW
  have HR := Lib.hid hrb
  have HM : Hid (∀ i, (Value.slice a l.length c).ownBlock = some i → Mx W b i) := Lib.hid (fun i e => .inr ⟨_, _, k1, e⟩)
  have HL := Lib.hid hl
  obtain ⟨n, hn⟩ : ∃ n, l.length = n := ⟨_, rfl⟩
  have Hn := Lib.hid hn
  rw [hn] at H1 O1 HR HM K4 HL
  have hnI : (n : Int) < (n : Int) + 1 := by omega
  have hn0 : (0 : Int) ≤ (n : Int) := by omega
  clear k1 k2 k3 k4 ga hbW hrb hl hn
  go_enter Try.func15, Try.ntmps15
  go_wp2_with fail
  generalize World.alloc W _ = X0 at h0 G0 H1 O1 Z1 ⊢
  have HA : Hid (Act.mk #[] [] = Act.mk #[] []) := Lib.hid rfl
  have sa : T9 W.heap.size z a1 d1 a2 d2 X0.drew := by
    have g := Gr.drew X0 (fun _ => False)
    obtain ⟨⟨t0, t1, t2, t3, t4, t5, t6, t7, t8⟩, tf⟩ := nine (g.keep h0.out (fun e => e))
    exact ⟨t0, t1, t2, t3, t4, t5, t6, t7, t8⟩
  have e1 : Hid (X0.drew.heap[b]? = some (.cells #[.slice a n c, .int .i64 (p : Int)] 49 (0, 0))) := Lib.hid ((Gr.drew X0 (fun _ => False)).keep H1.out (fun e => e))
  have e2 : Hid (X0.drew.ownsRow 0 35 9 (.slice a n c) n (vs.flatMap cellsOf)) := Lib.hid (ownsRow_gr O1.out (Gr.drew X0 (fun _ => False)) (fun _ _ e => e))
  have e3 : Hid (Gr (fun _ => False) W X0.drew) := Lib.hid (G0.out.trans (Gr.drew X0 _))
  have e4 : Hid (W.heap.size < X0.drew.heap.size) := Lib.hid (by show W.heap.size < X0.heap.size; have := Z1.out; omega)
  refine wp_region_L (L := 99) (T := T9 W.heap.size z a1 d1 a2 d2) (by kernel_rfl) ?_
  clear H1 O1 G0 Z1 h0 HA
  generalize X0.drew = X1 at sa e1 e2 e3 e4 ⊢
  refine wpAnyN_at (i := 0) (v := pt b) (some 4) rfl rfl (by kernel_rfl) (by kernel_rfl) (by kernel_rfl) rfl (fun _ _ _ h => h) (Or.inl ⟨by rfl, ?_⟩) sa ?_
  · intro w hSw
    obtain ⟨q0, q1, q2, q3, q4, q5, q6, q7, q8⟩ := hSw
    go_simp
  try simp only [Act.put, List.setIfInBounds_toArray, List.set_cons_zero, List.set_cons_succ]
  refine wpAnyN_at (i := 1) (v := pt b) (some 5) rfl rfl (by kernel_rfl) (by kernel_rfl) (by kernel_rfl) rfl (fun _ _ _ h => h) (Or.inl ⟨by rfl, ?_⟩) sa ?_
  · intro w hSw
    obtain ⟨q0, q1, q2, q3, q4, q5, q6, q7, q8⟩ := hSw
    go_simp
  try simp only [Act.put, List.setIfInBounds_toArray, List.set_cons_zero, List.set_cons_succ]
  refine wpAnyN_at (i := 2) (v := pt b) (some 6) rfl rfl (by kernel_rfl) (by kernel_rfl) (by kernel_rfl) rfl (fun _ _ _ h => h) (Or.inl ⟨by rfl, ?_⟩) sa ?_
  · intro w hSw
    obtain ⟨q0, q1, q2, q3, q4, q5, q6, q7, q8⟩ := hSw
    go_simp
  try simp only [Act.put, List.setIfInBounds_toArray, List.set_cons_zero, List.set_cons_succ]
  refine wpAnyN_at (i := 4) (v := (iv z a1 d1 a2 d2)) (some 8) rfl rfl (by kernel_rfl) (by kernel_rfl) (by kernel_rfl) rfl (fun _ _ _ h => h) (Or.inl ⟨by rfl, ?_⟩) sa ?_
  · intro w hSw
    obtain ⟨q0, q1, q2, q3, q4, q5, q6, q7, q8⟩ := hSw
    go_simp
  try simp only [Act.put, List.setIfInBounds_toArray, List.set_cons_zero, List.set_cons_succ]
  refine wpAnyL_two (i := 3) (j := 6) (by kernel_rfl) rfl rfl (fun K hK => ?_) (fun K hK => ?_)
  · obtain ⟨⟨c0, c1⟩, cf⟩ := two_cells e1.out
    have hbl := (Array.getElem?_eq_some_iff.1 e1.out).1
    go_simp
    refine hK.out _ _ (fun _ => sa) ?_
    clear hK K c0 c1 cf hbl
    try simp only [Act.put, List.setIfInBounds_toArray, List.set_cons_zero, List.set_cons_succ]
    refine wpAnyN_at (i := 5) (v := (.int .i64 (n : Int))) (some 9) rfl rfl (by kernel_rfl) (by kernel_rfl) (by kernel_rfl) rfl (fun _ _ _ h => h) (Or.inl ⟨by rfl, ?_⟩) sa ?_
    · intro w hSw
      obtain ⟨q0, q1, q2, q3, q4, q5, q6, q7, q8⟩ := hSw
      go_simp
    try simp only [Act.put, List.setIfInBounds_toArray, List.set_cons_zero, List.set_cons_succ]
    refine wpAnyL_one (i := 6) (by kernel_rfl) rfl (fun K hK => ?_)
    go_simp
    have g6 := Gr.alloc X1 (.cells #[.int .i64 0, .int .i64 0, .complex .f64 0 0, .string e0, .int .i64 0, .int .u32 0, .int .u64 0, nl, nl] 35) (fun _ => False)
    have sb : T9 W.heap.size z a1 d1 a2 d2 (X1.alloc (.cells #[.int .i64 0, .int .i64 0, .complex .f64 0 0, .string e0, .int .i64 0, .int .u32 0, .int .u64 0, nl, nl] 35)) := sa.gr g6 (fun e => e)
    have f1 : Hid ((X1.alloc (.cells #[.int .i64 0, .int .i64 0, .complex .f64 0 0, .string e0, .int .i64 0, .int .u32 0, .int .u64 0, nl, nl] 35)).heap[b]? = some (.cells #[.slice a n c, .int .i64 (p : Int)] 49 (0, 0))) := Lib.hid (g6.keep e1.out (fun e => e))
    have f2 : Hid ((X1.alloc (.cells #[.int .i64 0, .int .i64 0, .complex .f64 0 0, .string e0, .int .i64 0, .int .u32 0, .int .u64 0, nl, nl] 35)).ownsRow 0 35 9 (.slice a n c) n (vs.flatMap cellsOf)) := Lib.hid (ownsRow_gr e2.out g6 (fun _ _ e => e))
    have f3 : Hid (Gr (fun _ => False) W (X1.alloc (.cells #[.int .i64 0, .int .i64 0, .complex .f64 0 0, .string e0, .int .i64 0, .int .u32 0, .int .u64 0, nl, nl] 35))) := Lib.hid (e3.out.trans g6)
    have f4 : Hid ((X1.alloc (.cells #[.int .i64 0, .int .i64 0, .complex .f64 0 0, .string e0, .int .i64 0, .int .u32 0, .int .u64 0, nl, nl] 35)).heap[X1.heap.size]? = some (.cells #[.int .i64 0, .int .i64 0, .complex .f64 0 0, .string e0, .int .i64 0, .int .u32 0, .int .u64 0, nl, nl] 35 (0, 0))) := Lib.hid (heap_alloc_new X1 _)
    refine hK.out _ _ (fun _ => sb) ?_
    clear hK K g6 sa e1 e2 e3
    have HN6 : Hid (W.heap.size < X1.heap.size) := e4
    obtain ⟨N6, hN6⟩ : ∃ N6, X1.heap.size = N6 := ⟨_, rfl⟩
    rw [hN6] at f4 HN6 ⊢
    clear hN6
    generalize X1.alloc (.cells #[.int .i64 0, .int .i64 0, .complex .f64 0 0, .string e0, .int .i64 0, .int .u32 0, .int .u64 0, nl, nl] 35) = X6 at sb f1 f2 f3 f4 ⊢
    try simp only [Act.put, List.setIfInBounds_toArray, List.set_cons_zero, List.set_cons_succ]
    refine wpAnyL_one (i := 7) (by kernel_rfl) rfl (fun K hK => ?_)
    refine step_term rfl (.tmp 7) (.tmp 10) rfl 0 n N6 (.slice a n c) (vs.flatMap cellsOf) rfl rfl f2.out _ f4.out rfl (by have := HL.out; omega) (Nat.zero_le _) ?_
    intro v' w7 o7 h7 hloc
    obtain ⟨g', c', rfl⟩ := row_form o7 (by omega)
    have hgN : Hid (g' ≠ W.heap.size) := Lib.hid (by
      rcases hloc with e | e
      · obtain ⟨cs, k⟩ := HR.out g' (by rw [← e]; rfl)
        have := (Array.getElem?_eq_some_iff.1 k).1; omega
      · simp [Value.ownBlock] at e
        have := f3.out.size
        have := (Array.getElem?_eq_some_iff.1 f4.out).1
        have := HN6.out
        omega)
    have g7 := Gr.of_grown (S := fun i => (Value.slice a n c).ownBlock = some i) h7 (fun k e => e)
    have hNS : ¬ (Value.slice a n c).ownBlock = some W.heap.size := fun e => by obtain ⟨cs, k⟩ := HR.out _ e; exact absurd (Array.getElem?_eq_some_iff.1 k).1 (Nat.lt_irrefl _)
    have hbS : ¬ (Value.slice a n c).ownBlock = some b := fun e => by
      obtain ⟨cs, k⟩ := HR.out _ e
      have := f3.out.keep k (fun e => e)
      rw [f1.out] at this
      cases this
    have sc := sb.gr g7 hNS
    have b7 : Hid (w7.heap[b]? = some (.cells #[.slice a n c, .int .i64 (p : Int)] 49 (0, 0))) := Lib.hid (g7.keep f1.out hbS)
    have G7 : Hid (Gr (fun i => (Value.slice a n c).ownBlock = some i) W w7) := Lib.hid ((f3.out.mono (fun _ _ e => e.elim)).trans g7)
    obtain ⟨⟨P1, P2, P5⟩, P3, P4, P6⟩ := put_fin (n := n) b7.out o7 K3.out Hn.out K4.out z a1 d1 a2 d2
    have hg7 := (row_cell o7 (q := n * 9) (u := .int .i64 0) (by rw [List.getElem?_append_right (by rw [K3.out.flen, Hn.out]; omega), K3.out.flen, Hn.out]; simp [cellsOf])).2.1
    have hc7 : ∀ q, q < 9 → w7.cell? ⟨g', n * 9 + q, none⟩ = (cellsOf zt)[q]? := fun q hq => by
      obtain ⟨u, hu⟩ : ∃ u, (cellsOf zt)[q]? = some u := ⟨_, List.getElem?_eq_getElem (show q < 9 from hq)⟩
      rw [hu]
      exact (row_cell o7 (q := n * 9 + q) (u := u) (by rw [List.getElem?_append_right (by rw [K3.out.flen, Hn.out]; omega), K3.out.flen, Hn.out, show n * 9 + q - n * 9 = q by omega]; exact hu)).1
    have hf7 : ∀ o, w7.frozen? ⟨g', o, none⟩ = false := fun o => o7.frozenAt o
    have hMx : ∀ X', Gr (fun i => i = b ∨ i = g') w7 X' → Gr (Mx W b) W X' := fun X' gX => by
      refine G7.out.mono (fun i hi e => HM.out i e) |>.trans' gX (fun i hi e => ?_)
      rcases e with rfl | rfl
      · exact .inl rfl
      · rcases hloc with e | e
        · exact HM.out i (by rw [← e]; rfl)
        · exfalso
          simp [Value.ownBlock] at e
          have := f3.out.size
          have := (Array.getElem?_eq_some_iff.1 f4.out).1
          have := HN6.out
          omega
    have hNew : Hid (∀ X' : World, X'.heap[b]? = some (Obj.cells #[.slice (some ⟨g', 0, none⟩) (n + 1) c', .int .i64 (p : Int)] 49 (0, 0)) → ∀ i, Mx X' b i → Mx W b i ∨ W.heap.size ≤ i) := Lib.hid (fun X' hX i hi => by
      rcases hi with e | ⟨v, u, e1, e2⟩
      · exact .inl (.inl e)
      · rw [hX] at e1
        cases e1
        simp [Value.ownBlock] at e2
        subst e2
        rcases hloc with e | e
        · exact .inl (HM.out _ (by rw [← e]; rfl))
        · right
          simp [Value.ownBlock] at e
          have := f3.out.size
          have := (Array.getElem?_eq_some_iff.1 f4.out).1
          have := HN6.out
          omega)
    have hcap : (n : Int) + 1 ≤ (c' : Int) := by
      rcases o7.2 with ⟨e', _⟩ | ⟨g2, cap, cur, e', _, k, k2, _⟩
      · cases e'
      · cases e'; omega
    have HP1 := Lib.hid P1
    have HP2 := Lib.hid P2
    have HP3 := Lib.hid P3
    have HP4 := Lib.hid P4
    have HP5 := Lib.hid P5
    have HP6 := Lib.hid P6
    refine hK.out _ _ (fun _ => sc) ?_
    clear hK K h7 g7 sb f1 f2 f3 f4 P1 P2 P3 P4 P5 P6 hNS hbS
    try simp only [Act.put, List.setIfInBounds_toArray, List.set_cons_zero, List.set_cons_succ]
    refine wpAnyN_at (i := 10) (v := pt b) (some 13) rfl rfl (by kernel_rfl) (by kernel_rfl) (by kernel_rfl) rfl (fun _ _ _ h => h) (Or.inl ⟨by rfl, ?_⟩) sc ?_
    · intro w hSw
      obtain ⟨q0, q1, q2, q3, q4, q5, q6, q7, q8⟩ := hSw
      go_simp
    try simp only [Act.put, List.setIfInBounds_toArray, List.set_cons_zero, List.set_cons_succ]
    refine wpAnyN_at (i := 11) (v := pt b) (some 14) rfl rfl (by kernel_rfl) (by kernel_rfl) (by kernel_rfl) rfl (fun _ _ _ h => h) (Or.inl ⟨by rfl, ?_⟩) sc ?_
    · intro w hSw
      obtain ⟨q0, q1, q2, q3, q4, q5, q6, q7, q8⟩ := hSw
      go_simp
    try simp only [Act.put, List.setIfInBounds_toArray, List.set_cons_zero, List.set_cons_succ]
    have y0 : w7.cell? ⟨g', n * 9, none⟩ = some (.int .i64 0) := hc7 0 (by omega)
    have y1 : w7.cell? ⟨g', n * 9 + 1, none⟩ = some (.int .i64 0) := hc7 1 (by omega)
    have y2 : w7.cell? ⟨g', n * 9 + 2, none⟩ = some (.complex .f64 0 0) := hc7 2 (by omega)
    have y3 : w7.cell? ⟨g', n * 9 + 3, none⟩ = some (.string e0) := hc7 3 (by omega)
    have y4 : w7.cell? ⟨g', n * 9 + 4, none⟩ = some (.int .i64 0) := hc7 4 (by omega)
    have y5 : w7.cell? ⟨g', n * 9 + 5, none⟩ = some (.int .u32 0) := hc7 5 (by omega)
    have y6 : w7.cell? ⟨g', n * 9 + 6, none⟩ = some (.int .u64 0) := hc7 6 (by omega)
    have y7 : w7.cell? ⟨g', n * 9 + 7, none⟩ = some nl := hc7 7 (by omega)
    have y8 : w7.cell? ⟨g', n * 9 + 8, none⟩ = some nl := hc7 8 (by omega)
    obtain ⟨⟨c0, c1⟩, cf⟩ := two_cells b7.out
    have hbl := (Array.getElem?_eq_some_iff.1 b7.out).1
    have hnn : decide (n < n + 1) = true := by simp
    refine wpAnyN_at (i := 8) (v := (.pointer (some ⟨g', n * 9, none⟩))) (some 12) rfl rfl (by kernel_rfl) (by kernel_rfl) (by kernel_rfl) rfl (fun _ _ _ h => h) (Or.inl ⟨by rfl, ?_⟩) sc ?_
    · intro w hSw
      obtain ⟨q0, q1, q2, q3, q4, q5, q6, q7, q8⟩ := hSw
      go_simp
    try simp only [Act.put, List.setIfInBounds_toArray, List.set_cons_zero, List.set_cons_succ]
    have R9 := Lib.hid (r9_row o7 (by rw [K3.out.flen, Hn.out]) z a1 d1 a2 d2)
    have hbg : Hid (b ≠ g') := Lib.hid (by
      rintro rfl
      rcases o7.2 with ⟨e', _⟩ | ⟨g2, cap, cur, e', _, k, _⟩
      · cases e'
      · cases e'; rw [b7.out] at k; cases k)
    have gb : Hid (Gr (fun i => i = b) w7 (w7.setCell ⟨b, 0, none⟩ (.slice (some ⟨g', 0, none⟩) (n + 1) c'))) := Lib.hid (Gr.set _ _ _ rfl)
    have O7 := Lib.hid o7
    have hbN : Hid (b ≠ W.heap.size) := Lib.hid (by have := HB.out; omega)
    have hMX := Lib.hid hMx
    clear o7 hMx hc7
    refine wpAnyL_two (i := 9) (j := 12) (by kernel_rfl) rfl rfl (fun K hK => ?_) (fun K hK => ?_)
    · clear c0 c1 cf hbl
      go_simp
      clear y0 y1 y2 y3 y4 y5 y6 y7 y8 hf7 hg7
      have sc9 : T9 W.heap.size z a1 d1 a2 d2 (r9 w7 g' (n * 9) z a1 d1 a2 d2) := sc.gr R9.out.2 (fun e => hgN.out e.symm)
      show K _ (r9 w7 g' (n * 9) z a1 d1 a2 d2)
      have b9 : (r9 w7 g' (n * 9) z a1 d1 a2 d2).heap[b]? = some (.cells #[.slice a n c, .int .i64 (p : Int)] 49 (0, 0)) := R9.out.2.keep b7.out (fun e => hbg.out e)
      have gb9 : Hid (Gr (fun i => i = b) (r9 w7 g' (n * 9) z a1 d1 a2 d2) ((r9 w7 g' (n * 9) z a1 d1 a2 d2).setCell ⟨b, 0, none⟩ (.slice (some ⟨g', 0, none⟩) (n + 1) c'))) := Lib.hid (Gr.set _ _ _ rfl)
      generalize r9 w7 g' (n * 9) z a1 d1 a2 d2 = X9 at b9 HP1 HP2 HP5 gb9 sc9 ⊢
      refine hK.out _ _ (fun _ => sc9) ?_
      clear hK K sc
      try simp only [Act.put, List.setIfInBounds_toArray, List.set_cons_zero, List.set_cons_succ]
      refine wpAnyL_one (i := 12) (by kernel_rfl) rfl (fun K hK => ?_)
      obtain ⟨⟨c0, c1⟩, cf⟩ := two_cells b9
      have hbl := (Array.getElem?_eq_some_iff.1 b9).1
      go_simp
      have scA := sc9.gr gb9.out (fun e => hbN.out e.symm)
      refine hK.out _ _ (fun _ => scA) ?_
      clear hK K
      refine wpAnyL_done (by kernel_rfl) ?_ _
      refine NoPanic.normal ?_
      go_wp2_with fail
      exact bodyPost_end (v := .tuple #[]) (by simp [results, Try.results15, go_sem]) rfl ⟨⟨_, rfl⟩, HP1.out, hMX.out _ HP2.out, hNew.out _ HP5.out⟩
    · clear y0 y1 y2 y3 y4 y5 y6 y7 y8 hf7
      go_simp
      have scB := sc.gr gb.out (fun e => hbN.out e.symm)
      have oB := ownsRow_of_block (W' := w7.setCell ⟨b, 0, none⟩ (.slice (some ⟨g', 0, none⟩) (n + 1) c')) O7.out (fun k _ e => gb.out.block k (ownsRow_lt O7.out k e).2 (fun e' => by simp [Value.ownBlock] at e; have := hbg.out; omega))
      generalize w7.setCell ⟨b, 0, none⟩ (.slice (some ⟨g', 0, none⟩) (n + 1) c') = X9 at scB oB HP3 HP4 HP6 ⊢
      refine hK.out _ _ (fun _ => scB) ?_
      clear hK K c0 c1 cf hbl sc
      have R10 := Lib.hid (r9_row oB (by rw [K3.out.flen, Hn.out]) z a1 d1 a2 d2)
      have hgB := (row_cell oB (q := n * 9) (u := .int .i64 0) (by rw [List.getElem?_append_right (by rw [K3.out.flen, Hn.out]; omega), K3.out.flen, Hn.out]; simp [cellsOf])).2.1
      have hcB : ∀ q, q < 9 → X9.cell? ⟨g', n * 9 + q, none⟩ = (cellsOf zt)[q]? := fun q hq => by
        obtain ⟨u, hu⟩ : ∃ u, (cellsOf zt)[q]? = some u := ⟨_, List.getElem?_eq_getElem (show q < 9 from hq)⟩
        rw [hu]
        exact (row_cell oB (q := n * 9 + q) (u := u) (by rw [List.getElem?_append_right (by rw [K3.out.flen, Hn.out]; omega), K3.out.flen, Hn.out, show n * 9 + q - n * 9 = q by omega]; exact hu)).1
      have hfB : ∀ o, X9.frozen? ⟨g', o, none⟩ = false := fun o => oB.frozenAt o
      have y0 : X9.cell? ⟨g', n * 9, none⟩ = some (.int .i64 0) := hcB 0 (by omega)
      have y1 : X9.cell? ⟨g', n * 9 + 1, none⟩ = some (.int .i64 0) := hcB 1 (by omega)
      have y2 : X9.cell? ⟨g', n * 9 + 2, none⟩ = some (.complex .f64 0 0) := hcB 2 (by omega)
      have y3 : X9.cell? ⟨g', n * 9 + 3, none⟩ = some (.string e0) := hcB 3 (by omega)
      have y4 : X9.cell? ⟨g', n * 9 + 4, none⟩ = some (.int .i64 0) := hcB 4 (by omega)
      have y5 : X9.cell? ⟨g', n * 9 + 5, none⟩ = some (.int .u32 0) := hcB 5 (by omega)
      have y6 : X9.cell? ⟨g', n * 9 + 6, none⟩ = some (.int .u64 0) := hcB 6 (by omega)
      have y7 : X9.cell? ⟨g', n * 9 + 7, none⟩ = some nl := hcB 7 (by omega)
      have y8 : X9.cell? ⟨g', n * 9 + 8, none⟩ = some nl := hcB 8 (by omega)
      clear oB hcB
      try simp only [Act.put, List.setIfInBounds_toArray, List.set_cons_zero, List.set_cons_succ]
      refine wpAnyL_one (i := 9) (by kernel_rfl) rfl (fun K hK => ?_)
      go_simp
      have sc9 : T9 W.heap.size z a1 d1 a2 d2 (r9 X9 g' (n * 9) z a1 d1 a2 d2) := scB.gr R10.out.2 (fun e => hgN.out e.symm)
      show K _ (r9 X9 g' (n * 9) z a1 d1 a2 d2)
      generalize r9 X9 g' (n * 9) z a1 d1 a2 d2 = XA at sc9 HP3 HP4 HP6 ⊢
      refine hK.out _ _ (fun _ => sc9) ?_
      clear hK K y0 y1 y2 y3 y4 y5 y6 y7 y8 hfB hgB
      refine wpAnyL_done (by kernel_rfl) ?_ _
      refine NoPanic.normal ?_
      go_wp2_with fail
      exact bodyPost_end (v := .tuple #[]) (by simp [results, Try.results15, go_sem]) rfl ⟨⟨_, rfl⟩, HP3.out, hMX.out _ HP4.out, hNew.out _ HP6.out⟩
  · go_simp
    have g6 := Gr.alloc X1 (.cells #[.int .i64 0, .int .i64 0, .complex .f64 0 0, .string e0, .int .i64 0, .int .u32 0, .int .u64 0, nl, nl] 35) (fun _ => False)
    have sb : T9 W.heap.size z a1 d1 a2 d2 (X1.alloc (.cells #[.int .i64 0, .int .i64 0, .complex .f64 0 0, .string e0, .int .i64 0, .int .u32 0, .int .u64 0, nl, nl] 35)) := sa.gr g6 (fun e => e)
    have f1 : Hid ((X1.alloc (.cells #[.int .i64 0, .int .i64 0, .complex .f64 0 0, .string e0, .int .i64 0, .int .u32 0, .int .u64 0, nl, nl] 35)).heap[b]? = some (.cells #[.slice a n c, .int .i64 (p : Int)] 49 (0, 0))) := Lib.hid (g6.keep e1.out (fun e => e))
    have f2 : Hid ((X1.alloc (.cells #[.int .i64 0, .int .i64 0, .complex .f64 0 0, .string e0, .int .i64 0, .int .u32 0, .int .u64 0, nl, nl] 35)).ownsRow 0 35 9 (.slice a n c) n (vs.flatMap cellsOf)) := Lib.hid (ownsRow_gr e2.out g6 (fun _ _ e => e))
    have f3 : Hid (Gr (fun _ => False) W (X1.alloc (.cells #[.int .i64 0, .int .i64 0, .complex .f64 0 0, .string e0, .int .i64 0, .int .u32 0, .int .u64 0, nl, nl] 35))) := Lib.hid (e3.out.trans g6)
    have f4 : Hid ((X1.alloc (.cells #[.int .i64 0, .int .i64 0, .complex .f64 0 0, .string e0, .int .i64 0, .int .u32 0, .int .u64 0, nl, nl] 35)).heap[X1.heap.size]? = some (.cells #[.int .i64 0, .int .i64 0, .complex .f64 0 0, .string e0, .int .i64 0, .int .u32 0, .int .u64 0, nl, nl] 35 (0, 0))) := Lib.hid (heap_alloc_new X1 _)
    refine hK.out _ _ (fun _ => sb) ?_
    clear hK K g6 sa e1 e2 e3
    have HN6 : Hid (W.heap.size < X1.heap.size) := e4
    obtain ⟨N6, hN6⟩ : ∃ N6, X1.heap.size = N6 := ⟨_, rfl⟩
    rw [hN6] at f4 HN6 ⊢
    clear hN6
    generalize X1.alloc (.cells #[.int .i64 0, .int .i64 0, .complex .f64 0 0, .string e0, .int .i64 0, .int .u32 0, .int .u64 0, nl, nl] 35) = X6 at sb f1 f2 f3 f4 ⊢
    try simp only [Act.put, List.setIfInBounds_toArray, List.set_cons_zero, List.set_cons_succ]
    refine wpAnyL_one (i := 3) (by kernel_rfl) rfl (fun K hK => ?_)
    obtain ⟨⟨c0, c1⟩, cf⟩ := two_cells f1.out
    have hbl := (Array.getElem?_eq_some_iff.1 f1.out).1
    go_simp
    refine hK.out _ _ (fun _ => sb) ?_
    clear hK K c0 c1 cf hbl
    try simp only [Act.put, List.setIfInBounds_toArray, List.set_cons_zero, List.set_cons_succ]
    refine wpAnyN_at (i := 5) (v := (.int .i64 (n : Int))) (some 9) rfl rfl (by kernel_rfl) (by kernel_rfl) (by kernel_rfl) rfl (fun _ _ _ h => h) (Or.inl ⟨by rfl, ?_⟩) sb ?_
    · intro w hSw
      obtain ⟨q0, q1, q2, q3, q4, q5, q6, q7, q8⟩ := hSw
      go_simp
    try simp only [Act.put, List.setIfInBounds_toArray, List.set_cons_zero, List.set_cons_succ]
    refine wpAnyL_one (i := 7) (by kernel_rfl) rfl (fun K hK => ?_)
    refine step_term rfl (.tmp 7) (.tmp 10) rfl 0 n N6 (.slice a n c) (vs.flatMap cellsOf) rfl rfl f2.out _ f4.out rfl (by have := HL.out; omega) (Nat.zero_le _) ?_
    intro v' w7 o7 h7 hloc
    obtain ⟨g', c', rfl⟩ := row_form o7 (by omega)
    have hgN : Hid (g' ≠ W.heap.size) := Lib.hid (by
      rcases hloc with e | e
      · obtain ⟨cs, k⟩ := HR.out g' (by rw [← e]; rfl)
        have := (Array.getElem?_eq_some_iff.1 k).1; omega
      · simp [Value.ownBlock] at e
        have := f3.out.size
        have := (Array.getElem?_eq_some_iff.1 f4.out).1
        have := HN6.out
        omega)
    have g7 := Gr.of_grown (S := fun i => (Value.slice a n c).ownBlock = some i) h7 (fun k e => e)
    have hNS : ¬ (Value.slice a n c).ownBlock = some W.heap.size := fun e => by obtain ⟨cs, k⟩ := HR.out _ e; exact absurd (Array.getElem?_eq_some_iff.1 k).1 (Nat.lt_irrefl _)
    have hbS : ¬ (Value.slice a n c).ownBlock = some b := fun e => by
      obtain ⟨cs, k⟩ := HR.out _ e
      have := f3.out.keep k (fun e => e)
      rw [f1.out] at this
      cases this
    have sc := sb.gr g7 hNS
    have b7 : Hid (w7.heap[b]? = some (.cells #[.slice a n c, .int .i64 (p : Int)] 49 (0, 0))) := Lib.hid (g7.keep f1.out hbS)
    have G7 : Hid (Gr (fun i => (Value.slice a n c).ownBlock = some i) W w7) := Lib.hid ((f3.out.mono (fun _ _ e => e.elim)).trans g7)
    obtain ⟨⟨P1, P2, P5⟩, P3, P4, P6⟩ := put_fin (n := n) b7.out o7 K3.out Hn.out K4.out z a1 d1 a2 d2
    have hg7 := (row_cell o7 (q := n * 9) (u := .int .i64 0) (by rw [List.getElem?_append_right (by rw [K3.out.flen, Hn.out]; omega), K3.out.flen, Hn.out]; simp [cellsOf])).2.1
    have hc7 : ∀ q, q < 9 → w7.cell? ⟨g', n * 9 + q, none⟩ = (cellsOf zt)[q]? := fun q hq => by
      obtain ⟨u, hu⟩ : ∃ u, (cellsOf zt)[q]? = some u := ⟨_, List.getElem?_eq_getElem (show q < 9 from hq)⟩
      rw [hu]
      exact (row_cell o7 (q := n * 9 + q) (u := u) (by rw [List.getElem?_append_right (by rw [K3.out.flen, Hn.out]; omega), K3.out.flen, Hn.out, show n * 9 + q - n * 9 = q by omega]; exact hu)).1
    have hf7 : ∀ o, w7.frozen? ⟨g', o, none⟩ = false := fun o => o7.frozenAt o
    have hMx : ∀ X', Gr (fun i => i = b ∨ i = g') w7 X' → Gr (Mx W b) W X' := fun X' gX => by
      refine G7.out.mono (fun i hi e => HM.out i e) |>.trans' gX (fun i hi e => ?_)
      rcases e with rfl | rfl
      · exact .inl rfl
      · rcases hloc with e | e
        · exact HM.out i (by rw [← e]; rfl)
        · exfalso
          simp [Value.ownBlock] at e
          have := f3.out.size
          have := (Array.getElem?_eq_some_iff.1 f4.out).1
          have := HN6.out
          omega
    have hNew : Hid (∀ X' : World, X'.heap[b]? = some (Obj.cells #[.slice (some ⟨g', 0, none⟩) (n + 1) c', .int .i64 (p : Int)] 49 (0, 0)) → ∀ i, Mx X' b i → Mx W b i ∨ W.heap.size ≤ i) := Lib.hid (fun X' hX i hi => by
      rcases hi with e | ⟨v, u, e1, e2⟩
      · exact .inl (.inl e)
      · rw [hX] at e1
        cases e1
        simp [Value.ownBlock] at e2
        subst e2
        rcases hloc with e | e
        · exact .inl (HM.out _ (by rw [← e]; rfl))
        · right
          simp [Value.ownBlock] at e
          have := f3.out.size
          have := (Array.getElem?_eq_some_iff.1 f4.out).1
          have := HN6.out
          omega)
    have hcap : (n : Int) + 1 ≤ (c' : Int) := by
      rcases o7.2 with ⟨e', _⟩ | ⟨g2, cap, cur, e', _, k, k2, _⟩
      · cases e'
      · cases e'; omega
    have HP1 := Lib.hid P1
    have HP2 := Lib.hid P2
    have HP3 := Lib.hid P3
    have HP4 := Lib.hid P4
    have HP5 := Lib.hid P5
    have HP6 := Lib.hid P6
    refine hK.out _ _ (fun _ => sc) ?_
    clear hK K h7 g7 sb f1 f2 f3 f4 P1 P2 P3 P4 P5 P6 hNS hbS
    try simp only [Act.put, List.setIfInBounds_toArray, List.set_cons_zero, List.set_cons_succ]
    refine wpAnyN_at (i := 10) (v := pt b) (some 13) rfl rfl (by kernel_rfl) (by kernel_rfl) (by kernel_rfl) rfl (fun _ _ _ h => h) (Or.inl ⟨by rfl, ?_⟩) sc ?_
    · intro w hSw
      obtain ⟨q0, q1, q2, q3, q4, q5, q6, q7, q8⟩ := hSw
      go_simp
    try simp only [Act.put, List.setIfInBounds_toArray, List.set_cons_zero, List.set_cons_succ]
    refine wpAnyN_at (i := 11) (v := pt b) (some 14) rfl rfl (by kernel_rfl) (by kernel_rfl) (by kernel_rfl) rfl (fun _ _ _ h => h) (Or.inl ⟨by rfl, ?_⟩) sc ?_
    · intro w hSw
      obtain ⟨q0, q1, q2, q3, q4, q5, q6, q7, q8⟩ := hSw
      go_simp
    try simp only [Act.put, List.setIfInBounds_toArray, List.set_cons_zero, List.set_cons_succ]
    have y0 : w7.cell? ⟨g', n * 9, none⟩ = some (.int .i64 0) := hc7 0 (by omega)
    have y1 : w7.cell? ⟨g', n * 9 + 1, none⟩ = some (.int .i64 0) := hc7 1 (by omega)
    have y2 : w7.cell? ⟨g', n * 9 + 2, none⟩ = some (.complex .f64 0 0) := hc7 2 (by omega)
    have y3 : w7.cell? ⟨g', n * 9 + 3, none⟩ = some (.string e0) := hc7 3 (by omega)
    have y4 : w7.cell? ⟨g', n * 9 + 4, none⟩ = some (.int .i64 0) := hc7 4 (by omega)
    have y5 : w7.cell? ⟨g', n * 9 + 5, none⟩ = some (.int .u32 0) := hc7 5 (by omega)
    have y6 : w7.cell? ⟨g', n * 9 + 6, none⟩ = some (.int .u64 0) := hc7 6 (by omega)
    have y7 : w7.cell? ⟨g', n * 9 + 7, none⟩ = some nl := hc7 7 (by omega)
    have y8 : w7.cell? ⟨g', n * 9 + 8, none⟩ = some nl := hc7 8 (by omega)
    obtain ⟨⟨c0, c1⟩, cf⟩ := two_cells b7.out
    have hbl := (Array.getElem?_eq_some_iff.1 b7.out).1
    have hnn : decide (n < n + 1) = true := by simp
    refine wpAnyN_at (i := 8) (v := (.pointer (some ⟨g', n * 9, none⟩))) (some 12) rfl rfl (by kernel_rfl) (by kernel_rfl) (by kernel_rfl) rfl (fun _ _ _ h => h) (Or.inl ⟨by rfl, ?_⟩) sc ?_
    · intro w hSw
      obtain ⟨q0, q1, q2, q3, q4, q5, q6, q7, q8⟩ := hSw
      go_simp
    try simp only [Act.put, List.setIfInBounds_toArray, List.set_cons_zero, List.set_cons_succ]
    have R9 := Lib.hid (r9_row o7 (by rw [K3.out.flen, Hn.out]) z a1 d1 a2 d2)
    have hbg : Hid (b ≠ g') := Lib.hid (by
      rintro rfl
      rcases o7.2 with ⟨e', _⟩ | ⟨g2, cap, cur, e', _, k, _⟩
      · cases e'
      · cases e'; rw [b7.out] at k; cases k)
    have gb : Hid (Gr (fun i => i = b) w7 (w7.setCell ⟨b, 0, none⟩ (.slice (some ⟨g', 0, none⟩) (n + 1) c'))) := Lib.hid (Gr.set _ _ _ rfl)
    have O7 := Lib.hid o7
    have hbN : Hid (b ≠ W.heap.size) := Lib.hid (by have := HB.out; omega)
    have hMX := Lib.hid hMx
    clear o7 hMx hc7
    refine wpAnyL_two (i := 9) (j := 12) (by kernel_rfl) rfl rfl (fun K hK => ?_) (fun K hK => ?_)
    · clear c0 c1 cf hbl
      go_simp
      clear y0 y1 y2 y3 y4 y5 y6 y7 y8 hf7 hg7
      have sc9 : T9 W.heap.size z a1 d1 a2 d2 (r9 w7 g' (n * 9) z a1 d1 a2 d2) := sc.gr R9.out.2 (fun e => hgN.out e.symm)
      show K _ (r9 w7 g' (n * 9) z a1 d1 a2 d2)
      have b9 : (r9 w7 g' (n * 9) z a1 d1 a2 d2).heap[b]? = some (.cells #[.slice a n c, .int .i64 (p : Int)] 49 (0, 0)) := R9.out.2.keep b7.out (fun e => hbg.out e)
      have gb9 : Hid (Gr (fun i => i = b) (r9 w7 g' (n * 9) z a1 d1 a2 d2) ((r9 w7 g' (n * 9) z a1 d1 a2 d2).setCell ⟨b, 0, none⟩ (.slice (some ⟨g', 0, none⟩) (n + 1) c'))) := Lib.hid (Gr.set _ _ _ rfl)
      generalize r9 w7 g' (n * 9) z a1 d1 a2 d2 = X9 at b9 HP1 HP2 HP5 gb9 sc9 ⊢
      refine hK.out _ _ (fun _ => sc9) ?_
      clear hK K sc
      try simp only [Act.put, List.setIfInBounds_toArray, List.set_cons_zero, List.set_cons_succ]
      refine wpAnyL_one (i := 12) (by kernel_rfl) rfl (fun K hK => ?_)
      obtain ⟨⟨c0, c1⟩, cf⟩ := two_cells b9
      have hbl := (Array.getElem?_eq_some_iff.1 b9).1
      go_simp
      have scA := sc9.gr gb9.out (fun e => hbN.out e.symm)
      refine hK.out _ _ (fun _ => scA) ?_
      clear hK K
      refine wpAnyL_done (by kernel_rfl) ?_ _
      refine NoPanic.normal ?_
      go_wp2_with fail
      exact bodyPost_end (v := .tuple #[]) (by simp [results, Try.results15, go_sem]) rfl ⟨⟨_, rfl⟩, HP1.out, hMX.out _ HP2.out, hNew.out _ HP5.out⟩
    · clear y0 y1 y2 y3 y4 y5 y6 y7 y8 hf7
      go_simp
      have scB := sc.gr gb.out (fun e => hbN.out e.symm)
      have oB := ownsRow_of_block (W' := w7.setCell ⟨b, 0, none⟩ (.slice (some ⟨g', 0, none⟩) (n + 1) c')) O7.out (fun k _ e => gb.out.block k (ownsRow_lt O7.out k e).2 (fun e' => by simp [Value.ownBlock] at e; have := hbg.out; omega))
      generalize w7.setCell ⟨b, 0, none⟩ (.slice (some ⟨g', 0, none⟩) (n + 1) c') = X9 at scB oB HP3 HP4 HP6 ⊢
      refine hK.out _ _ (fun _ => scB) ?_
      clear hK K c0 c1 cf hbl sc
      have R10 := Lib.hid (r9_row oB (by rw [K3.out.flen, Hn.out]) z a1 d1 a2 d2)
      have hgB := (row_cell oB (q := n * 9) (u := .int .i64 0) (by rw [List.getElem?_append_right (by rw [K3.out.flen, Hn.out]; omega), K3.out.flen, Hn.out]; simp [cellsOf])).2.1
      have hcB : ∀ q, q < 9 → X9.cell? ⟨g', n * 9 + q, none⟩ = (cellsOf zt)[q]? := fun q hq => by
        obtain ⟨u, hu⟩ : ∃ u, (cellsOf zt)[q]? = some u := ⟨_, List.getElem?_eq_getElem (show q < 9 from hq)⟩
        rw [hu]
        exact (row_cell oB (q := n * 9 + q) (u := u) (by rw [List.getElem?_append_right (by rw [K3.out.flen, Hn.out]; omega), K3.out.flen, Hn.out, show n * 9 + q - n * 9 = q by omega]; exact hu)).1
      have hfB : ∀ o, X9.frozen? ⟨g', o, none⟩ = false := fun o => oB.frozenAt o
      have y0 : X9.cell? ⟨g', n * 9, none⟩ = some (.int .i64 0) := hcB 0 (by omega)
      have y1 : X9.cell? ⟨g', n * 9 + 1, none⟩ = some (.int .i64 0) := hcB 1 (by omega)
      have y2 : X9.cell? ⟨g', n * 9 + 2, none⟩ = some (.complex .f64 0 0) := hcB 2 (by omega)
      have y3 : X9.cell? ⟨g', n * 9 + 3, none⟩ = some (.string e0) := hcB 3 (by omega)
      have y4 : X9.cell? ⟨g', n * 9 + 4, none⟩ = some (.int .i64 0) := hcB 4 (by omega)
      have y5 : X9.cell? ⟨g', n * 9 + 5, none⟩ = some (.int .u32 0) := hcB 5 (by omega)
      have y6 : X9.cell? ⟨g', n * 9 + 6, none⟩ = some (.int .u64 0) := hcB 6 (by omega)
      have y7 : X9.cell? ⟨g', n * 9 + 7, none⟩ = some nl := hcB 7 (by omega)
      have y8 : X9.cell? ⟨g', n * 9 + 8, none⟩ = some nl := hcB 8 (by omega)
      clear oB hcB
      try simp only [Act.put, List.setIfInBounds_toArray, List.set_cons_zero, List.set_cons_succ]
      refine wpAnyL_one (i := 9) (by kernel_rfl) rfl (fun K hK => ?_)
      go_simp
      have sc9 : T9 W.heap.size z a1 d1 a2 d2 (r9 X9 g' (n * 9) z a1 d1 a2 d2) := scB.gr R10.out.2 (fun e => hgN.out e.symm)
      show K _ (r9 X9 g' (n * 9) z a1 d1 a2 d2)
      generalize r9 X9 g' (n * 9) z a1 d1 a2 d2 = XA at sc9 HP3 HP4 HP6 ⊢
      refine hK.out _ _ (fun _ => sc9) ?_
      clear hK K y0 y1 y2 y3 y4 y5 y6 y7 y8 hfB hgB
      refine wpAnyL_done (by kernel_rfl) ?_ _
      refine NoPanic.normal ?_
      go_wp2_with fail
      exact bodyPost_end (v := .tuple #[]) (by simp [results, Try.results15, go_sem]) rfl ⟨⟨_, rfl⟩, HP3.out, hMX.out _ HP4.out, hNew.out _ HP6.out⟩
end Go.Proofs.Yticgnaikbmnagaa
