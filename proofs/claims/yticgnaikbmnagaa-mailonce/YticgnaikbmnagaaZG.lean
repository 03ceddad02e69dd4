/-
  The queue's take.
-/
import Derived.Test.YticgnaikbmnagaaZF
set_option linter.unusedVariables false
set_option linter.unusedSimpArgs false
namespace Go.Proofs.Yticgnaikbmnagaa
open Go.RowKit Go.Maps
attribute [local go_sem] Oper.semAt_some
variable {S S' : Nat → Prop} {W W1 W' : World}
theorem erase_len {l : List Int} {p : Nat} (h : p < l.length) : (l.eraseIdx p).length = l.length - 1 := by rw [List.length_eraseIdx]; simp [h]
theorem gr9 (W' : World) (g : Nat) (z : Int) (a1 : Option Addr) (c1 : Nat) (a2 : Option Addr) (c2 : Nat) : Gr (fun k => k = g) W' (((((((((W'.setCell ⟨g, 0, none⟩ (.int .i64 1)).setCell ⟨g, 1, none⟩ (.int .i64 z)).setCell ⟨g, 2, none⟩ (.complex .f64 0 0)).setCell ⟨g, 3, none⟩ (.string e0)).setCell ⟨g, 4, none⟩ (.int .i64 0)).setCell ⟨g, 5, none⟩ (.int .u32 0)).setCell ⟨g, 6, none⟩ (.int .u64 0)).setCell ⟨g, 7, none⟩ (.slice a1 0 c1)).setCell ⟨g, 8, none⟩ (.slice a2 0 c2)) :=
  ((((((((Gr.set (S := fun i => i = g) _ _ _ rfl).trans (Gr.set _ _ _ rfl)).trans (Gr.set _ _ _ rfl)).trans (Gr.set _ _ _ rfl)).trans (Gr.set _ _ _ rfl)).trans (Gr.set _ _ _ rfl)).trans (Gr.set _ _ _ rfl)).trans (Gr.set _ _ _ rfl)).trans (Gr.set _ _ _ rfl)
/-- What the region reads. -/
abbrev T2 (b p : Nat) (v : Value) (w : World) : Prop := w.cell? ⟨b, 0, none⟩ = some v ∧ w.cell? ⟨b, 1, none⟩ = some (.int .i64 (p : Int))
set_option maxRecDepth 20000 in
set_option maxHeartbeats 3200000 in
theorem qtake_some (W : World) (b : Nat) (l : List Int) (p : Nat) (z : Int) (h : Mb W b l p) (hl : l.length ≤ 1000) (hz : l[p]? = some z) : Calls Try.prog 18 #[pt b] W fun e w' => (∃ a1 c1 a2 c2, e = .returned (.tuple #[iv z a1 c1 a2 c2, .bool true])) ∧ Mb w' b (l.eraseIdx p) 0 ∧ Gr (Mx W b) W w' ∧ ∀ i, Mx w' b i → Mx W b i := by
  have hf := Lib.hid (fun w (g : Gr (fun _ => False) W w) => first_some w b l p z (h.g0 g) hl hz)
  have hp := (List.getElem?_eq_some_iff.1 hz).1
  obtain ⟨g, c, vs, cur, r1, r2, r3, r4, r5, r6, r7, r8⟩ := h.row (by omega)
  have hdel := Lib.hid (fun w (k : w.heap[g]? = some (.cells cur 35 (0, 0))) => del_c w g l.length c p cur (vs.flatMap cellsOf) k r3 r4 r5 r6 (by rw [r7.flen]) r7.onec hp hl)
  have hE := Lib.hid (r7.erase p hp)
  have hel := Lib.hid (erase_len hp)
  have R1 := Lib.hid r1
  have R2 := Lib.hid r2
  have R3 := Lib.hid r3
  have R4 := Lib.hid r4
  have HP := Lib.hid hp
  have HL := Lib.hid hl
  have HF := Lib.hid r7.flen
  have h0 := Lib.hid (heap_alloc_new W oz9)
  have G0 := Lib.hid (Gr.alloc W oz9 (fun _ => False))
  have hpI : (p : Int) < 1000 := by omega
  have hp0 : (0 : Int) ≤ (p : Int) := by omega
  clear h hz r1 r2 r3 r4 r5 r6 r7 r8 hp hl
  go_enter Try.func18, Try.ntmps18
  go_wp2_with fail
  generalize World.alloc W oz9 = X0 at h0 G0 ⊢
  refine (hf.out _ G0.out).mono ?_
  rintro e w1 ⟨⟨a1, d1, a2, d2, rfl⟩, g1⟩
  have ga := Gr.alloc w1 (.cells #[.int .i64 1, .int .i64 z, .complex .f64 0 0, .string e0, .int .i64 0, .int .u32 0, .int .u64 0, .slice a1 0 d1, .slice a2 0 d2] 35) (fun _ => False)
  have x4 := Lib.hid (heap_alloc_new w1 (.cells #[.int .i64 1, .int .i64 z, .complex .f64 0 0, .string e0, .int .i64 0, .int .u32 0, .int .u64 0, .slice a1 0 d1, .slice a2 0 d2] 35))
  have GX := Lib.hid ((G0.out.trans g1).trans ga)
  have h2 := Lib.hid ((g1.trans ga).keep h0.out (fun e => e))
  have hN : Hid (W.heap.size < w1.heap.size) := Lib.hid (by have := g1.size; have := (Array.getElem?_eq_some_iff.1 h0.out).1; omega)
  clear hf g1 ga h0 G0
  go_wp2_with fail
  generalize World.alloc w1 _ = X1 at x4 GX h2 ⊢
  have B1 := Lib.hid (GX.out.keep R1.out (fun e => e))
  obtain ⟨⟨c0, c1⟩, cf⟩ := two_cells ((Gr.drew X1 (fun _ => False)).keep B1.out (fun e => e))
  have hb := (Array.getElem?_eq_some_iff.1 B1.out).1
  have sa : T2 b p (.slice (some ⟨g, 0, none⟩) l.length c) X1.drew := ⟨c0, c1⟩
  refine wp_region_L (L := 17) (T := T2 b p (.slice (some ⟨g, 0, none⟩) l.length c)) (by kernel_rfl) ?_
  clear c0 c1
  refine wpAnyL_at (i := 0) (v := pt b) (some 12) rfl rfl (by kernel_rfl) (by kernel_rfl) (by kernel_rfl) (by kernel_rfl) (by decide) (fun _ _ _ h => h) (Or.inl ⟨by rfl, ?_⟩) sa ?_
  · intro w hSw
    obtain ⟨q0, q1⟩ := hSw
    go_simp
  try simp only [Act.put, List.setIfInBounds_toArray, List.set_cons_zero, List.set_cons_succ]
  refine wpAnyL_at (i := 1) (v := pt b) (some 13) rfl rfl (by kernel_rfl) (by kernel_rfl) (by kernel_rfl) (by kernel_rfl) (by decide) (fun _ _ _ h => h) (Or.inl ⟨by rfl, ?_⟩) sa ?_
  · intro w hSw
    obtain ⟨q0, q1⟩ := hSw
    go_simp
  try simp only [Act.put, List.setIfInBounds_toArray, List.set_cons_zero, List.set_cons_succ]
  refine wpAnyL_at (i := 2) (v := pt b) (some 14) rfl rfl (by kernel_rfl) (by kernel_rfl) (by kernel_rfl) (by kernel_rfl) (by decide) (fun _ _ _ h => h) (Or.inl ⟨by rfl, ?_⟩) sa ?_
  · intro w hSw
    obtain ⟨q0, q1⟩ := hSw
    go_simp
  try simp only [Act.put, List.setIfInBounds_toArray, List.set_cons_zero, List.set_cons_succ]
  refine wpAnyL_at (i := 3) (v := pt b) (some 15) rfl rfl (by kernel_rfl) (by kernel_rfl) (by kernel_rfl) (by kernel_rfl) (by decide) (fun _ _ _ h => h) (Or.inl ⟨by rfl, ?_⟩) sa ?_
  · intro w hSw
    obtain ⟨q0, q1⟩ := hSw
    go_simp
  try simp only [Act.put, List.setIfInBounds_toArray, List.set_cons_zero, List.set_cons_succ]
  refine wpAnyL_at (i := 4) (v := (.slice (some ⟨g, 0, none⟩) l.length c)) (some 16) rfl rfl (by kernel_rfl) (by kernel_rfl) (by kernel_rfl) (by kernel_rfl) (by decide) (fun _ _ _ h => h) (Or.inl ⟨by rfl, ?_⟩) sa ?_
  · intro w hSw
    obtain ⟨q0, q1⟩ := hSw
    go_simp
  try simp only [Act.put, List.setIfInBounds_toArray, List.set_cons_zero, List.set_cons_succ]
  refine wpAnyL_at (i := 5) (v := pt b) (some 17) rfl rfl (by kernel_rfl) (by kernel_rfl) (by kernel_rfl) (by kernel_rfl) (by decide) (fun _ _ _ h => h) (Or.inl ⟨by rfl, ?_⟩) sa ?_
  · intro w hSw
    obtain ⟨q0, q1⟩ := hSw
    go_simp
  try simp only [Act.put, List.setIfInBounds_toArray, List.set_cons_zero, List.set_cons_succ]
  refine wpAnyL_at (i := 6) (v := pt b) (some 18) rfl rfl (by kernel_rfl) (by kernel_rfl) (by kernel_rfl) (by kernel_rfl) (by decide) (fun _ _ _ h => h) (Or.inl ⟨by rfl, ?_⟩) sa ?_
  · intro w hSw
    obtain ⟨q0, q1⟩ := hSw
    go_simp
  try simp only [Act.put, List.setIfInBounds_toArray, List.set_cons_zero, List.set_cons_succ]
  refine wpAnyL_at (i := 7) (v := ptr b 1) (some 19) rfl rfl (by kernel_rfl) (by kernel_rfl) (by kernel_rfl) (by kernel_rfl) (by decide) (fun _ _ _ h => h) (Or.inl ⟨by rfl, ?_⟩) sa ?_
  · intro w hSw
    obtain ⟨q0, q1⟩ := hSw
    go_simp
  try simp only [Act.put, List.setIfInBounds_toArray, List.set_cons_zero, List.set_cons_succ]
  refine wpAnyL_at (i := 8) (v := (.int .i64 (p : Int))) (some 20) rfl rfl (by kernel_rfl) (by kernel_rfl) (by kernel_rfl) (by kernel_rfl) (by decide) (fun _ _ _ h => h) (Or.inl ⟨by rfl, ?_⟩) sa ?_
  · intro w hSw
    obtain ⟨q0, q1⟩ := hSw
    go_simp
  try simp only [Act.put, List.setIfInBounds_toArray, List.set_cons_zero, List.set_cons_succ]
  refine wpAnyL_at (i := 9) (v := pt b) (some 21) rfl rfl (by kernel_rfl) (by kernel_rfl) (by kernel_rfl) (by kernel_rfl) (by decide) (fun _ _ _ h => h) (Or.inl ⟨by rfl, ?_⟩) sa ?_
  · intro w hSw
    obtain ⟨q0, q1⟩ := hSw
    go_simp
  try simp only [Act.put, List.setIfInBounds_toArray, List.set_cons_zero, List.set_cons_succ]
  refine wpAnyL_at (i := 10) (v := pt b) (some 22) rfl rfl (by kernel_rfl) (by kernel_rfl) (by kernel_rfl) (by kernel_rfl) (by decide) (fun _ _ _ h => h) (Or.inl ⟨by rfl, ?_⟩) sa ?_
  · intro w hSw
    obtain ⟨q0, q1⟩ := hSw
    go_simp
  try simp only [Act.put, List.setIfInBounds_toArray, List.set_cons_zero, List.set_cons_succ]
  refine wpAnyL_at (i := 11) (v := ptr b 1) (some 23) rfl rfl (by kernel_rfl) (by kernel_rfl) (by kernel_rfl) (by kernel_rfl) (by decide) (fun _ _ _ h => h) (Or.inl ⟨by rfl, ?_⟩) sa ?_
  · intro w hSw
    obtain ⟨q0, q1⟩ := hSw
    go_simp
  try simp only [Act.put, List.setIfInBounds_toArray, List.set_cons_zero, List.set_cons_succ]
  refine wpAnyL_at (i := 12) (v := (.int .i64 (p : Int))) (some 24) rfl rfl (by kernel_rfl) (by kernel_rfl) (by kernel_rfl) (by kernel_rfl) (by decide) (fun _ _ _ h => h) (Or.inl ⟨by rfl, ?_⟩) sa ?_
  · intro w hSw
    obtain ⟨q0, q1⟩ := hSw
    go_simp
  try simp only [Act.put, List.setIfInBounds_toArray, List.set_cons_zero, List.set_cons_succ]
  refine wpAnyL_at (i := 13) (v := (.int .i64 ((p : Int) + 1))) (some 25) rfl rfl (by kernel_rfl) (by kernel_rfl) (by kernel_rfl) (by kernel_rfl) (by decide) (fun _ _ _ h => h) (Or.inl ⟨by rfl, ?_⟩) sa ?_
  · intro w hSw
    obtain ⟨q0, q1⟩ := hSw
    go_simp
    try (first | rfl | (rw [IntKind.wrap_i64]; omega))
  try simp only [Act.put, List.setIfInBounds_toArray, List.set_cons_zero, List.set_cons_succ]
  refine wpAnyL_one (i := 14) (by kernel_rfl) rfl (fun K hK => ?_)
  go_simp
  have gd := Gr.drew X1 (fun _ => False)
  refine (hdel.out _ ((GX.out.trans gd).keep R2.out (fun e => e))).mono ?_
  rintro e w2 ⟨rfl, ⟨cur', k1, k2, k3⟩, g2⟩
  have gw2 : Gr (fun k => k = g) X1 w2 := (gd.mono (fun _ _ e => e.elim)).trans g2
  have hbg : Hid (b ≠ g) := Lib.hid (by
    rintro rfl
    have := R1.out.symm.trans R2.out
    cases this)
  have B2 := gw2.keep B1.out (fun e => hbg.out e)
  have x5 := Lib.hid (gw2.keep x4.out (fun e => by have := hN.out; have := (Array.getElem?_eq_some_iff.1 R2.out).1; omega))
  have h3 := Lib.hid (gw2.keep h2.out (fun e => by have := (Array.getElem?_eq_some_iff.1 R2.out).1; omega))
  have G2 : Hid (Gr (fun k => k = g) W w2) := Lib.hid ((GX.out.mono (fun _ _ e => e.elim)).trans gw2)
  have Gb : Hid (Gr (fun i => i = b) w2 (w2.setCell ⟨b, 0, none⟩ (.slice (some ⟨g, 0, none⟩) (l.length - 1) c))) := Lib.hid (Gr.set _ _ _ rfl)
  have M3 : Hid (Mb (w2.setCell ⟨b, 0, none⟩ (.slice (some ⟨g, 0, none⟩) (l.length - 1) c)) b (l.eraseIdx p) p) := Lib.hid (by
    refine ⟨⟨_, vs.eraseIdx p, set_first B2 _, ?_, hE.out.1⟩, by rw [hel.out]; have := HP.out; omega⟩
    rw [hel.out]
    refine ⟨?_, .inr ⟨g, c, cur', rfl, Nat.zero_le _, Gb.out.keep k1 (fun e => hbg.out e.symm), by have := R3.out; omega, R4.out, k2, ?_⟩⟩
    · rw [hE.out.1.flen, hel.out]
    · rw [k3, hE.out.2])
  have HB3 : Hid ((w2.setCell ⟨b, 0, none⟩ (.slice (some ⟨g, 0, none⟩) (l.length - 1) c)).heap[b]? = some (.cells #[.slice (some ⟨g, 0, none⟩) (l.length - 1) c, .int .i64 (p : Int)] 49 (0, 0))) := Lib.hid (set_first B2 _)
  have HO3 : Hid ((w2.setCell ⟨b, 0, none⟩ (.slice (some ⟨g, 0, none⟩) (l.length - 1) c)).ownsRow 0 35 9 (.slice (some ⟨g, 0, none⟩) (l.length - 1) c) (l.length - 1) ((vs.eraseIdx p).flatMap cellsOf)) := Lib.hid (by
    refine ⟨?_, .inr ⟨g, c, cur', rfl, Nat.zero_le _, Gb.out.keep k1 (fun e => hbg.out e.symm), by have := R3.out; omega, R4.out, k2, ?_⟩⟩
    · rw [hE.out.1.flen, hel.out]
    · rw [k3, hE.out.2])
  obtain ⟨⟨c0, c1⟩, cf'⟩ := two_cells B2
  have hb2 := (Array.getElem?_eq_some_iff.1 B2).1
  have sa2 : T2 b p (.slice (some ⟨g, 0, none⟩) l.length c) w2 := ⟨c0, c1⟩
  refine hK.out _ _ (fun _ => sa2) ?_
  clear hK K sa gd g2 gw2 k1 k2 k3 cf hb B1 x4 h2 GX
  try simp only [Act.put, List.setIfInBounds_toArray, List.set_cons_zero, List.set_cons_succ]
  refine wpAnyL_one (i := 15) (by kernel_rfl) rfl (fun K hK => ?_)
  go_simp
  refine hK.out _ _ (fun _ => sa2) ?_
  clear hK K
  try simp only [Act.put, List.setIfInBounds_toArray, List.set_cons_zero, List.set_cons_succ]
  refine wpAnyL_one (i := 16) (by kernel_rfl) rfl (fun K hK => ?_)
  go_simp
  refine hK.out _ _ (fun _ => sa2) ?_
  clear hK K
  try simp only [Act.put, List.setIfInBounds_toArray, List.set_cons_zero, List.set_cons_succ]
  refine wpAnyL_one (i := 17) (by kernel_rfl) rfl (fun K hK => ?_)
  go_simp
  have x6 := Lib.hid (Gb.out.keep x5.out (fun e => by have := hN.out; have := (Array.getElem?_eq_some_iff.1 R1.out).1; omega))
  have h4 := Lib.hid (Gb.out.keep h3.out (fun e => by have := (Array.getElem?_eq_some_iff.1 R1.out).1; omega))
  have G3 : Hid (Gr (fun i => i = b ∨ i = g) W (w2.setCell ⟨b, 0, none⟩ (.slice (some ⟨g, 0, none⟩) (l.length - 1) c))) := Lib.hid ((G2.out.mono (fun _ _ e => .inr e)).trans (Gb.out.mono (fun _ _ e => .inl e)))
  generalize w2.setCell ⟨b, 0, none⟩ (.slice (some ⟨g, 0, none⟩) (l.length - 1) c) = X3 at M3 HB3 HO3 x6 h4 G3 ⊢
  refine hK.out _ _ (fun h => absurd rfl h) ?_
  clear hK K sa2 c0 c1 cf' hb2 B2 x5 h3 G2 Gb
  try simp only [Act.put, List.setIfInBounds_toArray, List.set_cons_zero, List.set_cons_succ]
  refine wpAnyL_done (by kernel_rfl) ?_ _
  refine NoPanic.normal ?_
  go_wp2_with fail
  refine (qagain_c _ _ _ _ M3.out).mono ?_
  rintro e w4 ⟨⟨v4, rfl⟩, M4, g4, -, hv4⟩
  have HB4 := Lib.hid (hv4 _ HB3.out)
  have HO4 := Lib.hid (ownsRow_of_block (W' := w4) HO3.out (fun k _ e => g4.block k (ownsRow_lt HO3.out k e).2 (fun e' => by simp [Value.ownBlock] at e; have := hbg.out; omega)))
  have hg4 : Hid (g < W.heap.size) := Lib.hid (Array.getElem?_eq_some_iff.1 R2.out).1
  have x7 := g4.keep x6.out (fun e => by have := hN.out; have := (Array.getElem?_eq_some_iff.1 R1.out).1; omega)
  have h5 := g4.keep h4.out (fun e => by have := (Array.getElem?_eq_some_iff.1 R1.out).1; omega)
  have G4 : Hid (Gr (fun i => i = b ∨ i = g) W w4) := Lib.hid (G3.out.trans (g4.mono (fun _ _ e => .inl e)))
  obtain ⟨⟨t0, t1, t2, t3, t4, t5, t6, t7, t8⟩, tf⟩ := nine x7
  obtain ⟨⟨u0, u1, u2, u3, u4, u5, u6, u7, u8⟩, uf⟩ := nine h5
  have lt := (Array.getElem?_eq_some_iff.1 x7).1
  have lu := (Array.getElem?_eq_some_iff.1 h5).1
  have M4' := Lib.hid M4
  have hbW : Hid (b < W.heap.size) := Lib.hid (Array.getElem?_eq_some_iff.1 R1.out).1
  have hR2 : Hid (Mx W b g) := Lib.hid (.inr ⟨_, _, R1.out, rfl⟩)
  have HE := Lib.hid hE.out.1
  clear M3 x6 h4 g4 M4 G3 R1 R2 hE hdel HP HF HB3 HO3 hv4
  go_wp2_with fail
  refine bodyPost_ret (v := .tuple #[iv z a1 d1 a2 d2, .bool true]) (by simp [results, Try.results18, go_sem, u0, u1, u2, u3, u4, u5, u6, u7, u8, lu]) rfl ⟨⟨_, _, _, _, rfl⟩, ?_, ?_, fun i hi => ?_⟩
  · have G9 := gr9 w4 W.heap.size z a1 d1 a2 d2
    refine ⟨⟨_, _, G9.keep HB4.out (fun e => by have := hbW.out; omega), ?_, HE.out⟩, Nat.zero_le _⟩
    rw [hel.out]
    exact ownsRow_of_block HO4.out (fun k _ e => G9.block k (ownsRow_lt HO4.out k e).2 (fun e' => by simp [Value.ownBlock] at e; have := hg4.out; omega))
  · refine (G4.out.set9 (g := W.heap.size) (Nat.le_refl _) _ _ _ _ _ _ _ _ _).mono (fun i hi e => ?_)
    rcases e with rfl | rfl
    · exact .inl rfl
    · exact hR2.out
  · rcases hi with rfl | ⟨v, u, e1, e2⟩
    · exact .inl rfl
    · have G9 := gr9 w4 W.heap.size z a1 d1 a2 d2
      have := (G9.keep HB4.out (fun e => by have := hbW.out; omega)).symm.trans e1
      cases this
      simp [Value.ownBlock] at e2
      subst e2
      exact hR2.out
end Go.Proofs.Yticgnaikbmnagaa
