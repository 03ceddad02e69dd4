/-
  The box's Put, Take, Peek.
-/
import Derived.Test.YticgnaikbmnagaaZG
set_option linter.unusedVariables false
set_option linter.unusedSimpArgs false
namespace Go.Proofs.Yticgnaikbmnagaa
open Go.RowKit Go.Maps
attribute [local go_sem] Oper.semAt_some
variable {S S' : Nat → Prop} {W W1 W' : World}
abbrev ob (z : Int) (a1 : Option Addr) (c1 : Nat) (a2 : Option Addr) (c2 : Nat) : Obj := .cells #[.int .i64 1, .int .i64 z, .complex .f64 0 0, .string e0, .int .i64 0, .int .u32 0, .int .u64 0, .slice a1 0 c1, .slice a2 0 c2] 35
theorem check_i (z : Int) (hz : inR z = true) (W : World) (a1 : Option Addr) (c1 : Nat) (a2 : Option Addr) (c2 : Nat) : Calls Try.prog 14 #[iv z a1 c1 a2 c2] W fun e w' => e = .returned (.int .i64 0) ∧ Gr (fun _ => False) W w' := checkL { k := 1, n := z } (ok_int z hz) W a1 c1 a2 c2
theorem copy_i (z : Int) (hz : inR z = true) (W : World) (a1 : Option Addr) (c1 : Nat) (a2 : Option Addr) (c2 : Nat) : Calls Try.prog 16 #[iv z a1 c1 a2 c2] W fun e w' => (∃ b1 d1 b2 d2, e = .returned (iv z b1 d1 b2 d2)) ∧ Gr (fun _ => False) W w' := copyL { k := 1, n := z } (ok_int z hz) (by show (0 : Nat) ≤ 32; omega) W a1 c1 a2 c2
set_option maxRecDepth 20000 in
set_option maxHeartbeats 1600000 in
theorem qtake_none (W : World) (b : Nat) (l : List Int) (h : Mb W b l l.length) (hl : l.length ≤ 1000) : Calls Try.prog 18 #[pt b] W fun e w' => e = .returned (.tuple #[zt, .bool false]) ∧ Gr (fun _ => False) W w' := by
  have hf := Lib.hid (fun w (g : Gr (fun _ => False) W w) => first_none w b l (h.g0 g) hl)
  have h0 := Lib.hid (heap_alloc_new W oz9)
  have G0 := Lib.hid (Gr.alloc W oz9 (fun _ => False))
  clear h hl
  go_enter Try.func18, Try.ntmps18
  go_wp2_with fail
  generalize World.alloc W oz9 = X0 at h0 G0 ⊢
  refine (hf.out _ G0.out).mono ?_
  rintro e w1 ⟨rfl, g1⟩
  have h2 := Lib.hid (g1.keep h0.out (fun e => e))
  have GX := Lib.hid (G0.out.trans g1)
  clear hf g1 h0 G0
  obtain ⟨⟨u0, u1, u2, u3, u4, u5, u6, u7, u8⟩, uf⟩ := nine h2.out
  have lu := (Array.getElem?_eq_some_iff.1 h2.out).1
  go_wp2_with fail
  refine bodyPost_ret (v := .tuple #[zt, .bool false]) (by simp [results, Try.results18, go_sem, u0, u1, u2, u3, u4, u5, u6, u7, u8, lu]) rfl ⟨rfl, ?_⟩
  exact (GX.out.set9 (g := W.heap.size) (Nat.le_refl _) _ _ _ _ _ _ _ _ _).trans (Gr.alloc _ _ _)
set_option maxRecDepth 20000 in
set_option maxHeartbeats 1600000 in
theorem put_c (W : World) (b : Nat) (l : List Int) (p : Nat) (h : Mb W b l p) (hl : l.length ≤ 255) (z : Int) (hz : inR z = true) (a1 : Option Addr) (d1 : Nat) (a2 : Option Addr) (d2 : Nat) : Calls Try.prog 6 #[pt b, iv z a1 d1 a2 d2] W fun e w' => e = .returned (.int .i64 0) ∧ Mb w' b (l ++ [z]) p ∧ Gr (Mx W b) W w' ∧ ∀ i, Mx w' b i → Mx W b i ∨ W.heap.size ≤ i := by
  have hc := Lib.hid (fun w => check_i z hz w a1 d1 a2 d2)
  have hcp := Lib.hid (fun w => copy_i z hz w a1 d1 a2 d2)
  have H := Lib.hid h
  have h0 := Lib.hid (heap_alloc_new W (ob z a1 d1 a2 d2))
  have G0 := Lib.hid (Gr.alloc W (ob z a1 d1 a2 d2) (fun _ => False))
  have HL := Lib.hid hl
  have hlI : (l.length : Int) < 256 := by omega
  clear h hl hz
  go_enter Try.func6, Try.ntmps6
  go_wp2_with fail
  generalize World.alloc W _ = X0 at h0 G0 ⊢
  refine (hc.out _).mono ?_
  rintro e w1 ⟨rfl, g1⟩
  have G1 := Lib.hid (G0.out.trans g1)
  have h1 := Lib.hid (g1.keep h0.out (fun e => e))
  clear hc g1 h0 G0
  go_wp2_with fail
  refine (len_c _ _ _ _ (H.out.g0 G1.out)).mono ?_
  rintro e w2 ⟨rfl, g2⟩
  have G2 := Lib.hid (G1.out.trans g2)
  have h2 := Lib.hid (g2.keep h1.out (fun e => e))
  clear g2 h1 G1
  go_wp2_with fail
  obtain ⟨⟨t0, t1, t2, t3, t4, t5, t6, t7, t8⟩, tf⟩ := nine ((Gr.drew w2 (fun _ => False)).keep h2.out (fun e => e))
  have lt := (Array.getElem?_eq_some_iff.1 h2.out).1
  refine wp_region_L (L := 99) (T := fun _ => True) (by kernel_rfl) ?_
  refine wpAnyN_at (i := 0) (v := pt b) (some 13) rfl rfl (by kernel_rfl) (by kernel_rfl) (by kernel_rfl) rfl (fun _ _ _ h => h) (Or.inl ⟨by rfl, ?_⟩) trivial ?_
  · intro w hSw
    go_simp
  try simp only [Act.put, List.setIfInBounds_toArray, List.set_cons_zero, List.set_cons_succ]
  refine wpAnyN_at (i := 1) (v := pt b) (some 14) rfl rfl (by kernel_rfl) (by kernel_rfl) (by kernel_rfl) rfl (fun _ _ _ h => h) (Or.inl ⟨by rfl, ?_⟩) trivial ?_
  · intro w hSw
    go_simp
  try simp only [Act.put, List.setIfInBounds_toArray, List.set_cons_zero, List.set_cons_succ]
  refine wpAnyN_at (i := 2) (v := pt b) (some 15) rfl rfl (by kernel_rfl) (by kernel_rfl) (by kernel_rfl) rfl (fun _ _ _ h => h) (Or.inl ⟨by rfl, ?_⟩) trivial ?_
  · intro w hSw
    go_simp
  try simp only [Act.put, List.setIfInBounds_toArray, List.set_cons_zero, List.set_cons_succ]
  refine wpAnyL_one (i := 3) (by kernel_rfl) rfl (fun K hK => ?_)
  go_simp
  refine hK.out _ _ (fun _ => trivial) ?_
  clear hK K t0 t1 t2 t3 t4 t5 t6 t7 t8 tf
  try simp only [Act.put, List.setIfInBounds_toArray, List.set_cons_zero, List.set_cons_succ]
  refine wpAnyL_one (i := 4) (by kernel_rfl) rfl (fun K hK => ?_)
  go_simp
  refine (hcp.out _).mono ?_
  rintro e w3 ⟨⟨b1, f1, b2, f2, rfl⟩, g3⟩
  have g3' := (Gr.drew w2 (fun _ => False)).trans g3
  have G3 := Lib.hid (G2.out.trans g3')
  refine hK.out _ _ (fun _ => trivial) ?_
  clear hK K g3 g3' hcp
  try simp only [Act.put, List.setIfInBounds_toArray, List.set_cons_zero, List.set_cons_succ]
  refine wpAnyL_one (i := 5) (by kernel_rfl) rfl (fun K hK => ?_)
  go_simp
  refine (qput_c w3 b l p (H.out.g0 G3.out) HL.out z b1 f1 b2 f2).mono ?_
  rintro e w4 ⟨⟨v4, rfl⟩, M4, g4, x4⟩
  have hMx : ∀ i, i < W.heap.size → Mx w3 b i → Mx W b i := fun i hi e => e.back G3.out H.out.lt
  have G4 := Lib.hid ((G3.out.mono (fun _ _ e => e.elim)).trans' g4 hMx)
  have M4' := Lib.hid M4
  have X4 : Hid (∀ i, Mx w4 b i → Mx W b i ∨ W.heap.size ≤ i) := Lib.hid (fun i hi => by
    rcases x4 i hi with e | e
    · exact .inl (e.back G3.out H.out.lt)
    · exact .inr (Nat.le_trans G3.out.size e))
  refine hK.out _ _ (fun _ => trivial) ?_
  clear hK K g4 M4 hMx x4
  try simp only [Act.put, List.setIfInBounds_toArray, List.set_cons_zero, List.set_cons_succ]
  refine wpAnyL_done (by kernel_rfl) ?_ _
  refine NoPanic.normal ?_
  go_wp2_with fail
  go_ret
  exact ⟨rfl, M4'.out, G4.out, X4.out⟩
set_option maxRecDepth 20000 in
set_option maxHeartbeats 1600000 in
theorem take_none (W : World) (b : Nat) (l : List Int) (h : Mb W b l l.length) (hl : l.length ≤ 1000) : Calls Try.prog 9 #[pt b] W fun e w' => e = .returned (.tuple #[zt, .int .i64 211]) ∧ Gr (fun _ => False) W w' := by
  have hf := Lib.hid (fun w (g : Gr (fun _ => False) W w) => qtake_none w b l (h.g0 g) hl)
  have h0 := Lib.hid (heap_alloc_new W oz9)
  have G0 := Lib.hid (Gr.alloc W oz9 (fun _ => False))
  clear h hl
  go_enter Try.func9, Try.ntmps9
  go_wp2_with fail
  generalize World.alloc W oz9 = X0 at h0 G0 ⊢
  refine (hf.out _ G0.out).mono ?_
  rintro e w1 ⟨rfl, g1⟩
  have h2 := Lib.hid (g1.keep h0.out (fun e => e))
  have GX := Lib.hid (G0.out.trans g1)
  clear hf g1 h0 G0
  obtain ⟨⟨u0, u1, u2, u3, u4, u5, u6, u7, u8⟩, uf⟩ := nine h2.out
  have lu := (Array.getElem?_eq_some_iff.1 h2.out).1
  go_wp2_with fail
  refine bodyPost_ret (v := .tuple #[zt, .int .i64 211]) (by simp [results, Try.results9, go_sem, u0, u1, u2, u3, u4, u5, u6, u7, u8, lu]) rfl ⟨rfl, ?_⟩
  first
    | exact (GX.out.set9 (g := W.heap.size) (Nat.le_refl _) _ _ _ _ _ _ _ _ _).trans (Gr.alloc _ _ _)
    | exact (GX.out.trans (Gr.alloc _ _ _)).set9 (g := W.heap.size) (Nat.le_refl _) _ _ _ _ _ _ _ _ _
set_option maxRecDepth 20000 in
set_option maxHeartbeats 1600000 in
theorem take_some (W : World) (b : Nat) (l : List Int) (p : Nat) (z : Int) (h : Mb W b l p) (hl : l.length ≤ 1000) (hz : l[p]? = some z) : Calls Try.prog 9 #[pt b] W fun e w' => (∃ a1 c1 a2 c2, e = .returned (.tuple #[iv z a1 c1 a2 c2, .int .i64 0])) ∧ Mb w' b (l.eraseIdx p) 0 ∧ Gr (Mx W b) W w' ∧ ∀ i, Mx w' b i → Mx W b i := by
  have hf := Lib.hid (fun w (g : Gr (fun _ => False) W w) => qtake_some w b l p z (h.g0 g) hl hz)
  have H := Lib.hid h
  have HB := Lib.hid h.lt
  have h0 := Lib.hid (heap_alloc_new W oz9)
  have G0 := Lib.hid (Gr.alloc W oz9 (fun _ => False))
  clear h hl hz
  go_enter Try.func9, Try.ntmps9
  go_wp2_with fail
  generalize World.alloc W oz9 = X0 at h0 G0 ⊢
  refine (hf.out _ G0.out).mono ?_
  rintro e w1 ⟨⟨a1, c1, a2, c2, rfl⟩, m1, g1, hx1⟩
  have hNx : ¬ Mx X0 b W.heap.size := fun e => by
    rcases e with e | ⟨v, u, e1, e2⟩
    · have := HB.out; omega
    · have h5 := (G0.out.block b HB.out (fun e => e)).symm.trans e1
      obtain ⟨⟨v', vs, k1, k2, k3⟩, k4⟩ := H.out
      rw [k1] at h5
      cases h5
      have := (ownsRow_lt k2 _ e2).2
      omega
  have h2 := Lib.hid (g1.keep h0.out hNx)
  have M1 := Lib.hid m1
  have GX : Hid (Gr (Mx W b) W w1) := Lib.hid ((G0.out.mono (fun _ _ e => e.elim)).trans' g1 (fun i hi e => e.back G0.out HB.out))
  have hN1 := Lib.hid (fun e => hNx (hx1 _ e))
  have hX1 : Hid (∀ i, Mx w1 b i → Mx W b i) := Lib.hid (fun i e => (hx1 i e).back G0.out HB.out)
  clear hf g1 h0 G0 m1 hNx hx1
  obtain ⟨⟨u0, u1, u2, u3, u4, u5, u6, u7, u8⟩, uf⟩ := nine h2.out
  have lu := (Array.getElem?_eq_some_iff.1 h2.out).1
  go_wp2_with fail
  refine bodyPost_ret (v := .tuple #[iv z a1 c1 a2 c2, .int .i64 0]) (by simp [results, Try.results9, go_sem, u0, u1, u2, u3, u4, u5, u6, u7, u8, lu]) rfl ⟨⟨_, _, _, _, rfl⟩, ?_, ?_, fun i hi => ?_⟩
  · exact ((M1.out.gr2 (gr9 w1 W.heap.size z a1 c1 a2 c2) (fun i hi e => by subst e; exact hN1.out hi)).1).g0 (Gr.alloc _ _ _)
  · exact (GX.out.set9 (g := W.heap.size) (Nat.le_refl _) _ _ _ _ _ _ _ _ _).trans (Gr.alloc _ _ _)
  · have q := M1.out.gr2 (gr9 w1 W.heap.size z a1 c1 a2 c2) (fun i hi e => by subst e; exact hN1.out hi)
    exact hX1.out i (q.2 i (hi.back (Gr.alloc _ _ _) q.1.lt))
set_option maxRecDepth 20000 in
set_option maxHeartbeats 1600000 in
theorem peek_some (W : World) (b : Nat) (l : List Int) (p : Nat) (z : Int) (h : Mb W b l p) (hl : l.length ≤ 1000) (hz : l[p]? = some z) (hi : inR z = true) : Calls Try.prog 12 #[pt b] W fun e w' => (∃ a1 c1 a2 c2, e = .returned (.tuple #[iv z a1 c1 a2 c2, .bool true])) ∧ Gr (fun _ => False) W w' := by
  have hf := Lib.hid (fun w (g : Gr (fun _ => False) W w) => first_some w b l p z (h.g0 g) hl hz)
  have hcp := Lib.hid (fun w a1 d1 a2 d2 => copy_i z hi w a1 d1 a2 d2)
  have h0 := Lib.hid (heap_alloc_new W oz9)
  have G0 := Lib.hid (Gr.alloc W oz9 (fun _ => False))
  clear h hl hz hi
  go_enter Try.func12, Try.ntmps12
  go_wp2_with fail
  generalize World.alloc W oz9 = X0 at h0 G0 ⊢
  refine (hf.out _ G0.out).mono ?_
  rintro e w1 ⟨⟨a1, c1, a2, c2, rfl⟩, g1⟩
  have h2 := Lib.hid (g1.keep h0.out (fun e => e))
  have GX := Lib.hid (G0.out.trans g1)
  clear hf g1 h0 G0
  go_wp2_with fail
  refine (hcp.out _ _ _ _ _).mono ?_
  rintro e w2 ⟨⟨b1, f1, b2, f2, rfl⟩, g2⟩
  have h3 := Lib.hid (((Gr.alloc w1 _ _).trans g2).keep h2.out (fun e => e))
  have G3 := Lib.hid (GX.out.trans ((Gr.alloc w1 _ _).trans g2))
  obtain ⟨⟨u0, u1, u2, u3, u4, u5, u6, u7, u8⟩, uf⟩ := nine h3.out
  have lu := (Array.getElem?_eq_some_iff.1 h3.out).1
  clear g2 h2 GX hcp
  go_wp2_with fail
  refine bodyPost_ret (v := .tuple #[iv z b1 f1 b2 f2, .bool true]) (by simp [results, Try.results12, go_sem, u0, u1, u2, u3, u4, u5, u6, u7, u8, lu]) rfl ⟨⟨_, _, _, _, rfl⟩, ?_⟩
  exact G3.out.set9 (g := W.heap.size) (Nat.le_refl _) _ _ _ _ _ _ _ _ _
end Go.Proofs.Yticgnaikbmnagaa
