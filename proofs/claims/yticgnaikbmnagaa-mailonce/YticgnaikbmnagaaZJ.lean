/-
  The chapter's example.
-/
import Derived.Test.YticgnaikbmnagaaZI
set_option linter.unusedVariables false
set_option linter.unusedSimpArgs false
namespace Go.Proofs.Yticgnaikbmnagaa
open Go.RowKit Go.Maps
attribute [local go_sem] Oper.semAt_some
variable {S S' : Nat → Prop} {W W1 W' : World}
/-- A box that was made behind world W0. -/
structure Bo (W0 W : World) (b : Nat) (l : List Int) (p : Nat) : Prop where
  mb : Mb W b l p
  hb : W0.heap.size ≤ b
  rows : ∀ i, Mx W b i → W0.heap.size ≤ i
  gr : Gr (fun _ => False) W0 W
theorem Bo.g0 {W0 : World} {b p : Nat} {l : List Int} (h : Bo W0 W b l p) (g : Gr (fun _ => False) W W') : Bo W0 W' b l p :=
  ⟨h.mb.g0 g, h.hb, fun i hi => h.rows i (hi.back g h.mb.lt), h.gr.trans g⟩
theorem Bo.to {W0 : World} {b p p' : Nat} {l l' : List Int} (h : Bo W0 W b l p) (m : Mb W' b l' p') (g : Gr (Mx W b) W W') (x : ∀ i, Mx W' b i → Mx W b i ∨ W.heap.size ≤ i) : Bo W0 W' b l' p' :=
  ⟨m, h.hb, fun i hi => (x i hi).elim (h.rows i) (fun e => Nat.le_trans h.gr.size e), h.gr.trans' g (fun i hi e => by have := h.rows i e; omega)⟩
theorem Bo.to' {W0 : World} {b p p' : Nat} {l l' : List Int} (h : Bo W0 W b l p) (m : Mb W' b l' p') (g : Gr (fun i => i = b) W W') (x : ∀ i, Mx W' b i → Mx W b i) : Bo W0 W' b l' p' :=
  h.to m (g.mono (fun _ _ e => .inl e)) (fun i hi => .inl (x i hi))
theorem Bo.new {W0 : World} (g : Gr (fun _ => False) W0 W) (m : Mb W' W.heap.size [] 0) (g' : Gr (fun _ => False) W W') (x : ∀ i, Mx W' W.heap.size i → W.heap.size ≤ i) : Bo W0 W' W.heap.size [] 0 :=
  ⟨m, g.size, fun i hi => Nat.le_trans g.size (x i hi), g.trans g'⟩
set_option maxRecDepth 20000 in
set_option maxHeartbeats 3200000 in
theorem alive_c (W : World) : Calls Try.prog 4 #[] W fun e w' => e = .returned (.bool true) ∧ Gr (fun _ => False) W w' := by
  go_enter Try.func4, Try.ntmps4
  go_wp2_with fail
  refine (new_c _).mono ?_
  rintro e w1 ⟨rfl, m1, g1, x1⟩
  have B1 := Lib.hid (Bo.new (Gr.refl _ W) m1 g1 x1)
  clear m1 g1 x1
  go_wp2_with fail
  refine (number_c 1 _).mono ?_
  rintro e w2 ⟨rfl, g2⟩
  have B2 := Lib.hid (B1.out.g0 g2)
  clear B1 g2
  go_wp2_with fail
  refine (put_c w2 W.heap.size [] 0 B2.out.mb (by simp) 1 (by decide) _ _ _ _).mono ?_
  rintro e w3 ⟨rfl, m3, g3, x3⟩
  have B3 := Lib.hid (B2.out.to m3 g3 x3)
  clear B2 m3 g3 x3
  go_wp2_with fail
  refine (number_c 2 _).mono ?_
  rintro e w4 ⟨rfl, g4⟩
  have B4 := Lib.hid (B3.out.g0 g4)
  clear B3 g4
  go_wp2_with fail
  refine (put_c w4 W.heap.size ([] ++ [1]) 0 B4.out.mb (by simp) 2 (by decide) _ _ _ _).mono ?_
  rintro e w5 ⟨rfl, m5, g5, x5⟩
  have B5 := Lib.hid (B4.out.to m5 g5 x5)
  clear B4 m5 g5 x5
  go_wp2_with fail
  refine (next_some w5 W.heap.size _ 0 1 B5.out.mb (by simp) (by simp)).mono ?_
  rintro e w6 ⟨rfl, m6, g6, x6⟩
  have B6 := Lib.hid (B5.out.to' m6 g6 x6)
  clear B5 m6 g6 x6
  go_wp2_with fail
  refine (take_some w6 W.heap.size _ 1 2 B6.out.mb (by simp) (by simp)).mono ?_
  rintro e w7 ⟨⟨a1, c1, a2, c2, rfl⟩, m7, g7, x7⟩
  have B7 := Lib.hid (B6.out.to m7 g7 (fun i hi => .inl (x7 i hi)))
  clear B6 m7 g7 x7
  go_wp2_with fail
  have h7 := Lib.hid (heap_alloc_new w7 (ob 2 a1 c1 a2 c2))
  have B8 := Lib.hid (B7.out.g0 (Gr.alloc w7 (ob 2 a1 c1 a2 c2) _))
  clear B7
  generalize World.alloc w7 _ = X7 at h7 B8 ⊢
  refine (peek_some X7 W.heap.size _ 0 1 B8.out.mb (by simp) (by simp) (by decide)).mono ?_
  rintro e w8 ⟨⟨b1, d1, b2, d2, rfl⟩, g8⟩
  have B9 := Lib.hid (B8.out.g0 g8)
  have h8 := Lib.hid (g8.keep h7.out (fun e => e))
  clear B8 h7 g8
  obtain ⟨⟨t0, t1, t2, t3, t4, t5, t6, t7, t8⟩, tf⟩ := nine h8.out
  have lt := (Array.getElem?_eq_some_iff.1 h8.out).1
  go_wp2_with fail
  refine (len_c _ _ _ _ (B9.out.g0 (Gr.alloc w8 (ob 1 b1 d1 b2 d2) _)).mb).mono ?_
  rintro e w9 ⟨rfl, g9⟩
  have BA := Lib.hid ((B9.out.g0 (Gr.alloc w8 (ob 1 b1 d1 b2 d2) _)).g0 g9)
  clear B9 g9
  have hl1 : ((([] ++ [(1 : Int)] ++ [2]).eraseIdx 1).length : Int) = 1 := by rfl
  go_wp2_with fail
  go_ret
  exact ⟨rfl, BA.out.gr⟩
end Go.Proofs.Yticgnaikbmnagaa
