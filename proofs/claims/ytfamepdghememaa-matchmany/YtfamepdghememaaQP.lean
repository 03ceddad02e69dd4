/-
  Carried over from another seat of ours (QP).
-/
import Derived.Test.YtfamepdghememaaQO
set_option linter.unusedVariables false
set_option linter.unusedSimpArgs false
namespace Go.Proofs.Ytfamepdghememaa
open Go.RowKit Go.Maps Go.WideMaps
attribute [local go_sem] Oper.semAt_some
variable {S S' : Nat → Prop} {W W1 W' : World}
def cm3 (a b : Int) : Int := if a < b then -1 else if b < a then 1 else 0
theorem cm3_eq (a b : Int) : (cm3 a b == 0) = (a == b) := by
  unfold cm3
  by_cases h1 : a < b
  · rw [if_pos h1]; have : (a == b) = false := by simp; omega
    rw [this]; rfl
  · rw [if_neg h1]
    by_cases h2 : b < a
    · rw [if_pos h2]; have : (a == b) = false := by simp; omega
      rw [this]; rfl
    · rw [if_neg h2]; have : (a == b) = true := by simp; omega
      rw [this]; rfl
theorem isNaN64_c (a : Int) (W : World) : Calls Try.prog 87 #[.int .i64 a] W fun e w' => e = .returned (.bool false) ∧ W = w' := by
  go_enter Try.func87, Try.ntmps87
  go_wp2
  go_ret
  exact ⟨by simp, rfl⟩
set_option maxHeartbeats 800000 in
theorem cmp64_c (a b : Int) (W : World) : Calls Try.prog 80 #[.int .i64 a, .int .i64 b] W fun e w' => e = .returned (.int .i64 (cm3 a b)) ∧ W = w' := by
  unfold cm3
  by_cases h1 : a < b
  · rw [if_pos h1]
    go_enter Try.func80, Try.ntmps80
    go_wp2_with (first | (go_at_call 87; refine (isNaN64_c _ _).mono ?_; rintro e w' ⟨rfl, rfl⟩))
    go_ret
    exact ⟨rfl, rfl⟩
  · rw [if_neg h1]
    by_cases h2 : b < a
    · rw [if_pos h2]
      go_enter Try.func80, Try.ntmps80
      go_wp2_with (first | (go_at_call 87; refine (isNaN64_c _ _).mono ?_; rintro e w' ⟨rfl, rfl⟩))
      go_ret
      exact ⟨rfl, rfl⟩
    · rw [if_neg h2]
      go_enter Try.func80, Try.ntmps80
      go_wp2_with (first | (go_at_call 87; refine (isNaN64_c _ _).mono ?_; rintro e w' ⟨rfl, rfl⟩))
      go_ret
      exact ⟨rfl, rfl⟩
set_option maxRecDepth 20000 in
set_option maxHeartbeats 1600000 in
theorem numCmp_c (p q : Int) (a1 : Option Addr) (c1 : Nat) (a2 : Option Addr) (c2 : Nat) (b1 : Option Addr) (d1 : Nat) (b2 : Option Addr) (d2 : Nat) (hp : inR p = true) (hq : inR q = true) (W : World) : Calls Try.prog 68 #[iv p a1 c1 a2 c2, iv q b1 d1 b2 d2] W fun e w' => e = .returned (.tuple #[.int .i64 (cm3 p q), .int .i64 0]) ∧ Gr (fun _ => False) W w' := by
  have h1 := Lib.hid (fun w => right_int_g p a1 c1 a2 c2 w)
  have h2 := Lib.hid (fun w => right_int_g q b1 d1 b2 d2 w)
  rw [hp] at h1
  rw [hq] at h2
  clear hp hq
  have gA := Gr.alloc W (.cells #[.int .i64 1, .int .i64 p, .complex .f64 0 0, .string e0, .int .i64 0, .int .u32 0, .int .u64 0, .slice a1 0 c1, .slice a2 0 c2] 31) (fun _ => False)
  have gB := Gr.alloc (W.alloc (.cells #[.int .i64 1, .int .i64 p, .complex .f64 0 0, .string e0, .int .i64 0, .int .u32 0, .int .u64 0, .slice a1 0 c1, .slice a2 0 c2] 31)) (.cells #[.int .i64 1, .int .i64 q, .complex .f64 0 0, .string e0, .int .i64 0, .int .u32 0, .int .u64 0, .slice b1 0 d1, .slice b2 0 d2] 31) (fun _ => False)
  have hbp := gB.keep (heap_alloc_new W (.cells #[.int .i64 1, .int .i64 p, .complex .f64 0 0, .string e0, .int .i64 0, .int .u32 0, .int .u64 0, .slice a1 0 c1, .slice a2 0 c2] 31)) (fun e => e)
  have hbt := heap_alloc_new (W.alloc (.cells #[.int .i64 1, .int .i64 p, .complex .f64 0 0, .string e0, .int .i64 0, .int .u32 0, .int .u64 0, .slice a1 0 c1, .slice a2 0 c2] 31)) (.cells #[.int .i64 1, .int .i64 q, .complex .f64 0 0, .string e0, .int .i64 0, .int .u32 0, .int .u64 0, .slice b1 0 d1, .slice b2 0 d2] 31)
  rw [World.size_alloc] at hbt
  have Hbp := Lib.hid hbp
  have Hbt := Lib.hid hbt
  have G0 := Lib.hid (gA.trans gB)
  clear hbp hbt gA gB
  go_enter Try.func68, Try.ntmps68
  go_wp2_with fail
  generalize World.alloc (World.alloc W _) _ = X0 at Hbp Hbt G0 ⊢
  refine (h1.out _).mono ?_
  rintro e w1 ⟨rfl, g1⟩
  obtain ⟨⟨t0, t1, t2, t3, t4, t5, t6, t7, t8⟩, tf⟩ := nine (g1.keep Hbp.out (fun e => e))
  obtain ⟨⟨u0, u1, u2, u3, u4, u5, u6, u7, u8⟩, uf⟩ := nine (g1.keep Hbt.out (fun e => e))
  have l0 := (Array.getElem?_eq_some_iff.1 (g1.keep Hbp.out (fun e => e))).1
  have l1 := (Array.getElem?_eq_some_iff.1 (g1.keep Hbt.out (fun e => e))).1
  go_wp2_with fail
  refine (h2.out _).mono ?_
  rintro e w2 ⟨rfl, g2⟩
  clear t0 t1 t2 t3 t4 t5 t6 t7 t8 tf u0 u1 u2 u3 u4 u5 u6 u7 u8 uf l0 l1
  have g12 := g1.trans g2
  obtain ⟨⟨t0, t1, t2, t3, t4, t5, t6, t7, t8⟩, tf⟩ := nine (g12.keep Hbp.out (fun e => e))
  obtain ⟨⟨u0, u1, u2, u3, u4, u5, u6, u7, u8⟩, uf⟩ := nine (g12.keep Hbt.out (fun e => e))
  have l0 := (Array.getElem?_eq_some_iff.1 (g12.keep Hbp.out (fun e => e))).1
  have l1 := (Array.getElem?_eq_some_iff.1 (g12.keep Hbt.out (fun e => e))).1
  go_wp2_with fail
  refine (cmp64_c p q _).mono ?_
  rintro e w3 ⟨rfl, rfl⟩
  go_wp2_with fail
  exact bodyPost_ret (v := .tuple #[.int .i64 (cm3 p q), .int .i64 0]) (by simp [results, Try.results68, go_sem]) rfl ⟨rfl, G0.out.trans g12⟩
set_option maxRecDepth 20000 in
set_option maxHeartbeats 1600000 in
theorem byNumber_c (p q : Int) (a1 : Option Addr) (c1 : Nat) (a2 : Option Addr) (c2 : Nat) (b1 : Option Addr) (d1 : Nat) (b2 : Option Addr) (d2 : Nat) (hp : inR p = true) (hq : inR q = true) (W : World) : Calls Try.prog 44 #[iv p a1 c1 a2 c2, iv q b1 d1 b2 d2] W fun e w' => e = .returned (.int .i64 (cm3 p q)) ∧ Gr (fun _ => False) W w' := by
  have h1 := Lib.hid (fun w => numCmp_c p q a1 c1 a2 c2 b1 d1 b2 d2 hp hq w)
  clear hp hq
  have gA := Gr.alloc W (.cells #[.int .i64 1, .int .i64 p, .complex .f64 0 0, .string e0, .int .i64 0, .int .u32 0, .int .u64 0, .slice a1 0 c1, .slice a2 0 c2] 31) (fun _ => False)
  have gB := Gr.alloc (W.alloc (.cells #[.int .i64 1, .int .i64 p, .complex .f64 0 0, .string e0, .int .i64 0, .int .u32 0, .int .u64 0, .slice a1 0 c1, .slice a2 0 c2] 31)) (.cells #[.int .i64 1, .int .i64 q, .complex .f64 0 0, .string e0, .int .i64 0, .int .u32 0, .int .u64 0, .slice b1 0 d1, .slice b2 0 d2] 31) (fun _ => False)
  have hbp := gB.keep (heap_alloc_new W (.cells #[.int .i64 1, .int .i64 p, .complex .f64 0 0, .string e0, .int .i64 0, .int .u32 0, .int .u64 0, .slice a1 0 c1, .slice a2 0 c2] 31)) (fun e => e)
  have hbt := heap_alloc_new (W.alloc (.cells #[.int .i64 1, .int .i64 p, .complex .f64 0 0, .string e0, .int .i64 0, .int .u32 0, .int .u64 0, .slice a1 0 c1, .slice a2 0 c2] 31)) (.cells #[.int .i64 1, .int .i64 q, .complex .f64 0 0, .string e0, .int .i64 0, .int .u32 0, .int .u64 0, .slice b1 0 d1, .slice b2 0 d2] 31)
  rw [World.size_alloc] at hbt
  have Hbp := Lib.hid hbp
  have Hbt := Lib.hid hbt
  have G0 := Lib.hid (gA.trans gB)
  clear hbp hbt gA gB
  go_enter Try.func44, Try.ntmps44
  go_wp2_with fail
  generalize World.alloc (World.alloc W _) _ = X0 at Hbp Hbt G0 ⊢
  refine (h1.out _).mono ?_
  rintro e w1 ⟨rfl, g1⟩
  go_wp2_with fail
  go_ret
  exact ⟨rfl, G0.out.trans g1⟩
set_option maxRecDepth 20000 in
set_option maxHeartbeats 1600000 in
theorem order_c (p q : Int) (a1 : Option Addr) (c1 : Nat) (a2 : Option Addr) (c2 : Nat) (b1 : Option Addr) (d1 : Nat) (b2 : Option Addr) (d2 : Nat) (hp : inR p = true) (hq : inR q = true) (W : World) (kb : Nat) (hK : Kd W kb) : Calls Try.prog 73 #[pt kb, iv p a1 c1 a2 c2, iv q b1 d1 b2 d2] W fun e w' => e = .returned (.int .i64 (cm3 p q)) ∧ Gr (fun _ => False) W w' := by
  have h1 := Lib.hid (fun w => byNumber_c p q a1 c1 a2 c2 b1 d1 b2 d2 hp hq w)
  clear hp hq
  have gA := Gr.alloc W (.cells #[.int .i64 1, .int .i64 p, .complex .f64 0 0, .string e0, .int .i64 0, .int .u32 0, .int .u64 0, .slice a1 0 c1, .slice a2 0 c2] 31) (fun _ => False)
  have gB := Gr.alloc (W.alloc (.cells #[.int .i64 1, .int .i64 p, .complex .f64 0 0, .string e0, .int .i64 0, .int .u32 0, .int .u64 0, .slice a1 0 c1, .slice a2 0 c2] 31)) (.cells #[.int .i64 1, .int .i64 q, .complex .f64 0 0, .string e0, .int .i64 0, .int .u32 0, .int .u64 0, .slice b1 0 d1, .slice b2 0 d2] 31) (fun _ => False)
  have hbp := gB.keep (heap_alloc_new W (.cells #[.int .i64 1, .int .i64 p, .complex .f64 0 0, .string e0, .int .i64 0, .int .u32 0, .int .u64 0, .slice a1 0 c1, .slice a2 0 c2] 31)) (fun e => e)
  have hbt := heap_alloc_new (W.alloc (.cells #[.int .i64 1, .int .i64 p, .complex .f64 0 0, .string e0, .int .i64 0, .int .u32 0, .int .u64 0, .slice a1 0 c1, .slice a2 0 c2] 31)) (.cells #[.int .i64 1, .int .i64 q, .complex .f64 0 0, .string e0, .int .i64 0, .int .u32 0, .int .u64 0, .slice b1 0 d1, .slice b2 0 d2] 31)
  rw [World.size_alloc] at hbt
  have Hbp := Lib.hid hbp
  have Hbt := Lib.hid hbt
  have G0 := Lib.hid (gA.trans gB)
  clear hbp hbt gA gB
  have HK := Lib.hid hK
  have hkl := hK.lt
  clear hK
  go_enter Try.func73, Try.ntmps73
  go_wp2_with fail
  generalize World.alloc (World.alloc W _) _ = X0 at Hbp Hbt G0 ⊢
  have hK0 := HK.out.gr G0.out (fun e => e)
  have k5 : X0.cell? ⟨kb, 5, none⟩ = some (fv 44) := by unfold Kd at hK0; simp [World.cell?, hK0]
  have hkl0 := hK0.lt
  obtain ⟨⟨t0, t1, t2, t3, t4, t5, t6, t7, t8⟩, tf⟩ := nine ((Gr.refl (fun _ => False) X0).keep Hbp.out (fun e => e))
  obtain ⟨⟨u0, u1, u2, u3, u4, u5, u6, u7, u8⟩, uf⟩ := nine ((Gr.refl (fun _ => False) X0).keep Hbt.out (fun e => e))
  have l0 := (Array.getElem?_eq_some_iff.1 ((Gr.refl (fun _ => False) X0).keep Hbp.out (fun e => e))).1
  have l1 := (Array.getElem?_eq_some_iff.1 ((Gr.refl (fun _ => False) X0).keep Hbt.out (fun e => e))).1
  clear hK0
  go_region_with (first | (refine (h1.out _).mono ?_; rintro e w1 ⟨rfl, g1⟩) | fail)
  all_goals
    go_wp2_with fail
    go_ret
    exact ⟨rfl, (G0.out.trans (Gr.drew _ _)).trans g1⟩
set_option maxRecDepth 20000 in
set_option maxHeartbeats 1600000 in
theorem cmp_c (p q : Int) (a1 : Option Addr) (c1 : Nat) (a2 : Option Addr) (c2 : Nat) (b1 : Option Addr) (d1 : Nat) (b2 : Option Addr) (d2 : Nat) (hp : inR p = true) (hq : inR q = true) (W : World) : Calls Try.prog 57 #[iv p a1 c1 a2 c2, iv q b1 d1 b2 d2] W fun e w' => e = .returned (.tuple #[.int .i64 (cm3 p q), .int .i64 0]) ∧ Gr (fun _ => False) W w' := by
  have hw1 := Lib.hid (fun w kb (hK : Kd w kb) => weigh_t (fun _ => False) w kb (it p) (iv p a1 c1 a2 c2) 1 hK (leaf_rep _ _ _ _ _ _ _) (fun _ e => e.elim) (by simp [hgt, hgtL]) ⟨⟨ok_int p hp, by decide, by simp [lenB]⟩, fun _ _ => by simp only [okL]⟩ (by simp [goT, goL, stepW, lenB]))
  have hw2 := Lib.hid (fun w kb (hK : Kd w kb) => weigh_t (fun _ => False) w kb (it q) (iv q b1 d1 b2 d2) 1 hK (leaf_rep _ _ _ _ _ _ _) (fun _ e => e.elim) (by simp [hgt, hgtL]) ⟨⟨ok_int q hq, by decide, by simp [lenB]⟩, fun _ _ => by simp only [okL]⟩ (by simp [goT, goL, stepW, lenB]))
  have ho := Lib.hid (fun w kb (hK : Kd w kb) => order_c p q a1 c1 a2 c2 b1 d1 b2 d2 hp hq w kb hK)
  clear hp hq
  have gA := Gr.alloc W (.cells #[.int .i64 1, .int .i64 p, .complex .f64 0 0, .string e0, .int .i64 0, .int .u32 0, .int .u64 0, .slice a1 0 c1, .slice a2 0 c2] 31) (fun _ => False)
  have gB := Gr.alloc (W.alloc (.cells #[.int .i64 1, .int .i64 p, .complex .f64 0 0, .string e0, .int .i64 0, .int .u32 0, .int .u64 0, .slice a1 0 c1, .slice a2 0 c2] 31)) (.cells #[.int .i64 1, .int .i64 q, .complex .f64 0 0, .string e0, .int .i64 0, .int .u32 0, .int .u64 0, .slice b1 0 d1, .slice b2 0 d2] 31) (fun _ => False)
  have hbp := gB.keep (heap_alloc_new W (.cells #[.int .i64 1, .int .i64 p, .complex .f64 0 0, .string e0, .int .i64 0, .int .u32 0, .int .u64 0, .slice a1 0 c1, .slice a2 0 c2] 31)) (fun e => e)
  have hbt := heap_alloc_new (W.alloc (.cells #[.int .i64 1, .int .i64 p, .complex .f64 0 0, .string e0, .int .i64 0, .int .u32 0, .int .u64 0, .slice a1 0 c1, .slice a2 0 c2] 31)) (.cells #[.int .i64 1, .int .i64 q, .complex .f64 0 0, .string e0, .int .i64 0, .int .u32 0, .int .u64 0, .slice b1 0 d1, .slice b2 0 d2] 31)
  rw [World.size_alloc] at hbt
  have Hbp := Lib.hid hbp
  have Hbt := Lib.hid hbt
  have G0 := Lib.hid (gA.trans gB)
  clear hbp hbt gA gB
  go_enter Try.func57, Try.ntmps57
  go_wp2_with fail
  generalize World.alloc (World.alloc W _) _ = X0 at Hbp Hbt G0 ⊢
  refine (makeKinds_c X0).mono ?_
  rintro e w1 ⟨rfl, hK1, g1⟩
  have HK1 := Lib.hid hK1
  generalize X0.heap.size = kb at HK1 hK1 ⊢
  obtain ⟨⟨t0, t1, t2, t3, t4, t5, t6, t7, t8⟩, tf⟩ := nine (g1.keep Hbp.out (fun e => e))
  obtain ⟨⟨u0, u1, u2, u3, u4, u5, u6, u7, u8⟩, uf⟩ := nine (g1.keep Hbt.out (fun e => e))
  have l0 := (Array.getElem?_eq_some_iff.1 (g1.keep Hbp.out (fun e => e))).1
  have l1 := (Array.getElem?_eq_some_iff.1 (g1.keep Hbt.out (fun e => e))).1
  clear hK1
  go_wp2_with fail
  refine (hw1.out _ kb HK1.out).mono ?_
  rintro e w2 ⟨rfl, g2⟩
  clear t0 t1 t2 t3 t4 t5 t6 t7 t8 tf u0 u1 u2 u3 u4 u5 u6 u7 u8 uf l0 l1
  have g12 := g1.trans g2
  have HK2 := Lib.hid (HK1.out.gr g2 (fun e => e))
  obtain ⟨⟨t0, t1, t2, t3, t4, t5, t6, t7, t8⟩, tf⟩ := nine (g12.keep Hbp.out (fun e => e))
  obtain ⟨⟨u0, u1, u2, u3, u4, u5, u6, u7, u8⟩, uf⟩ := nine (g12.keep Hbt.out (fun e => e))
  have l0 := (Array.getElem?_eq_some_iff.1 (g12.keep Hbp.out (fun e => e))).1
  have l1 := (Array.getElem?_eq_some_iff.1 (g12.keep Hbt.out (fun e => e))).1
  go_wp2_with fail
  refine (hw2.out _ kb HK2.out).mono ?_
  rintro e w3 ⟨rfl, g3⟩
  clear t0 t1 t2 t3 t4 t5 t6 t7 t8 tf u0 u1 u2 u3 u4 u5 u6 u7 u8 uf l0 l1
  have g13 := g12.trans g3
  have HK3 := Lib.hid (HK2.out.gr g3 (fun e => e))
  obtain ⟨⟨t0, t1, t2, t3, t4, t5, t6, t7, t8⟩, tf⟩ := nine (g13.keep Hbp.out (fun e => e))
  obtain ⟨⟨u0, u1, u2, u3, u4, u5, u6, u7, u8⟩, uf⟩ := nine (g13.keep Hbt.out (fun e => e))
  have l0 := (Array.getElem?_eq_some_iff.1 (g13.keep Hbp.out (fun e => e))).1
  have l1 := (Array.getElem?_eq_some_iff.1 (g13.keep Hbt.out (fun e => e))).1
  go_wp2_with fail
  refine (ho.out _ kb HK3.out).mono ?_
  rintro e w4 ⟨rfl, g4⟩
  go_wp2_with fail
  exact bodyPost_ret (v := .tuple #[.int .i64 (cm3 p q), .int .i64 0]) (by simp [results, Try.results57, go_sem]) rfl ⟨rfl, (G0.out.trans g13).trans g4⟩
set_option maxRecDepth 20000 in
set_option maxHeartbeats 1600000 in
theorem same_ok : SameOk := by
  intro W p q a1 c1 a2 c2 b1 d1 b2 d2 hp hq
  have h1 := Lib.hid (fun w => cmp_c p q a1 c1 a2 c2 b1 d1 b2 d2 hp hq w)
  have hcm := cm3_eq p q
  clear hp hq
  have gA := Gr.alloc W (.cells #[.int .i64 1, .int .i64 p, .complex .f64 0 0, .string e0, .int .i64 0, .int .u32 0, .int .u64 0, .slice a1 0 c1, .slice a2 0 c2] 31) (fun _ => False)
  have gB := Gr.alloc (W.alloc (.cells #[.int .i64 1, .int .i64 p, .complex .f64 0 0, .string e0, .int .i64 0, .int .u32 0, .int .u64 0, .slice a1 0 c1, .slice a2 0 c2] 31)) (.cells #[.int .i64 1, .int .i64 q, .complex .f64 0 0, .string e0, .int .i64 0, .int .u32 0, .int .u64 0, .slice b1 0 d1, .slice b2 0 d2] 31) (fun _ => False)
  have hbp := gB.keep (heap_alloc_new W (.cells #[.int .i64 1, .int .i64 p, .complex .f64 0 0, .string e0, .int .i64 0, .int .u32 0, .int .u64 0, .slice a1 0 c1, .slice a2 0 c2] 31)) (fun e => e)
  have hbt := heap_alloc_new (W.alloc (.cells #[.int .i64 1, .int .i64 p, .complex .f64 0 0, .string e0, .int .i64 0, .int .u32 0, .int .u64 0, .slice a1 0 c1, .slice a2 0 c2] 31)) (.cells #[.int .i64 1, .int .i64 q, .complex .f64 0 0, .string e0, .int .i64 0, .int .u32 0, .int .u64 0, .slice b1 0 d1, .slice b2 0 d2] 31)
  rw [World.size_alloc] at hbt
  have Hbp := Lib.hid hbp
  have Hbt := Lib.hid hbt
  have G0 := Lib.hid (gA.trans gB)
  clear hbp hbt gA gB
  obtain ⟨c, hc⟩ : ∃ c, cm3 p q = c := ⟨_, rfl⟩
  rw [hc] at h1 hcm
  rw [← hcm]
  clear hc hcm
  go_enter Try.func29, Try.ntmps29
  go_wp2_with fail
  generalize World.alloc (World.alloc W _) _ = X0 at Hbp Hbt G0 ⊢
  refine (h1.out _).mono ?_
  rintro e w1 ⟨rfl, g1⟩
  go_wp2_with fail
  all_goals
    go_ret
    exact ⟨by simp, G0.out.trans g1⟩
end Go.Proofs.Ytfamepdghememaa

