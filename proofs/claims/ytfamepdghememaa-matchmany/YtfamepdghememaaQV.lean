/-
  Carried over from another seat of ours (QV).
-/
import Derived.Test.YtfamepdghememaaQU
set_option linter.unusedVariables false
set_option linter.unusedSimpArgs false
namespace Go.Proofs.Ytfamepdghememaa
open Go.RowKit Go.Maps Go.WideMaps
attribute [local go_sem] Oper.semAt_some
variable {S S' : Nat → Prop} {W W1 W' : World}
theorem hzXX : ∀ s ∈ [sX, sX], isVar s = true ∧ 1 ≤ s.size ∧ s.size ≤ 32 := fun s hs => by
  have e : s = sX := by simpa using hs
  subst e
  exact ⟨vX, by decide, by decide⟩
set_option maxRecDepth 20000 in
set_option maxHeartbeats 3200000 in
theorem alive_c (W : World) : Calls Try.prog 4 #[] W fun e w' => e = .returned (.bool true) ∧ Gr (fun _ => False) W w' := by
  go_enter Try.func4, Try.ntmps4
  go_wp2_with fail
  refine (v_c sX _).mono ?_
  rintro e w1 ⟨rfl, g1⟩
  have G1 := Lib.hid g1
  clear g1
  go_wp2_with fail
  refine (v_c sX _).mono ?_
  rintro e w2 ⟨rfl, g2⟩
  have G2 := Lib.hid (G1.out.trans g2)
  clear g2 G1
  go_wp2_with fail
  refine (pair_t w2 { k := 9, s := sX } { k := 9, s := sX }).mono ?_
  rintro e w3 ⟨v3, rfl, hr3, g3⟩
  obtain ⟨pk, pn, px, py, pS, pa, pc, pd, x1, m1, y1, x2, m2, y2, rfl⟩ := hr3.agg
  have hb := heap_alloc_new w3 (.cells #[.int .i64 pk, .int .i64 pn, .complex .f64 px py, .string pS, .int .i64 pa, .int .u32 pc, .int .u64 pd, .slice x1 m1 y1, .slice x2 m2 y2] 31)
  have gA := Gr.alloc w3 (.cells #[.int .i64 pk, .int .i64 pn, .complex .f64 px py, .string pS, .int .i64 pa, .int .u32 pc, .int .u64 pd, .slice x1 m1 y1, .slice x2 m2 y2] 31) (fun _ => False)
  have HB := Lib.hid hb
  have RP0 : Hid (Rep (fun k => k < w3.heap.size) (w3.alloc (.cells #[.int .i64 pk, .int .i64 pn, .complex .f64 px py, .string pS, .int .i64 pa, .int .u32 pc, .int .u64 pd, .slice x1 m1 y1, .slice x2 m2 y2] 31)) (.mk { k := 6 } [] [vr sX, vr sX]) (tv pk pn px py pS pa pc pd (.slice x1 m1 y1) (.slice x2 m2 y2))) := Lib.hid (hr3.turn (fun k hk hlt => ⟨hlt, gA.block k hlt (fun e => e)⟩))
  have G3 := Lib.hid ((G2.out.trans g3).trans gA)
  have z3 : Hid (w3.heap.size < (w3.alloc (.cells #[.int .i64 pk, .int .i64 pn, .complex .f64 px py, .string pS, .int .i64 pa, .int .u32 pc, .int .u64 pd, .slice x1 m1 y1, .slice x2 m2 y2] 31)).heap.size) := Lib.hid (by simp)
  clear g3 G2 hr3 hb gA
  go_wp2_with fail
  generalize World.alloc w3 _ = X3 at HB RP0 G3 z3 ⊢
  generalize w3.heap.size = pb at HB RP0 z3 ⊢
  have S9H : Hid (∀ w, Gr (fun _ => False) X3 w → S9 pb (.int .i64 pk) (.int .i64 pn) (.complex .f64 px py) (.string pS) (.int .i64 pa) (.int .u32 pc) (.int .u64 pd) (.slice x1 m1 y1) (.slice x2 m2 y2) w) := Lib.hid (fun w g => by
    obtain ⟨⟨t0, t1, t2, t3, t4, t5, t6, t7, t8⟩, -⟩ := nine (g.keep HB.out (fun e => e))
    exact ⟨t0, t1, t2, t3, t4, t5, t6, t7, t8⟩)
  have RP : Hid (∀ w, Gr (fun _ => False) X3 w → Rep (fun k => k < w.heap.size) w (.mk { k := 6 } [] [vr sX, vr sX]) (tv pk pn px py pS pa pc pd (.slice x1 m1 y1) (.slice x2 m2 y2))) := Lib.hid (fun w g => RP0.out.turn (fun k hk hlt => ⟨by have := g.size; have := z3.out; omega, g.block k hlt (fun e => e)⟩))
  have GXA : Hid (Gr (fun _ => False) X3 X3) := Lib.hid (Gr.refl _ _)
  refine wp_region_L (L := 12) (T := S9 pb (.int .i64 pk) (.int .i64 pn) (.complex .f64 px py) (.string pS) (.int .i64 pa) (.int .u32 pc) (.int .u64 pd) (.slice x1 m1 y1) (.slice x2 m2 y2)) (by kernel_rfl) ?_
  refine wpAnyL_at (i := 0) (v := (tv pk pn px py pS pa pc pd (.slice x1 m1 y1) (.slice x2 m2 y2))) (some 15) rfl rfl (by kernel_rfl) (by kernel_rfl) (by kernel_rfl) (by kernel_rfl) (by decide) (fun _ _ _ h => h) (Or.inl ⟨by rfl, ?_⟩) (S9H.out X3.drew (GXA.out.trans (Gr.drew _ _))) ?_
  · intro w hSw
    obtain ⟨q0, q1, q2, q3, q4, q5, q6, q7, q8⟩ := hSw
    go_simp
  try simp only [Act.put, List.setIfInBounds_toArray, List.set_cons_zero, List.set_cons_succ]
  refine wpAnyL_one (i := 1) (by kernel_rfl) rfl (fun K hK => ?_)
  go_simp
  refine (int_c 1 _).mono ?_
  rintro e wA1 ⟨rfl, g1⟩
  have GA1 := Lib.hid ((GXA.out.trans (Gr.drew _ _)).trans g1)
  have DA1 := Lib.hid ((Gr.drew X3 (fun _ => False)).trans g1)
  refine hK.out _ _ (fun _ => S9H.out wA1 GA1.out) ?_
  clear g1
  clear hK K
  try simp only [Act.put, List.setIfInBounds_toArray, List.set_cons_zero, List.set_cons_succ]
  refine wpAnyL_one (i := 2) (by kernel_rfl) rfl (fun K hK => ?_)
  go_simp
  refine (int_c 1 _).mono ?_
  rintro e wA2 ⟨rfl, g2⟩
  have GA2 := Lib.hid (GA1.out.trans g2)
  have DA2 := Lib.hid (DA1.out.trans g2)
  refine hK.out _ _ (fun _ => S9H.out wA2 GA2.out) ?_
  clear g2
  clear hK K
  try simp only [Act.put, List.setIfInBounds_toArray, List.set_cons_zero, List.set_cons_succ]
  refine wpAnyL_one (i := 3) (by kernel_rfl) rfl (fun K hK => ?_)
  go_simp
  have GA3 := Lib.hid (GA2.out.trans (Gr.alloc wA2 (.cells #[.int .i64 1, .int .i64 1, .complex .f64 0 0, .string e0, .int .i64 0, .int .u32 0, .int .u64 0, nl, nl, .int .i64 1, .int .i64 1, .complex .f64 0 0, .string e0, .int .i64 0, .int .u32 0, .int .u64 0, nl, nl] 31) (fun _ => False)))
  refine hK.out _ _ (fun _ => S9H.out _ GA3.out) ?_
  clear hK K
  try simp only [Act.put, List.setIfInBounds_toArray, List.set_cons_zero, List.set_cons_succ]
  refine wpAnyL_one (i := 4) (by kernel_rfl) rfl (fun K hK => ?_)
  go_simp
  refine (pair_t wA2 { k := 1, n := 1 } { k := 1, n := 1 }).mono ?_
  rintro e wA4 ⟨tv4, rfl, hr4, g4⟩
  have GA4 := Lib.hid (GA2.out.trans g4)
  have DA4 := Lib.hid (DA2.out.trans g4)
  have RA4 := Lib.hid hr4
  refine hK.out _ _ (fun _ => S9H.out wA4 GA4.out) ?_
  clear g4 hr4
  clear hK K
  try simp only [Act.put, List.setIfInBounds_toArray, List.set_cons_zero, List.set_cons_succ]
  refine wpAnyL_one (i := 5) (by kernel_rfl) rfl (fun K hK => ?_)
  go_simp
  refine (match_xx wA4 1 1 inR12.1 inR12.1 _ _ (RP.out wA4 GA4.out) (RA4.out.turn (fun k hk hlt => ⟨hlt, rfl⟩))).mono ?_
  rintro e wA5 ⟨hres, g5⟩
  obtain ⟨-, kb, kc, e1, f1, e2, f2, hkc, rfl, hBd⟩ | ⟨hne, -⟩ := hres
  case inr => exact absurd rfl hne
  have GA5 := Lib.hid (GA4.out.trans g5)
  have DA5 := Lib.hid (DA4.out.trans g5)
  have HBd := Lib.hid hBd
  have Hkc := Lib.hid hkc
  refine hK.out _ _ (fun _ => S9H.out wA5 GA5.out) ?_
  clear g5 hBd hkc
  clear hK K
  try simp only [Act.put, List.setIfInBounds_toArray, List.set_cons_zero, List.set_cons_succ]
  refine wpAnyL_at (i := 6) (v := (.tuple #[.slice (some ⟨kb, 0, none⟩) 1 kc, .bool true, .int .i64 0])) (some 14) rfl rfl (by kernel_rfl) (by kernel_rfl) (by kernel_rfl) (by kernel_rfl) (by decide) (fun _ _ _ h => h) (Or.inl ⟨by rfl, ?_⟩) (S9H.out wA5 GA5.out) ?_
  · intro w hSw
    obtain ⟨q0, q1, q2, q3, q4, q5, q6, q7, q8⟩ := hSw
    go_simp
  try simp only [Act.put, List.setIfInBounds_toArray, List.set_cons_zero, List.set_cons_succ]
  refine wpAnyL_at (i := 7) (v := (.slice (some ⟨kb, 0, none⟩) 1 kc)) (some 21) rfl rfl (by kernel_rfl) (by kernel_rfl) (by kernel_rfl) (by kernel_rfl) (by decide) (fun _ _ _ h => h) (Or.inl ⟨by rfl, ?_⟩) (S9H.out wA5 GA5.out) ?_
  · intro w hSw
    obtain ⟨q0, q1, q2, q3, q4, q5, q6, q7, q8⟩ := hSw
    go_simp
  try simp only [Act.put, List.setIfInBounds_toArray, List.set_cons_zero, List.set_cons_succ]
  refine wpAnyL_at (i := 8) (v := (.bool true)) (some 22) rfl rfl (by kernel_rfl) (by kernel_rfl) (by kernel_rfl) (by kernel_rfl) (by decide) (fun _ _ _ h => h) (Or.inl ⟨by rfl, ?_⟩) (S9H.out wA5 GA5.out) ?_
  · intro w hSw
    obtain ⟨q0, q1, q2, q3, q4, q5, q6, q7, q8⟩ := hSw
    go_simp
  try simp only [Act.put, List.setIfInBounds_toArray, List.set_cons_zero, List.set_cons_succ]
  refine wpAnyL_at (i := 9) (v := (.int .i64 0)) (some 23) rfl rfl (by kernel_rfl) (by kernel_rfl) (by kernel_rfl) (by kernel_rfl) (by decide) (fun _ _ _ h => h) (Or.inl ⟨by rfl, ?_⟩) (S9H.out wA5 GA5.out) ?_
  · intro w hSw
    obtain ⟨q0, q1, q2, q3, q4, q5, q6, q7, q8⟩ := hSw
    go_simp
  try simp only [Act.put, List.setIfInBounds_toArray, List.set_cons_zero, List.set_cons_succ]
  refine wpAnyL_one (i := 10) (by kernel_rfl) rfl (fun K hK => ?_)
  go_simp
  refine hK.out _ _ (fun _ => S9H.out wA5 GA5.out) ?_
  clear hK K
  try simp only [Act.put, List.setIfInBounds_toArray, List.set_cons_zero, List.set_cons_succ]
  refine wpAnyL_one (i := 11) (by kernel_rfl) rfl (fun K hK => ?_)
  go_simp
  refine hK.out _ _ (fun _ => S9H.out wA5 GA5.out) ?_
  clear hK K
  try simp only [Act.put, List.setIfInBounds_toArray, List.set_cons_zero, List.set_cons_succ]
  refine wpAnyL_one (i := 12) (by kernel_rfl) rfl (fun K hK => ?_)
  go_simp
  refine hK.out _ _ (fun h => absurd rfl h) ?_
  clear hK K
  try simp only [Act.put, List.setIfInBounds_toArray, List.set_cons_zero, List.set_cons_succ]
  refine wpAnyL_done (by kernel_rfl) ?_ _
  refine NoPanic.normal ?_
  go_wp2_with fail
  have GXB := GA5
  refine wp_region_L (L := 12) (T := S9 pb (.int .i64 pk) (.int .i64 pn) (.complex .f64 px py) (.string pS) (.int .i64 pa) (.int .u32 pc) (.int .u64 pd) (.slice x1 m1 y1) (.slice x2 m2 y2)) (by kernel_rfl) ?_
  refine wpAnyL_at (i := 0) (v := (tv pk pn px py pS pa pc pd (.slice x1 m1 y1) (.slice x2 m2 y2))) (some 25) rfl rfl (by kernel_rfl) (by kernel_rfl) (by kernel_rfl) (by kernel_rfl) (by decide) (fun _ _ _ h => h) (Or.inl ⟨by rfl, ?_⟩) (S9H.out wA5.drew (GXB.out.trans (Gr.drew _ _))) ?_
  · intro w hSw
    obtain ⟨q0, q1, q2, q3, q4, q5, q6, q7, q8⟩ := hSw
    go_simp
  try simp only [Act.put, List.setIfInBounds_toArray, List.set_cons_zero, List.set_cons_succ]
  refine wpAnyL_one (i := 1) (by kernel_rfl) rfl (fun K hK => ?_)
  go_simp
  refine (int_c 1 _).mono ?_
  rintro e wB1 ⟨rfl, g1⟩
  have GB1 := Lib.hid ((GXB.out.trans (Gr.drew _ _)).trans g1)
  have DB1 := Lib.hid ((Gr.drew wA5 (fun _ => False)).trans g1)
  refine hK.out _ _ (fun _ => S9H.out wB1 GB1.out) ?_
  clear g1
  clear hK K
  try simp only [Act.put, List.setIfInBounds_toArray, List.set_cons_zero, List.set_cons_succ]
  refine wpAnyL_one (i := 2) (by kernel_rfl) rfl (fun K hK => ?_)
  go_simp
  refine (int_c 2 _).mono ?_
  rintro e wB2 ⟨rfl, g2⟩
  have GB2 := Lib.hid (GB1.out.trans g2)
  have DB2 := Lib.hid (DB1.out.trans g2)
  refine hK.out _ _ (fun _ => S9H.out wB2 GB2.out) ?_
  clear g2
  clear hK K
  try simp only [Act.put, List.setIfInBounds_toArray, List.set_cons_zero, List.set_cons_succ]
  refine wpAnyL_one (i := 3) (by kernel_rfl) rfl (fun K hK => ?_)
  go_simp
  have GB3 := Lib.hid (GB2.out.trans (Gr.alloc wB2 (.cells #[.int .i64 1, .int .i64 1, .complex .f64 0 0, .string e0, .int .i64 0, .int .u32 0, .int .u64 0, nl, nl, .int .i64 1, .int .i64 2, .complex .f64 0 0, .string e0, .int .i64 0, .int .u32 0, .int .u64 0, nl, nl] 31) (fun _ => False)))
  refine hK.out _ _ (fun _ => S9H.out _ GB3.out) ?_
  clear hK K
  try simp only [Act.put, List.setIfInBounds_toArray, List.set_cons_zero, List.set_cons_succ]
  refine wpAnyL_one (i := 4) (by kernel_rfl) rfl (fun K hK => ?_)
  go_simp
  refine (pair_t wB2 { k := 1, n := 1 } { k := 1, n := 2 }).mono ?_
  rintro e wB4 ⟨tv4, rfl, hr4, g4⟩
  have GB4 := Lib.hid (GB2.out.trans g4)
  have DB4 := Lib.hid (DB2.out.trans g4)
  have RB4 := Lib.hid hr4
  refine hK.out _ _ (fun _ => S9H.out wB4 GB4.out) ?_
  clear g4 hr4
  clear hK K
  try simp only [Act.put, List.setIfInBounds_toArray, List.set_cons_zero, List.set_cons_succ]
  refine wpAnyL_one (i := 5) (by kernel_rfl) rfl (fun K hK => ?_)
  go_simp
  refine (match_xx wB4 1 2 inR12.1 inR12.2 _ _ (RP.out wB4 GB4.out) (RB4.out.turn (fun k hk hlt => ⟨hlt, rfl⟩))).mono ?_
  rintro e wB5 ⟨hres, g5⟩
  obtain ⟨hne, -⟩ | ⟨-, rfl⟩ := hres
  case inl => exact absurd hne (by decide)
  have GB5 := Lib.hid (GB4.out.trans g5)
  have DB5 := Lib.hid (DB4.out.trans g5)
  have HGB5 := Lib.hid g5
  refine hK.out _ _ (fun _ => S9H.out wB5 GB5.out) ?_
  clear g5
  clear hK K
  try simp only [Act.put, List.setIfInBounds_toArray, List.set_cons_zero, List.set_cons_succ]
  refine wpAnyL_at (i := 6) (v := (.tuple #[.slice none 0 0, .bool false, .int .i64 0])) (some 24) rfl rfl (by kernel_rfl) (by kernel_rfl) (by kernel_rfl) (by kernel_rfl) (by decide) (fun _ _ _ h => h) (Or.inl ⟨by rfl, ?_⟩) (S9H.out wB5 GB5.out) ?_
  · intro w hSw
    obtain ⟨q0, q1, q2, q3, q4, q5, q6, q7, q8⟩ := hSw
    go_simp
  try simp only [Act.put, List.setIfInBounds_toArray, List.set_cons_zero, List.set_cons_succ]
  refine wpAnyL_at (i := 7) (v := (.slice none 0 0)) (some 31) rfl rfl (by kernel_rfl) (by kernel_rfl) (by kernel_rfl) (by kernel_rfl) (by decide) (fun _ _ _ h => h) (Or.inl ⟨by rfl, ?_⟩) (S9H.out wB5 GB5.out) ?_
  · intro w hSw
    obtain ⟨q0, q1, q2, q3, q4, q5, q6, q7, q8⟩ := hSw
    go_simp
  try simp only [Act.put, List.setIfInBounds_toArray, List.set_cons_zero, List.set_cons_succ]
  refine wpAnyL_at (i := 8) (v := (.bool false)) (some 32) rfl rfl (by kernel_rfl) (by kernel_rfl) (by kernel_rfl) (by kernel_rfl) (by decide) (fun _ _ _ h => h) (Or.inl ⟨by rfl, ?_⟩) (S9H.out wB5 GB5.out) ?_
  · intro w hSw
    obtain ⟨q0, q1, q2, q3, q4, q5, q6, q7, q8⟩ := hSw
    go_simp
  try simp only [Act.put, List.setIfInBounds_toArray, List.set_cons_zero, List.set_cons_succ]
  refine wpAnyL_at (i := 9) (v := (.int .i64 0)) (some 33) rfl rfl (by kernel_rfl) (by kernel_rfl) (by kernel_rfl) (by kernel_rfl) (by decide) (fun _ _ _ h => h) (Or.inl ⟨by rfl, ?_⟩) (S9H.out wB5 GB5.out) ?_
  · intro w hSw
    obtain ⟨q0, q1, q2, q3, q4, q5, q6, q7, q8⟩ := hSw
    go_simp
  try simp only [Act.put, List.setIfInBounds_toArray, List.set_cons_zero, List.set_cons_succ]
  refine wpAnyL_one (i := 10) (by kernel_rfl) rfl (fun K hK => ?_)
  go_simp
  refine hK.out _ _ (fun _ => S9H.out wB5 GB5.out) ?_
  clear hK K
  try simp only [Act.put, List.setIfInBounds_toArray, List.set_cons_zero, List.set_cons_succ]
  refine wpAnyL_one (i := 11) (by kernel_rfl) rfl (fun K hK => ?_)
  go_simp
  refine hK.out _ _ (fun _ => S9H.out wB5 GB5.out) ?_
  clear hK K
  try simp only [Act.put, List.setIfInBounds_toArray, List.set_cons_zero, List.set_cons_succ]
  refine wpAnyL_one (i := 12) (by kernel_rfl) rfl (fun K hK => ?_)
  go_simp
  refine hK.out _ _ (fun h => absurd rfl h) ?_
  clear hK K
  try simp only [Act.put, List.setIfInBounds_toArray, List.set_cons_zero, List.set_cons_succ]
  refine wpAnyL_done (by kernel_rfl) ?_ _
  refine NoPanic.normal ?_
  go_wp2_with fail
  refine (v_c sX _).mono ?_
  rintro e w6 ⟨rfl, g6⟩
  have D6 := Lib.hid (DB5.out.trans g6)
  have G6 := Lib.hid (GB5.out.trans g6)
  clear g6
  go_wp2_with fail
  refine (mkAtom_c sa _).mono ?_
  rintro e w7 ⟨rfl, g7⟩
  have D7 := Lib.hid (D6.out.trans g7)
  have G7 := Lib.hid (G6.out.trans g7)
  clear g7
  go_wp2_with fail
  refine (pair_t w7 { k := 9, s := sX } { k := 3, s := sa }).mono ?_
  rintro e w8 ⟨v8, rfl, hr8, g8⟩
  have D8 := Lib.hid (D7.out.trans g8)
  have G8 := Lib.hid (G7.out.trans g8)
  have R8 := Lib.hid hr8
  clear g8 hr8 D6 D7 G6 G7
  go_wp2_with fail
  refine (fill_c (fun k => k < w8.heap.size) w8 sX sa vX (by decide) atom_a (by decide) { k := 1, n := 1 } (by show (0 : Nat) ≤ 32; omega) (ok_int 1 inR12.1) v8 (R8.out.turn (fun k hk hlt => ⟨hlt, rfl⟩)) (fun _ h => h) kb kc Hkc.out e1 f1 e2 f2 (HBd.out.g D8.out (fun e => e))).mono ?_
  rintro e w9 ⟨⟨v9, rfl, hr9⟩, g9⟩
  obtain ⟨t9, bs9, l9, u1, o1, u2, o2, e9, rfl⟩ := hr9.ts
  cases e9
  have hat := hr9.box
  obtain ⟨ua, un, uc, hu8, hun, hue⟩ := hat.row
  obtain ⟨ub, hub, hucap, huat⟩ := hue (by simp)
  have e8 : Value.slice ua un uc = Value.slice u2 2 o2 := by
    have h8 : (w9.alloc (.cells #[.int .i64 6, .int .i64 0, .complex .f64 0 0, .string e0, .int .i64 0, .int .u32 0, .int .u64 0, .slice u1 0 o1, .slice u2 2 o2] 31)).cell? ⟨w9.heap.size, 0 + 8, none⟩ = some (.slice u2 2 o2) := by simp only [World.cell?, heap_alloc_new]; rfl
    have := hu8.symm.trans h8; simpa using this
  cases e8
  subst hub
  have ga := Gr.alloc w9 (.cells #[.int .i64 6, .int .i64 0, .complex .f64 0 0, .string e0, .int .i64 0, .int .u32 0, .int .u64 0, .slice u1 0 o1, .slice (some ⟨ub, 0, none⟩) 2 o2] 31) (fun _ => False)
  obtain ⟨w, hw, hwn⟩ := (huat 0 (.mk { k := 1, n := 1 } [] []) rfl).ns
  obtain ⟨q1, r1, q2, r2, rfl⟩ := leaf_v hw
  have hwn0 : Ns (w9.alloc (.cells #[.int .i64 6, .int .i64 0, .complex .f64 0 0, .string e0, .int .i64 0, .int .u32 0, .int .u64 0, .slice u1 0 o1, .slice (some ⟨ub, 0, none⟩) 2 o2] 31)) ub 0 (lv { k := 1, n := 1 } q1 r1 q2 r2) := hwn
  have HW := Lib.hid hwn0
  obtain ⟨n0, n1, n2, n3, n4, n5, n6, n7, n8⟩ := hwn0.facts
  have hubl := hwn0.lt
  have HT := Lib.hid (heap_alloc_new w9 (.cells #[.int .i64 6, .int .i64 0, .complex .f64 0 0, .string e0, .int .i64 0, .int .u32 0, .int .u64 0, .slice u1 0 o1, .slice (some ⟨ub, 0, none⟩) 2 o2] 31))
  have D9 := Lib.hid ((D8.out.trans g9).trans ga)
  have G9 := Lib.hid ((G8.out.trans g9).trans ga)
  have hocI : (2 : Int) ≤ (o2 : Int) := by have h2 : 2 ≤ o2 := hucap; omega
  have hkcI : (1 : Int) ≤ (kc : Int) := by have := Hkc.out; omega
  obtain ⟨⟨k0, k1, k2, k3, k4, k5, k6, k7, k8, k9⟩, hkl⟩ := (HBd.out.g D9.out (fun e => e)).facts
  clear hat hu8 hue huat hw hwn hwn0 hr9 g9 ga D8 G8 hucap R8
  go_wp2_with (first
    | (go_at_call 5; generalize World.alloc w9 _ = X9 at HW HT D9 G9 ⊢; generalize w9.heap.size = tb9 at HT ⊢; refine (v_c sU _).mono ?_; rintro e wa ⟨rfl, ga⟩; have Ga := Lib.hid (G9.out.trans ga); clear ga)
    | (go_at_call 12; refine (pcheck_var _ sU false vU).mono ?_; rintro e wb ⟨rfl, gb⟩; have Gb := Lib.hid (Ga.out.trans gb); obtain ⟨s0, s1, s2, s3, s4, s5, s6, s7, s8⟩ := S9H.out wb Gb.out; clear gb)
    | (go_at_call 13; refine (vars_c (fun k => k < wb.heap.size) wb 6 (.inl rfl) [sX, sX] [sX] _ (by decide) (RP.out wb Gb.out) (fun _ h => h) hzXX gathXX).mono ?_; rintro e wc ⟨⟨av, cv, rfl⟩, gc⟩)
    | fail)
  go_ret
  exact ⟨rfl, (G3.out.trans Gb.out).trans gc⟩
end Go.Proofs.Ytfamepdghememaa

