/-
  Carried over from another seat of ours (QQ).
-/
import Derived.Test.YtfamepdghememaaQP
set_option linter.unusedVariables false
set_option linter.unusedSimpArgs false
namespace Go.Proofs.Ytfamepdghememaa
open Go.RowKit Go.Maps Go.WideMaps
attribute [local go_sem] Oper.semAt_some
variable {S S' : Nat → Prop} {W W1 W' : World}
theorem info31b : (Try.prog.info? 31).map (fun i => (i.zero, i.size, i.bytes)) = some (some (lf 0 0 0 0 e0 0 0 0), 9, 120) := by kernel_rfl
theorem wpList_look {w w' : World} {ops : Array Oper} {rest : List Oper} {o : Oper} {a : Act} {Q : Exit → Act → World → Prop} (hgd : o.guard = none) (t : TypeId) (x y : Operand) (b : Bool)
    (ho : o.op = .lookup t x y b) {v : Value} (hr : (Instr.lookup t (a.eval x) (a.eval y) b).run Try.prog w = .ok v w') (h : wpList Try.prog ops Q rest (a.put o.dst v) w') :
    wpList Try.prog ops Q (o :: rest) a w := by
  refine wpList_plain hgd fun K hK => ?_
  unfold Oper.wp execOp
  simp only [ho, Sem.run_bind, Sem.run_pure, Result.andThen_ok, hr]
  exact hK _ _ h
theorem wpList_make {w w' : World} {ops : Array Oper} {rest : List Oper} {o : Oper} {a : Act} {Q : Exit → Act → World → Prop} (hgd : o.guard = none) (t : TypeId) (x y : Operand)
    (ho : o.op = .makeSlice t x y) {v : Value} (hr : (Instr.makeSlice t (a.eval x) (a.eval y)).run Try.prog w = .ok v w') (h : wpList Try.prog ops Q rest (a.put o.dst v) w') :
    wpList Try.prog ops Q (o :: rest) a w := by
  refine wpList_plain hgd fun K hK => ?_
  unfold Oper.wp execOp
  simp only [ho, Sem.run_bind, Sem.run_pure, Result.andThen_ok, hr]
  exact hK _ _ h
set_option maxRecDepth 20000 in
set_option maxHeartbeats 800000 in
theorem fill_var (W : World) (mb n : Nat) (R : ByteArray → Option Value) (hM : Mo W mb z9 n R) (s : ByteArray) (hs : s.size ≤ 1000) (t : Lf) (x1 : Option Addr) (y1 : Nat) (x2 : Option Addr) (y2 : Nat) (hR : R s = some (lv t x1 y1 x2 y2)) (a1 : Option Addr) (c1 : Nat) (a2 : Option Addr) (c2 : Nat) :
    Calls Try.prog 21 #[.map (some mb), ts 9 0 0 0 s 0 0 0 a1 0 c1 a2 0 c2] W fun e w' => e = .returned (.tuple #[lv t x1 y1 x2 y2, .bool true]) ∧ Gr (fun _ => False) W w' := by
  have gA := Gr.alloc W (.cells #[.int .i64 9, .int .i64 0, .complex .f64 0 0, .string s, .int .i64 0, .int .u32 0, .int .u64 0, .slice a1 0 c1, .slice a2 0 c2] 31) (fun _ => False)
  have gB := Gr.alloc (W.alloc (.cells #[.int .i64 9, .int .i64 0, .complex .f64 0 0, .string s, .int .i64 0, .int .u32 0, .int .u64 0, .slice a1 0 c1, .slice a2 0 c2] 31)) (oz9) (fun _ => False)
  have hbp := gB.keep (heap_alloc_new W (.cells #[.int .i64 9, .int .i64 0, .complex .f64 0 0, .string s, .int .i64 0, .int .u32 0, .int .u64 0, .slice a1 0 c1, .slice a2 0 c2] 31)) (fun e => e)
  have hbt := heap_alloc_new (W.alloc (.cells #[.int .i64 9, .int .i64 0, .complex .f64 0 0, .string s, .int .i64 0, .int .u32 0, .int .u64 0, .slice a1 0 c1, .slice a2 0 c2] 31)) (oz9)
  rw [World.size_alloc] at hbt
  have Hbp := Lib.hid hbp
  have Hbt := Lib.hid hbt
  have G0 := Lib.hid (gA.trans gB)
  have Z0 : Hid (((W.alloc (.cells #[.int .i64 9, .int .i64 0, .complex .f64 0 0, .string s, .int .i64 0, .int .u32 0, .int .u64 0, .slice a1 0 c1, .slice a2 0 c2] 31)).alloc oz9).heap.size = W.heap.size + 2) := Lib.hid (by simp)
  clear hbp hbt gA gB
  have HM := Lib.hid hM
  clear hM
  obtain ⟨tk, tn, tx, ty, tS, ta, tc, td⟩ := t
  go_enter Try.func21, Try.ntmps21
  go_wp2_with (first
    | (generalize World.alloc (World.alloc W _) _ = X0 at Hbp Hbt G0 Z0 ⊢; have hl := (HM.out.gr G0.out (fun e => e)).look Try.underlying48 (zero31 _) s hs; rw [hR] at hl; refine wpList_look rfl 48 (.tmp 21) (.tmp 23) true rfl hl ?_; clear hl; obtain ⟨⟨z0, z1, z2, z3, z4, z5, z6, z7, z8⟩, zf⟩ := nine Hbt.out; have lz := (Array.getElem?_eq_some_iff.1 Hbt.out).1)
    | fail)
  refine bodyPost_ret (v := .tuple #[ts tk tn tx ty tS ta tc td x1 0 y1 x2 0 y2, .bool true]) (by simp [results, Try.results21, go_sem, z0, z1, z2, z3, z4, z5, z6, z7, z8, lz]) rfl ⟨rfl, ?_⟩
  first
    | exact (G0.out.set9 (g := W.heap.size + 1) (Nat.le_succ _) _ _ _ _ _ _ _ _ _).trans (Gr.alloc _ _ _)
    | exact (G0.out.trans (Gr.alloc _ _ _)).set9 (g := W.heap.size + 1) (Nat.le_succ _) _ _ _ _ _ _ _ _ _
set_option maxRecDepth 20000 in
set_option maxHeartbeats 800000 in
theorem fill_atom (W : World) (mb : Nat) (s : ByteArray) (a1 : Option Addr) (c1 : Nat) (a2 : Option Addr) (c2 : Nat) :
    Calls Try.prog 21 #[.map (some mb), ts 3 0 0 0 s 0 0 0 a1 0 c1 a2 0 c2] W fun e w' => (∃ b1 d1 b2 d2, e = .returned (.tuple #[ts 3 0 0 0 s 0 0 0 b1 0 d1 b2 0 d2, .bool true])) ∧ Gr (fun _ => False) W w' := by
  have gA := Gr.alloc W (.cells #[.int .i64 3, .int .i64 0, .complex .f64 0 0, .string s, .int .i64 0, .int .u32 0, .int .u64 0, .slice a1 0 c1, .slice a2 0 c2] 31) (fun _ => False)
  have gB := Gr.alloc (W.alloc (.cells #[.int .i64 3, .int .i64 0, .complex .f64 0 0, .string s, .int .i64 0, .int .u32 0, .int .u64 0, .slice a1 0 c1, .slice a2 0 c2] 31)) (oz9) (fun _ => False)
  have hbp := gB.keep (heap_alloc_new W (.cells #[.int .i64 3, .int .i64 0, .complex .f64 0 0, .string s, .int .i64 0, .int .u32 0, .int .u64 0, .slice a1 0 c1, .slice a2 0 c2] 31)) (fun e => e)
  have hbt := heap_alloc_new (W.alloc (.cells #[.int .i64 3, .int .i64 0, .complex .f64 0 0, .string s, .int .i64 0, .int .u32 0, .int .u64 0, .slice a1 0 c1, .slice a2 0 c2] 31)) (oz9)
  rw [World.size_alloc] at hbt
  have Hbp := Lib.hid hbp
  have Hbt := Lib.hid hbt
  have G0 := Lib.hid (gA.trans gB)
  have Z0 : Hid (((W.alloc (.cells #[.int .i64 3, .int .i64 0, .complex .f64 0 0, .string s, .int .i64 0, .int .u32 0, .int .u64 0, .slice a1 0 c1, .slice a2 0 c2] 31)).alloc oz9).heap.size = W.heap.size + 2) := Lib.hid (by simp)
  clear hbp hbt gA gB
  obtain ⟨i0, hi0, hj0, hj1, hj2⟩ := info_parts info31b
  go_enter Try.func21, Try.ntmps21
  go_wp2_with (first
    | (generalize World.alloc (World.alloc W _) _ = X0 at Hbp Hbt G0 Z0 ⊢; obtain ⟨w1, hmk, hown, hgr⟩ := run_makeSlice_full (P := Try.prog) X0 0 23 31 i0 _ 9 Try.underlying23 hi0 hj0 hj1 .i64 .i64 0 (by decide) (by rw [hj2]; decide) (by unfold maxLen; decide) (Nat.zero_le _); refine wpList_make rfl 23 (.tmp 31) (.tmp 31) rfl hmk ?_; have g1 : Gr (fun _ => False) X0 w1 := Gr.of_grown hgr (fun k e => by cases e); have G1 := Lib.hid (G0.out.trans g1); have H1 := Lib.hid (g1.keep Hbp.out (fun e => e)); have H2 := Lib.hid (g1.keep Hbt.out (fun e => e)); obtain ⟨⟨u0, u1, u2, u3, u4, u5, u6, u7, u8⟩, uf⟩ := nine H1.out; have lu := (Array.getElem?_eq_some_iff.1 H1.out).1; obtain ⟨⟨z0, z1, z2, z3, z4, z5, z6, z7, z8⟩, zf⟩ := nine H2.out; have lz := (Array.getElem?_eq_some_iff.1 H2.out).1; clear hown hgr g1 hmk)
    | fail)
  go_loopw [36] (fun v wr => v = .int .i64 0 ∧ wr = w1) (fun _ _ => 0)
  case atStart => exact ⟨rfl, rfl⟩
  case round =>
    obtain ⟨rfl, rfl⟩ := hrel
    have uf8 := uf 8
    go_wp2_with fail
    refine bodyPost_ret (v := .tuple #[ts 3 0 0 0 s 0 0 0 a1 0 c1 (some ⟨X0.heap.size, 0, none⟩) 0 0, .bool true]) (by simp [results, Try.results21, go_sem, z0, z1, z2, z3, z4, z5, z6, z7, z8, lz]) rfl ⟨⟨_, _, _, _, rfl⟩, ?_⟩
    exact (G1.out.setNew (p := ⟨W.heap.size, 8, none⟩) (Nat.le_refl _)).set9 (g := W.heap.size + 1) (Nat.le_succ _) _ _ _ _ _ _ _ _ _
end Go.Proofs.Ytfamepdghememaa

