/-
  Carried over from another seat of ours (QF).
-/
import Derived.Test.YtfamepdghememaaQE
set_option linter.unusedVariables false
set_option linter.unusedSimpArgs false
namespace Go.Proofs.Ytfamepdghememaa
open Go.RowKit Go.Maps Go.WideMaps
attribute [local go_sem] Oper.semAt_some
variable {S S' : Nat → Prop} {W W1 W' : World}
abbrev z9 : Value := lf 0 0 0 0 e0 0 0 0
abbrev oz9 : Obj := .cells #[.int .i64 0, .int .i64 0, .complex .f64 0 0, .string e0, .int .i64 0, .int .u32 0, .int .u64 0, nl, nl] 31
abbrev iv (n : Int) (a1 : Option Addr) (c1 : Nat) (a2 : Option Addr) (c2 : Nat) : Value := ts 1 n 0 0 e0 0 0 0 a1 0 c1 a2 0 c2
/-- Same of two ints. -/
def SameOk : Prop := ∀ (W : World) (a b : Int) (a1 : Option Addr) (c1 : Nat) (a2 : Option Addr) (c2 : Nat) (b1 : Option Addr) (d1 : Nat) (b2 : Option Addr) (d2 : Nat), inR a = true → inR b = true →
  Calls Try.prog 29 #[iv a a1 c1 a2 c2, iv b b1 d1 b2 d2] W fun e w' => e = .returned (.bool (a == b)) ∧ Gr (fun _ => False) W w'
theorem Mo.ne {mb n : Nat} {z : Value} {R : ByteArray → Option Value} (h : Mo W mb z n R) {g o : Nat} {u : Value} (hc : W.cell? ⟨g, o, none⟩ = some u) : g ≠ mb := by
  rintro rfl
  obtain ⟨D, ⟨es, clock, h1, _⟩, _⟩ := h
  simp [World.cell?, h1] at hc
set_option maxRecDepth 20000 in
set_option maxHeartbeats 800000 in
theorem meet_new (W : World) (mb n : Nat) (R : ByteArray → Option Value) (hM : Mo W mb z9 n R) (s : ByteArray) (hs : s.size ≤ 1000) (hn : n ≤ 100000) (hR : R s = none) (g o : Nat) (k m : Int) (x y : Nat) (t : ByteArray) (a c d : Int) (a1 : Option Addr) (n1 c1 : Nat) (a2 : Option Addr) (n2 c2 : Nat) (h : Ns W g o (ts k m x y t a c d a1 n1 c1 a2 n2 c2)) :
    Calls Try.prog 27 #[.map (some mb), .string s, ptr g o] W fun e w' => e = .returned (.bool true) ∧ Mo w' mb z9 (n + 1) (ins R s (ts k m x y t a c d a1 n1 c1 a2 n2 c2)) ∧ Gr (fun i => i = mb) W w' := by
  have hl := hM.look Try.underlying48 (zero31 W) s hs
  rw [hR] at hl
  have ga := Gr.alloc W oz9 (fun _ => False)
  obtain ⟨w', hp, hM', hg, -⟩ := (hM.gr ga (fun e => e)).put Try.underlying48 s hs (by omega) (ts k m x y t a c d a1 n1 c1 a2 n2 c2)
  rw [hR] at hM'
  obtain ⟨f0, f1, f2, f3, f4, f5, f6, f7, f8⟩ := (h.gr ga).facts
  have hlt := h.lt
  have HM := Lib.hid hM'
  have HG := Lib.hid ((Gr.alloc W oz9 (fun i => i = mb)).trans hg)
  clear hM hM' hg h ga
  go_enter Try.func27, Try.ntmps27
  go_wp2
  go_ret
  exact ⟨rfl, HM.out, HG.out⟩
set_option maxRecDepth 20000 in
set_option maxHeartbeats 800000 in
theorem meet_known (hS : SameOk) (W : World) (mb n : Nat) (R : ByteArray → Option Value) (hM : Mo W mb z9 n R) (s : ByteArray) (hs : s.size ≤ 1000) (g o : Nat) (p q : Int) (a1 : Option Addr) (c1 : Nat) (a2 : Option Addr) (c2 : Nat) (b1 : Option Addr) (d1 : Nat) (b2 : Option Addr) (d2 : Nat) (hR : R s = some (iv p a1 c1 a2 c2)) (h : Ns W g o (iv q b1 d1 b2 d2)) (hp : inR p = true) (hq : inR q = true) :
    Calls Try.prog 27 #[.map (some mb), .string s, ptr g o] W fun e w' => e = .returned (.bool (p == q)) ∧ Gr (fun _ => False) W w' := by
  have hl := hM.look Try.underlying48 (zero31 W) s hs
  rw [hR] at hl
  have ga := Gr.alloc W (.cells #[.int .i64 1, .int .i64 p, .complex .f64 0 0, .string e0, .int .i64 0, .int .u32 0, .int .u64 0, .slice a1 0 c1, .slice a2 0 c2] 31) (fun _ => False)
  obtain ⟨f0, f1, f2, f3, f4, f5, f6, f7, f8⟩ := (h.gr ga).facts
  have hlt := h.lt
  have hsm := Lib.hid (fun w => hS w p q a1 c1 a2 c2 b1 d1 b2 d2 hp hq)
  have HG := Lib.hid ga
  clear hM h hp hq ga hS
  go_enter Try.func27, Try.ntmps27
  go_wp2_with fail
  go_region_with (first | (go_at_call 29; refine (hsm.out _).mono ?_; rintro e w2 ⟨rfl, g2⟩) | fail)
  all_goals
    go_wp2_with fail
    go_ret
    exact ⟨rfl, (HG.out.trans (Gr.drew _ _)).trans g2⟩
end Go.Proofs.Ytfamepdghememaa

