/-
  How own moves: each step's float given.
-/
import Derived.Test.YtedmfnleckelaaaA
import Derived.Laws.ComplexArith
import Derived.Laws.FloatArith
set_option linter.unusedVariables false
set_option linter.unusedSimpArgs false
namespace Go.Proofs.Ytedmfnleckelaaa
open Go.RowKit
variable {S S' : Nat → Prop} {W W1 W' : World}

abbrev ad (x y r : Nat) : Prop := Ieee.double.add x y = some r
abbrev sb (x y r : Nat) : Prop := Ieee.double.sub x y = some r
abbrev ml (x y r : Nat) : Prop := Ieee.double.mul x y = some r
abbrev dv (x y r : Nat) : Prop := Ieee.double.div x y = some r
theorem run_ad {x y r : Nat} (h : ad x y r) (w : World) : (binOp .add 24 (.float .f64 x) (.float .f64 y)).run Try.prog w = .ok (.float .f64 r) w := run_float_arith w .add 24 .f64 x y r h
theorem run_sb {x y r : Nat} (h : sb x y r) (w : World) : (binOp .sub 24 (.float .f64 x) (.float .f64 y)).run Try.prog w = .ok (.float .f64 r) w := run_float_arith w .sub 24 .f64 x y r h
theorem run_ml {x y r : Nat} (h : ml x y r) (w : World) : (binOp .mul 24 (.float .f64 x) (.float .f64 y)).run Try.prog w = .ok (.float .f64 r) w := run_float_arith w .mul 24 .f64 x y r h
theorem run_dv {x y r : Nat} (h : dv x y r) (w : World) : (binOp .quo 24 (.float .f64 x) (.float .f64 y)).run Try.prog w = .ok (.float .f64 r) w := run_float_arith w .quo 24 .f64 x y r h
theorem run_csb {a b c d x y : Nat} (h1 : sb a c x) (h2 : sb b d y) (w : World) : (binOp .sub 23 (.complex .f64 a b) (.complex .f64 c d)).run Try.prog w = .ok (.complex .f64 x y) w := by
  refine run_complex_sum w .sub (.inr rfl) 23 .f64 a b c d x y ?_
  have e1 : floatBits .sub .f64 a c = some x := h1
  have e2 : floatBits .sub .f64 b d = some y := h2
  simp [cSumBits, e1, e2]

theorem square_c (x y a b s : Nat) (h1 : ml x x a) (h2 : ml y y b) (h3 : ad a b s) (w : World) : Calls Try.prog 19 #[.complex .f64 x y] w fun e w' => e = .returned (.float .f64 s) ∧ w = w' := by
  have r1 := run_ml h1
  have r2 := run_ml h2
  have r3 := run_ad h3
  clear h1 h2 h3
  go_enter Try.func19, Try.ntmps19
  go_wp2
  go_ret
  exact ⟨rfl, rfl⟩

theorem moved_stay (px py zx zy dx dy a b s : Nat) (trip : Int) (h1 : sb px zx dx) (h2 : sb py zy dy) (h3 : ml dx dx a) (h4 : ml dy dy b) (h5 : ad a b s) (h0 : FloatKind.f64.format.order s 0 = some .eq) (w : World) :
    Calls Try.prog 11 #[.complex .f64 px py, .complex .f64 zx zy, .int .i64 trip] w fun e w' => e = .returned (.complex .f64 px py) ∧ w = w' := by
  have r1 := run_csb h1 h2
  have r2 := square_c dx dy a b s h3 h4 h5
  clear h1 h2 h3 h4 h5
  go_enter Try.func11, Try.ntmps11
  go_wp2_with fail
  refine (r2 _).mono ?_
  rintro e w' ⟨rfl, rfl⟩
  go_wp2_with fail
  go_ret
  exact ⟨rfl, rfl⟩

set_option maxRecDepth 20000 in
set_option maxHeartbeats 1000000 in
theorem moved_go (px py zx zy dx dy a b s t v n m m1 q g gx gy x y : Nat) (trip : Int) (h1 : sb px zx dx) (h2 : sb py zy dy) (h3 : ml dx dx a) (h4 : ml dy dy b) (h5 : ad a b s) (h0 : (FloatKind.f64.format.order s 0 == some .eq) = false)
    (ht : floatOfInt .f64 trip = t) (h6 : ml t t v) (h7 : sb v s n) (h8 : ad v s m) (h9 : ad m 4607182418800017408 m1) (k1 : dv n m1 q) (k2 : dv q 4634204016564240384 g) (k3 : ml dx g gx) (k4 : ad px gx x) (k5 : ml dy g gy) (k6 : ad py gy y) (hx : Pl x) (hy : Pl y) (w : World) :
    Calls Try.prog 11 #[.complex .f64 px py, .complex .f64 zx zy, .int .i64 trip] w fun e w' => e = .returned (.complex .f64 x y) ∧ G0 w w' := by
  have r1 := run_csb h1 h2
  have r2 := square_c dx dy a b s h3 h4 h5
  have r3 := run_ml h6
  have r4 := run_sb h7
  have r5 := run_ad h8
  have r6 := run_ad h9
  have r7 := run_dv k1
  have r8 := run_dv k2
  have r9 := run_ml k3
  have r10 := run_ad k4
  have r11 := run_ml k5
  have r12 := run_ad k6
  have r13 := cx_c x y hx hy
  clear h1 h2 h3 h4 h5 h6 h7 h8 h9 k1 k2 k3 k4 k5 k6 hx hy
  go_enter Try.func11, Try.ntmps11
  go_wp2_with fail
  refine (r2 _).mono ?_
  rintro e w' ⟨rfl, rfl⟩
  go_wp2_with fail
  refine (r13 _).mono ?_
  rintro e w1 ⟨rfl, g1⟩
  go_wp2_with fail
  go_ret
  exact ⟨rfl, g1.trans (Gr.alloc _ _ _)⟩
end Go.Proofs.Ytedmfnleckelaaa
