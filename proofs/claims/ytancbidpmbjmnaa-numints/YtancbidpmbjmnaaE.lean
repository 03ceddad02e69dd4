import Derived.Test.YtancbidpmbjmnaaD
namespace Go.Proofs.Ytancbidpmbjmnaa
open Go.RowKit
set_option linter.unusedVariables false
@[go_sem] theorem cf34 (x : Nat) (w : World) : (callFunc 34 #[.float .f64 x]).run Try.prog w = .ok (Next.value (.int .u64 x)) w := by kernel_rfl
@[go_sem] theorem cf37_0 (w : World) : (callFunc 37 #[.int .u64 0]).run Try.prog w = .ok (Next.value (.float .f64 0)) w := by kernel_rfl
@[go_sem] theorem cf37_1 (w : World) : (callFunc 37 #[.int .u64 4607182418800017408]).run Try.prog w = .ok (Next.value (.float .f64 4607182418800017408)) w := by kernel_rfl
@[go_sem] theorem mul00 (w : World) : (binOp .mul 37 (.float .f64 0) (.float .f64 0)).run Try.prog w = .ok (.float .f64 0) w := by kernel_rfl
@[go_sem] theorem mul01 (w : World) : (binOp .mul 37 (.float .f64 0) (.float .f64 4607182418800017408)).run Try.prog w = .ok (.float .f64 0) w := by kernel_rfl
@[go_sem] theorem mul10 (w : World) : (binOp .mul 37 (.float .f64 4607182418800017408) (.float .f64 0)).run Try.prog w = .ok (.float .f64 0) w := by kernel_rfl
@[go_sem] theorem mul11 (w : World) : (binOp .mul 37 (.float .f64 4607182418800017408) (.float .f64 4607182418800017408)).run Try.prog w = .ok (.float .f64 4607182418800017408) w := by kernel_rfl
@[go_sem] theorem sub01 (w : World) : (binOp .sub 37 (.float .f64 0) (.float .f64 4607182418800017408)).run Try.prog w = .ok (.float .f64 13830554455654793216) w := by kernel_rfl
@[go_sem] theorem add00 (w : World) : (binOp .add 37 (.float .f64 0) (.float .f64 0)).run Try.prog w = .ok (.float .f64 0) w := by kernel_rfl
@[go_sem] theorem an0 : bits .andNot .u64 0 9223372036854775808 = 0 := by kernel_rfl
@[go_sem] theorem an1 : bits .andNot .u64 4607182418800017408 9223372036854775808 = 4607182418800017408 := by kernel_rfl
@[go_sem] theorem anm : bits .andNot .u64 13830554455654793216 9223372036854775808 = 4607182418800017408 := by kernel_rfl
@[go_sem] theorem o11 : FloatKind.f64.format.order 4607182418800017408 4607182418800017408 = some .eq := by kernel_rfl
@[go_sem] theorem omm : FloatKind.f64.format.order 13830554455654793216 13830554455654793216 = some .eq := by kernel_rfl
@[go_sem] theorem o0x : FloatKind.f64.format.order 0 9218868437227405311 = some .lt := by kernel_rfl
@[go_sem] theorem o1x : FloatKind.f64.format.order 4607182418800017408 9218868437227405311 = some .lt := by kernel_rfl
@[go_sem] theorem om0 : FloatKind.f64.format.order 13830554455654793216 0 = some .lt := by kernel_rfl
@[go_sem] theorem o10 : FloatKind.f64.format.order 4607182418800017408 0 = some .gt := by kernel_rfl
set_option maxHeartbeats 400000 in
theorem fin_0 (w : World) : Calls Try.prog 15 #[.float .f64 0] w fun e w' => e = .returned (.bool true) ∧ w' = w := by
  go_enter Try.func15, Try.ntmps15
  go_wp2
  go_ret
  exact ⟨rfl, rfl⟩
set_option maxHeartbeats 400000 in
theorem fin_1 (w : World) : Calls Try.prog 15 #[.float .f64 4607182418800017408] w fun e w' => e = .returned (.bool true) ∧ w' = w := by
  go_enter Try.func15, Try.ntmps15
  go_wp2
  go_ret
  exact ⟨rfl, rfl⟩
set_option maxHeartbeats 400000 in
theorem fin_m (w : World) : Calls Try.prog 15 #[.float .f64 13830554455654793216] w fun e w' => e = .returned (.bool true) ∧ w' = w := by
  go_enter Try.func15, Try.ntmps15
  go_wp2
  go_ret
  exact ⟨rfl, rfl⟩
set_option maxHeartbeats 400000 in
theorem rp_0 (w : World) : Calls Try.prog 12 #[.float .f64 0] w fun e w' => e = .returned (.bool true) ∧ w' = w := by
  go_enter Try.func12, Try.ntmps12
  go_wp2
  go_ret
  exact ⟨rfl, rfl⟩
set_option maxHeartbeats 400000 in
theorem rp_1 (w : World) : Calls Try.prog 12 #[.float .f64 4607182418800017408] w fun e w' => e = .returned (.bool true) ∧ w' = w := by
  go_enter Try.func12, Try.ntmps12
  go_wp2
  go_ret
  exact ⟨rfl, rfl⟩
set_option maxHeartbeats 400000 in
theorem cl_0 (w : World) : Calls Try.prog 35 #[.float .f64 0] w fun e w' => e = .returned (.float .f64 0) ∧ w' = w := by
  go_enter Try.func35, Try.ntmps35
  go_wp2
  go_ret
  exact ⟨rfl, rfl⟩
set_option maxHeartbeats 400000 in
theorem cl_m (w : World) : Calls Try.prog 35 #[.float .f64 13830554455654793216] w fun e w' => e = .returned (.float .f64 13830554455654793216) ∧ w' = w := by
  go_enter Try.func35, Try.ntmps35
  go_wp2
  go_ret
  exact ⟨rfl, rfl⟩
set_option maxHeartbeats 400000 in
theorem tm00 (w : World) : Calls Try.prog 29 #[.float .f64 0, .float .f64 0] w fun e w' => e = .returned (.float .f64 0) ∧ w' = w := by
  go_enter Try.func29, Try.ntmps29
  go_wp2
  go_ret
  exact ⟨rfl, rfl⟩
set_option maxHeartbeats 400000 in
theorem tm01 (w : World) : Calls Try.prog 29 #[.float .f64 0, .float .f64 4607182418800017408] w fun e w' => e = .returned (.float .f64 0) ∧ w' = w := by
  go_enter Try.func29, Try.ntmps29
  go_wp2
  go_ret
  exact ⟨rfl, rfl⟩
set_option maxHeartbeats 400000 in
theorem tm10 (w : World) : Calls Try.prog 29 #[.float .f64 4607182418800017408, .float .f64 0] w fun e w' => e = .returned (.float .f64 0) ∧ w' = w := by
  go_enter Try.func29, Try.ntmps29
  go_wp2
  go_ret
  exact ⟨rfl, rfl⟩
set_option maxHeartbeats 400000 in
theorem tm11 (w : World) : Calls Try.prog 29 #[.float .f64 4607182418800017408, .float .f64 4607182418800017408] w fun e w' => e = .returned (.float .f64 4607182418800017408) ∧ w' = w := by
  go_enter Try.func29, Try.ntmps29
  go_wp2
  go_ret
  exact ⟨rfl, rfl⟩
set_option maxHeartbeats 400000 in
theorem mn01 (w : World) : Calls Try.prog 27 #[.float .f64 0, .float .f64 4607182418800017408] w fun e w' => e = .returned (.float .f64 13830554455654793216) ∧ w' = w := by
  go_enter Try.func27, Try.ntmps27
  go_wp2
  go_ret
  exact ⟨rfl, rfl⟩
set_option maxHeartbeats 400000 in
theorem pl00 (w : World) : Calls Try.prog 25 #[.float .f64 0, .float .f64 0] w fun e w' => e = .returned (.float .f64 0) ∧ w' = w := by
  go_enter Try.func25, Try.ntmps25
  go_wp2
  go_ret
  exact ⟨rfl, rfl⟩
abbrev tCx (x y : Nat) : Value := .agg #[.int .i64 2, .int .i64 0, .complex .f64 x y, .string { data := #[] }, .int .i64 0, .int .u32 0, .int .u64 0, .slice none 0 0, .slice none 0 0]
set_option maxHeartbeats 400000 in
theorem right_i (w : World) : Calls Try.prog 8 #[tCx 0 4607182418800017408] w fun e w' => e = .returned (.bool true) ∧ Kp w w' := by
  go_enter Try.func8, Try.ntmps8
  go_wp2_with fail
  refine (rp_0 _).mono ?_
  rintro e w' ⟨rfl, rfl⟩
  go_wp2_with fail
  refine (rp_1 _).mono ?_
  rintro e w' ⟨rfl, rfl⟩
  go_wp2
  go_ret
  exact ⟨rfl, (Kp.refl _).alloc _ _⟩
set_option maxHeartbeats 400000 in
theorem as_i (w : World) : Calls Try.prog 11 #[tCx 0 4607182418800017408] w fun e w' => e = .returned (.complex .f64 0 4607182418800017408) ∧ Kp w w' := by
  go_enter Try.func11, Try.ntmps11
  go_wp2
  go_ret
  exact ⟨rfl, (Kp.refl _).alloc _ _⟩
set_option maxHeartbeats 400000 in
theorem right_z (w : World) : Calls Try.prog 8 #[tCx 0 0] w fun e w' => e = .returned (.bool true) ∧ Kp w w' := by
  go_enter Try.func8, Try.ntmps8
  go_wp2_with fail
  refine (rp_0 _).mono ?_
  rintro e w' ⟨rfl, rfl⟩
  go_wp2_with fail
  refine (rp_0 _).mono ?_
  rintro e w' ⟨rfl, rfl⟩
  go_wp2
  go_ret
  exact ⟨rfl, (Kp.refl _).alloc _ _⟩
set_option maxHeartbeats 400000 in
theorem as_z (w : World) : Calls Try.prog 11 #[tCx 0 0] w fun e w' => e = .returned (.complex .f64 0 0) ∧ Kp w w' := by
  go_enter Try.func11, Try.ntmps11
  go_wp2
  go_ret
  exact ⟨rfl, (Kp.refl _).alloc _ _⟩
set_option maxHeartbeats 400000 in
theorem cx_m (w : World) : Calls Try.prog 24 #[.complex .f64 13830554455654793216 0] w fun e w' => e = .returned (.tuple #[tCx 13830554455654793216 0, .int .i64 0]) ∧ Kp w w' := by
  go_enter Try.func24, Try.ntmps24
  go_wp2_with fail
  refine (fin_m _).mono ?_
  rintro e w' ⟨rfl, rfl⟩
  go_wp2_with fail
  refine (fin_0 _).mono ?_
  rintro e w' ⟨rfl, rfl⟩
  go_wp2_with fail
  refine (cl_m _).mono ?_
  rintro e w' ⟨rfl, rfl⟩
  go_wp2_with fail
  refine (cl_0 _).mono ?_
  rintro e w' ⟨rfl, rfl⟩
  go_wp2
  exact bodyPost_ret (v := .tuple #[tCx 13830554455654793216 0, .int .i64 0]) (by simp [results, Try.results24, go_sem]) rfl ⟨rfl, (Kp.refl _).alloc _ _⟩
end Go.Proofs.Ytancbidpmbjmnaa
