import Derived.Test.YtancbidpmbjmnaaG
namespace Go.Proofs.Ytancbidpmbjmnaa
open Go.RowKit
set_option linter.unusedVariables false
theorem do_7 (w : World) : Calls Try.prog 6 #[.int .i64 4, tNum 1 7, tNum 1 (-2)] w fun e w' => e = .returned (.tuple #[tNum 1 (-3), .int .i64 0]) ∧ Kp w w' :=
  do_div 7 (-2) w ⟨by decide, by decide⟩ ⟨by decide, by decide⟩ (by decide)
@[go_sem] theorem omv : FloatKind.f64.format.order 13830554455654793216 13830554455654793216 = some .eq := omm
set_option maxHeartbeats 1000000 in
theorem alive_any (w : World) : Calls Try.prog 4 #[] w fun e w' => e = .returned (.bool true) ∧ Kp w w' := by
  go_enter Try.func4, Try.ntmps4
  go_wp2_with fail
  refine (do_7 _).mono ?_
  rintro e w1 ⟨rfl, hk1⟩
  go_wp2_with fail
  refine (do_i _).mono ?_
  rintro e w2 ⟨rfl, hk2⟩
  obtain ⟨hc2, hf2, hz2⟩ := hk2.facts
  have hy2 : w1.heap.size < w2.heap.size := (by simp at hz2; omega)
  clear hz2
  have HK2 : Hid (Kp w w2) := (hk1.alloc _ _).trans hk2
  clear hk1 hk2
  go_wp2_with fail
  refine (do_z _).mono ?_
  rintro e w3 ⟨rfl, hk3⟩
  obtain ⟨hc3, hf3, hz3⟩ := hk3.facts
  have hy3 : w2.heap.size < w3.heap.size := (by simp at hz3; omega)
  clear hz3
  have HK3 : Hid (Kp w w3) := (HK2.out.alloc _ _).trans hk3
  clear HK2 hk3
  have hy4 : w1.heap.size < w2.heap.size + 1 := by omega
  have hy5 : w1.heap.size < w3.heap.size := by omega
  go_wp2
  go_ret
  exact ⟨rfl, HK3.out.alloc _ _⟩
end Go.Proofs.Ytancbidpmbjmnaa
