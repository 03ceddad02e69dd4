import Derived.Test.YtancbidpmbjmnaaI
namespace Go.Proofs.Ytancbidpmbjmnaa
open Go.RowKit
set_option linter.unusedVariables false
set_option maxHeartbeats 1000000 in
theorem num_out (a b : Int) (w : World) (h : ¬ InR a ∨ ¬ InR b) :
    Calls Try.prog 3 #[.int .i64 a, .int .i64 b] w fun e w' => e = .returned (.bool true) ∧ Kp w w' := by
  have HE : Hid (¬ eOf a = 0 ∨ ¬ eOf b = 0) := by
    rcases h with h | h
    · left; rw [eOf_no h]; decide
    · right; rw [eOf_no h]; decide
  clear h
  go_enter Try.func3, Try.ntmps3
  go_wp2_with fail
  refine (alive_any _).mono ?_
  rintro e w1 ⟨rfl, hk1⟩
  go_wp2_with fail
  refine (int_any _ _).mono ?_
  rintro e w2 ⟨rfl, hk2⟩
  have HK2 : Hid (Kp w w2) := hk1.trans hk2
  clear hk1 hk2
  go_wp2_with fail
  refine (int_any _ _).mono ?_
  rintro e w3 ⟨rfl, hk3⟩
  have HK3 : Hid (Kp w w3) := (HK2.out.alloc _ _).trans hk3
  clear HK2 hk3
  rcases HE.out with hA | hB
  · have hA' : (eOf a != 0) = true := by simpa using hA
    clear hA HE
    go_wp2
    go_ret
    exact ⟨rfl, HK3.out.alloc _ _⟩
  · have hB' : (eOf b != 0) = true := by simpa using hB
    clear hB HE
    cases hA' : (eOf a != 0)
    · go_wp2
      go_ret
      exact ⟨rfl, HK3.out.alloc _ _⟩
    · go_wp2
      go_ret
      exact ⟨rfl, HK3.out.alloc _ _⟩
end Go.Proofs.Ytancbidpmbjmnaa
