/-
  Carried over from another seat of ours (S).
-/
import Derived.Test.YtmohehfkbhllpaaKF
import Derived.Test.YtmohehfkbhllpaaBC
import Derived.Test.YtmohehfkbhllpaaBS
import Ieee.Arith
import GoSem.Core.Float
import Derived.Maps.AppendAt
import Derived.RegionTactic
import Derived.BigRegion
set_option linter.unusedVariables false
set_option linter.unusedSimpArgs false
namespace Go.Proofs.Ytmohehfkbhllpaa
open Go.RowKit
set_option maxRecDepth 20000 in
set_option maxHeartbeats 800000 in
theorem blank_c (k : Int) (w : World) : Calls Try.prog 64 #[lf k 0 0 0 e0 0 0 0] w fun e w' => e = .returned (.bool true) ∧ Gr (fun _ => False) w w' := by
  go_enter Try.func64, Try.ntmps64
  go_wp2
  go_ret
  exact ⟨rfl, Gr.alloc _ _ _⟩
set_option maxRecDepth 20000 in
set_option maxHeartbeats 800000 in
theorem withoutN_c (k n : Int) (w : World) : Calls Try.prog 38 #[lf k n 0 0 e0 0 0 0] w fun e w' => e = .returned (lf k 0 0 0 e0 0 0 0) ∧ Gr (fun _ => False) w w' := by
  go_enter Try.func38, Try.ntmps38
  go_wp2
  exact bodyPost_ret (v := lf k 0 0 0 e0 0 0 0) (by simp [results, Try.results38, go_sem]) rfl ⟨rfl, (Gr.alloc _ _ _).trans (Gr.alloc _ _ _)⟩
set_option maxRecDepth 20000 in
set_option maxHeartbeats 800000 in
theorem right_int (n : Int) (w : World) : Calls Try.prog 39 #[lf 1 n 0 0 e0 0 0 0] w fun e w' => e = .returned (.bool (inR n)) ∧ Gr (fun _ => False) w w' := by
  go_enter Try.func39, Try.ntmps39
  go_wp2_with (first | (go_at_call 69; refine (inRange_c _ _).mono ?_; rintro e w1 ⟨rfl, rfl⟩))
  go_ret
  exact ⟨rfl, Gr.alloc _ _ _⟩
set_option maxRecDepth 20000 in
set_option maxHeartbeats 800000 in
theorem withoutZ_c (k : Int) (x y : Nat) (w : World) : Calls Try.prog 41 #[lf k 0 x y e0 0 0 0] w fun e w' => e = .returned (lf k 0 0 0 e0 0 0 0) ∧ Gr (fun _ => False) w w' := by
  go_enter Try.func41, Try.ntmps41
  go_wp2
  exact bodyPost_ret (v := lf k 0 0 0 e0 0 0 0) (by simp [results, Try.results41, go_sem]) rfl ⟨rfl, (Gr.alloc _ _ _).trans (Gr.alloc _ _ _)⟩
set_option maxRecDepth 20000 in
set_option maxHeartbeats 800000 in
theorem withoutId_c (k a c d : Int) (w : World) : Calls Try.prog 35 #[lf k 0 0 0 e0 a c d] w fun e w' => e = .returned (lf k 0 0 0 e0 0 0 0) ∧ Gr (fun _ => False) w w' := by
  go_enter Try.func35, Try.ntmps35
  go_wp2
  exact bodyPost_ret (v := lf k 0 0 0 e0 0 0 0) (by simp [results, Try.results35, go_sem]) rfl ⟨rfl, (Gr.alloc _ _ _).trans (Gr.alloc _ _ _)⟩
set_option maxRecDepth 20000 in
set_option maxHeartbeats 800000 in
theorem right_cx (x y : Nat) (hx : x < 18446744073709551616) (hy : y < 18446744073709551616) (w : World) : Calls Try.prog 39 #[lf 2 0 x y e0 0 0 0] w fun e w' => e = .returned (.bool (rp x && rp y)) ∧ Gr (fun _ => False) w w' := by
  have h1 := fun w => rightPart_c x hx w
  have h2 := fun w => rightPart_c y hy w
  clear hx hy
  cases hr : rp x with
  | false =>
    rw [hr] at h1
    clear hr h2
    go_enter Try.func39, Try.ntmps39
    go_wp2_with fail
    refine (h1 _).mono ?_
    rintro e w1 ⟨rfl, rfl⟩
    go_wp2_with fail
    go_ret
    exact ⟨by simp, Gr.alloc _ _ _⟩
  | true =>
    rw [hr] at h1
    clear hr
    generalize rp y = m at h2 ⊢
    go_enter Try.func39, Try.ntmps39
    go_wp2_with fail
    refine (h1 _).mono ?_
    rintro e w1 ⟨rfl, rfl⟩
    go_wp2_with fail
    refine (h2 _).mono ?_
    rintro e w1 ⟨rfl, rfl⟩
    go_wp2_with fail
    go_ret
    exact ⟨by simp, Gr.alloc _ _ _⟩

set_option maxRecDepth 20000 in
set_option maxHeartbeats 1600000 in
theorem idMay_c (k a c d : Int) (w : World) : Calls Try.prog 36 #[lf k 0 0 0 e0 a c d] w fun e w' => e = .returned (.bool (idOk a c d)) ∧ Gr (fun _ => False) w w' := by
  by_cases h1 : 1 ≤ a
  · by_cases h2 : a ≤ 64
    · by_cases h3 : 1 ≤ c
      · by_cases h4 : 1 ≤ d <;> simp only [idOk, h1, h2, h3, h4, decide_true, decide_false, Bool.and_true, Bool.and_false]
        all_goals (go_enter Try.func36, Try.ntmps36; go_wp2; go_ret; exact ⟨by simp, Gr.alloc _ _ _⟩)
      · simp only [idOk, h1, h2, h3, decide_true, decide_false, Bool.and_true, Bool.and_false, Bool.true_and, Bool.false_and]
        go_enter Try.func36, Try.ntmps36; go_wp2; go_ret; exact ⟨by simp, Gr.alloc _ _ _⟩
    · simp only [idOk, h1, h2, decide_true, decide_false, Bool.and_true, Bool.and_false, Bool.true_and, Bool.false_and]
      go_enter Try.func36, Try.ntmps36; go_wp2; go_ret; exact ⟨by simp, Gr.alloc _ _ _⟩
  · simp only [idOk, h1, decide_false, Bool.false_and]
    go_enter Try.func36, Try.ntmps36; go_wp2; go_ret; exact ⟨by simp, Gr.alloc _ _ _⟩

end Go.Proofs.Ytmohehfkbhllpaa

