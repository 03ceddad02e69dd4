/-
  How far one number lies ahead of another; which is less; the program's calls and the reference's.
-/
import Derived.Test.YtanhigaingjalaaProg
import Derived.WalkKit
import Derived.WalkLawsBesides
import Derived.ProofKit
import Derived.Deep.Light
import Derived.WalkSpells
import Derived.Lib.Hide
import Derived.Deep.QuietTactic
import Derived.BigQuiet
set_option linter.unusedSimpArgs false
set_option linter.unusedVariables false
namespace Go.Proofs.Ytanhigaingjalaa
open Go.RowKit

/-- How far b lies ahead of a. -/
def ah (a b : Int) : Int := (b - a) % 4294967296
theorem ah_lo (a b : Int) : 0 ≤ ah a b := by unfold ah; omega
theorem ah_hi (a b : Int) : ah a b < 4294967296 := by unfold ah; omega
/-- Is a less than b? -/
def ls (a b : Int) : Bool := decide (0 < ah a b) && decide (ah a b < 2147483648)

theorem steps_c (a b : Int) (w : World) : Calls Try.prog 17 #[.int .u32 a, .int .u32 b] w fun e w' => e = .returned (.int .u32 (ah a b)) ∧ w = w' := by
  go_enter Try.func17, Try.ntmps17
  go_wp2
  go_ret
  exact ⟨rfl, rfl⟩
theorem ahead_c (a b : Int) (w : World) : Calls Try.prog 11 #[.int .u32 a, .int .u32 b] w fun e w' => e = .returned (.int .u32 (ah a b)) ∧ w = w' := by
  have hs := steps_c a b
  generalize ah a b = c at *
  go_enter Try.func11, Try.ntmps11
  go_wp2_with (go_at_call 17; refine (hs _).mono ?_; rintro e w' ⟨rfl, rfl⟩)
  go_ret
  exact ⟨rfl, rfl⟩
theorem less_c (a b : Int) (w : World) : Calls Try.prog 12 #[.int .u32 a, .int .u32 b] w fun e w' => e = .returned (.bool (ls a b)) ∧ w = w' := by
  have hs := steps_c a b
  unfold ls
  generalize ah a b = c at *
  by_cases h1 : 0 < c <;> by_cases h2 : c < 2147483648 <;> simp only [h1, h2, decide_true, decide_false, Bool.and_true, Bool.and_false, Bool.false_and, Bool.true_and]
  all_goals (go_enter Try.func12, Try.ntmps12; go_wp2_with (go_at_call 17; refine (hs _).mono ?_; rintro e w' ⟨rfl, rfl⟩); try (go_ret; exact ⟨by first | rfl | simp [h1, h2], rfl⟩))
theorem in_c (a n b : Int) (w : World) : Calls Try.prog 13 #[.int .u32 a, .int .u32 n, .int .u32 b] w fun e w' => e = .returned (.bool (decide (ah a b < n))) ∧ w = w' := by
  have hs := steps_c a b
  generalize ah a b = c at *
  go_enter Try.func13, Try.ntmps13
  go_wp2_with (go_at_call 17; refine (hs _).mono ?_; rintro e w' ⟨rfl, rfl⟩)
  go_ret
  exact ⟨rfl, rfl⟩
/-- The one that lies ahead. -/
def mx (a b : Int) : Int := if ls a b = true then b else a
theorem max_c (a b : Int) (w : World) : Calls Try.prog 14 #[.int .u32 a, .int .u32 b] w fun e w' => e = .returned (.int .u32 (mx a b)) ∧ w = w' := by
  have hs := less_c a b
  unfold mx
  rcases h : ls a b with _ | _
  all_goals
    rw [h] at hs
    simp only [if_true, if_false, Bool.false_eq_true]
    go_enter Try.func14, Try.ntmps14
    go_wp2_with (go_at_call 12; refine (hs _).mono ?_; rintro e w' ⟨rfl, rfl⟩)
    go_ret
    exact ⟨rfl, rfl⟩

theorem rahead_c (a b : Int) (ha : 0 ≤ a) (ha' : a < 4294967296) (hb : 0 ≤ b) (hb' : b < 4294967296) (w : World) : Calls Try.prog 9 #[.int .u32 a, .int .u32 b] w fun e w' => e = .returned (.int .u64 (ah a b)) ∧ w = w' := by
  have hr : (b + 4294967296 - a).tmod 4294967296 = ah a b := by rw [Int.tmod_eq_emod_of_nonneg (by omega)]; unfold ah; omega
  go_enter Try.func9, Try.ntmps9
  go_wp2
  go_ret
  exact ⟨rfl, rfl⟩
theorem rless_c (a b : Int) (ha : 0 ≤ a) (ha' : a < 4294967296) (hb : 0 ≤ b) (hb' : b < 4294967296) (w : World) : Calls Try.prog 10 #[.int .u32 a, .int .u32 b] w fun e w' => e = .returned (.bool (ls a b)) ∧ w = w' := by
  have hs := rahead_c a b ha ha' hb hb'
  have e1 : decide (1 ≤ ah a b) = decide (0 < ah a b) := by congr 1
  have e2 : decide (ah a b ≤ 2147483647) = decide (ah a b < 2147483648) := by simp only [decide_eq_decide]; omega
  rw [ls, ← e1, ← e2]
  clear e1 e2
  generalize ah a b = c at *
  by_cases h1 : 1 ≤ c <;> by_cases h2 : c ≤ 2147483647 <;> simp only [h1, h2, decide_true, decide_false, Bool.and_true, Bool.and_false, Bool.false_and, Bool.true_and]
  all_goals (go_enter Try.func10, Try.ntmps10; go_wp2_with (go_at_call 9; refine (hs _).mono ?_; rintro e w' ⟨rfl, rfl⟩); try (go_ret; exact ⟨by first | rfl | simp [h1, h2], rfl⟩))

/-- What a comparison says. -/
def cmpv (x y : Int) : Int := if x < y then -1 else if y < x then 1 else 0
theorem nan_c (x : Int) (w : World) : Calls Try.prog 23 #[.int .u32 x] w fun e w' => e = .returned (.bool false) ∧ w = w' := by
  go_enter Try.func23, Try.ntmps23
  go_wp2
  go_ret
  exact ⟨by simp, rfl⟩
theorem cmp_c (x y : Int) (w : World) : Calls Try.prog 20 #[.int .u32 x, .int .u32 y] w fun e w' => e = .returned (.int .i64 (cmpv x y)) ∧ w = w' := by
  have hs := nan_c
  unfold cmpv
  by_cases h1 : x < y
  · simp only [h1, if_true]
    go_enter Try.func20, Try.ntmps20
    go_wp2_with (go_at_call 23; refine (hs _ _).mono ?_; rintro e w' ⟨rfl, rfl⟩)
    go_ret
    exact ⟨rfl, rfl⟩
  · by_cases h2 : y < x
    · simp only [h1, h2, if_true, if_false]
      go_enter Try.func20, Try.ntmps20
      go_wp2_with (go_at_call 23; refine (hs _ _).mono ?_; rintro e w' ⟨rfl, rfl⟩)
      go_ret
      exact ⟨rfl, rfl⟩
    · simp only [h1, h2, if_false]
      go_enter Try.func20, Try.ntmps20
      go_wp2_with (go_at_call 23; refine (hs _ _).mono ?_; rintro e w' ⟨rfl, rfl⟩)
      go_ret
      exact ⟨rfl, rfl⟩
/-- The closure that Sort hands over: its base lies in a block of its own. -/
theorem clo_c (B : Nat) (base x y : Int) (w : World) (hb : w.cell? ⟨B, 0, none⟩ = some (.int .u32 base)) :
    Calls Try.prog 19 #[.int .u32 x, .int .u32 y, .pointer (some ⟨B, 0, none⟩)] w fun e w' => e = .returned (.int .i64 (cmpv (ah base x) (ah base y))) ∧ ∃ q, w' = w.drewN q := by
  have hs := steps_c
  have hc := cmp_c (ah base x) (ah base y)
  generalize cmpv (ah base x) (ah base y) = r at *
  go_enter Try.func19, Try.ntmps19
  go_wp2
  go_quiet (first | (go_at_call 17; exact Calls.quiet_of_same ((hs _ _ _).mono fun _ _ h => ⟨h.1, h.2.symm⟩)) | (go_at_call 20; exact Calls.quiet_of_same ((hc _).mono fun _ _ h => ⟨h.1, h.2.symm⟩)))
  go_wp2
  go_ret
  exact ⟨rfl, _, rfl⟩
end Go.Proofs.Ytanhigaingjalaa
