/-
  Carried over from another seat of ours (QA).
-/
import Derived.Test.YtfamepdghememaaBN
import Derived.Test.YtfamepdghememaaBS
import Derived.Test.YtfamepdghememaaMD
import Derived.Test.YtfamepdghememaaNB
set_option linter.unusedVariables false
set_option linter.unusedSimpArgs false
namespace Go.Proofs.Ytfamepdghememaa
open Go.RowKit Go.Maps
def fst9 (c : Int) : Bool := (decide (65 ≤ c) && decide (c ≤ 90)) || (c == 95)
def inV (c : Int) : Bool := fst9 c || (decide (97 ≤ c) && decide (c ≤ 122)) || (decide (48 ≤ c) && decide (c ≤ 57))
def allV (s : ByteArray) (k : Nat) : Bool := (List.range k).all fun j => inV (bt s j)
def isVar (s : ByteArray) : Bool := decide (1 ≤ s.size) && decide (s.size ≤ 32) && !(s.toList == [95]) && fst9 (bt s 0) && allV s s.size
theorem allV_succ (s : ByteArray) (k : Nat) : allV s (k + 1) = (allV s k && inV (bt s k)) := by
  simp [allV, List.range_succ]
theorem allV_false (s : ByteArray) (k n : Nat) (hk : k < n) (h : inV (bt s k) = false) : allV s n = false := by
  unfold allV
  rw [Bool.eq_false_iff]
  intro ha
  rw [List.all_eq_true] at ha
  have := ha k (List.mem_range.2 hk)
  rw [h] at this; cases this
theorem ixz (s : ByteArray) (h : 0 < s.size) (w : World) : (Instr.index 9 (.string s) (.int .i64 0)).run Try.prog w = .ok (.int .u8 (bt s 0)) w := ix s 0 h w
set_option maxHeartbeats 800000 in
theorem first_c (c : Int) (w : World) : Calls Try.prog 55 #[.int .u8 c] w fun e w' => e = .returned (.bool (fst9 c)) ∧ w = w' := by
  go_enter Try.func55, Try.ntmps55
  go_wp2
  all_goals (go_ret; refine ⟨congrArg (fun b => Ending.returned (Value.bool b)) ?_, rfl⟩; rw [Bool.eq_iff_iff]; simp [fst9] at *; try omega)
set_option maxHeartbeats 800000 in
theorem inName_c (c : Int) (w : World) : Calls Try.prog 56 #[.int .u8 c] w fun e w' => e = .returned (.bool (inV c)) ∧ w = w' := by
  go_enter Try.func56, Try.ntmps56
  go_wp2_with (first | (go_at_call 55; refine (first_c _ _).mono ?_; rintro e w' ⟨rfl, rfl⟩))
  all_goals (go_ret; refine ⟨congrArg (fun b => Ending.returned (Value.bool b)) ?_, rfl⟩; rw [Bool.eq_iff_iff]; simp [inV, fst9] at *; try omega)
set_option maxHeartbeats 1600000 in
theorem name_c (s : ByteArray) (w : World) : Calls Try.prog 26 #[.string s] w fun e w' => e = .returned (.bool (isVar s)) ∧ w = w' := by
  by_cases h1 : 1 ≤ s.size
  · by_cases h2 : s.size ≤ 32
    · have h0 := ixz s h1
      have d1 : decide ((s.size : Int) < 1) = false := by simp; omega
      have d2 : decide ((32 : Int) < (s.size : Int)) = false := by simp; omega
      by_cases h3 : fst9 (bt s 0) = true
      · by_cases h4 : (s.toList == [95]) = true
        · have hn : isVar s = false := by simp [isVar, h4]
          rw [hn]
          go_enter Try.func26, Try.ntmps26
          go_wp2_with (first | (go_at_call 55; refine (first_c _ _).mono ?_; rintro e w' ⟨rfl, rfl⟩))
          go_ret
          exact ⟨rfl, rfl⟩
        · have h4 : (s.toList == [95]) = false := by simpa using h4
          go_enter Try.func26, Try.ntmps26
          go_wp2_with (first | (go_at_call 55; refine (first_c _ _).mono ?_; rintro e w' ⟨rfl, rfl⟩))
          go_loop [24] (fun i => ∃ k : Nat, k ≤ s.size ∧ i = .int .i64 k ∧ allV s k = true) (fun i => s.size - (intOf i).toNat)
          case atStart => exact ⟨0, Nat.zero_le _, rfl, rfl⟩
          case round =>
            obtain ⟨k, hk, rfl, ha⟩ := hrel
            clear h0
            by_cases hlt : k < s.size
            · have hk0 := ix s k hlt
              go_wp2_with (first | (go_at_call 56; refine (inName_c _ _).mono ?_; rintro e w' ⟨rfl, rfl⟩))
              · have hf : inV (bt s k) = false := by simpa using (by assumption : (!inV (bt s k)) = true)
                go_ret
                have : isVar s = false := by simp [isVar, allV_false s k s.size hlt hf]
                exact ⟨by rw [this]; rfl, rfl⟩
              · have hf : inV (bt s k) = true := by simpa using (by assumption : (!inV (bt s k)) = false)
                go_round
                case rel => exact ⟨k + 1, by omega, by go_num, by rw [allV_succ, ha, hf]; rfl⟩
                case measure => simp [intOf]; omega
            · have : k = s.size := by omega
              subst this
              go_wp2
              go_ret
              have : isVar s = true := by simp [isVar, ha, h1, h2, h3, h4]
              exact ⟨by rw [this]; rfl, rfl⟩
      · have hn : isVar s = false := by simp [isVar, h3]
        rw [hn]
        have h3 : fst9 (bt s 0) = false := by simpa using h3
        cases h4 : (s.toList == [95])
        all_goals
          go_enter Try.func26, Try.ntmps26
          go_wp2_with (first | (go_at_call 55; refine (first_c _ _).mono ?_; rintro e w' ⟨rfl, rfl⟩))
          go_ret
          exact ⟨rfl, rfl⟩
    · have hn : isVar s = false := by simp [isVar, h2]
      rw [hn]
      go_enter Try.func26, Try.ntmps26
      go_wp2
      go_ret
      exact ⟨rfl, rfl⟩
  · have hn : isVar s = false := by simp [isVar, h1]
    rw [hn]
    go_enter Try.func26, Try.ntmps26
    go_wp2
    go_ret
    exact ⟨rfl, rfl⟩
end Go.Proofs.Ytfamepdghememaa

