/-
  Which texts are names: the program's Right and the reference's Name answer alike.
-/
import Derived.Test.YtipdniiamaaolaaProg
import Derived.WalkKit
import Derived.WalkLawsBesides
import Derived.ProofKit
import Derived.Deep.Light
namespace Go.Proofs.Ytipdniiamaaolaa
open Go.RowKit

def bt (s : ByteArray) (k : Nat) : Int := ((s.data[k]?.getD 0).toNat : Int)
def low (c : Int) : Bool := decide (97 ≤ c) && decide (c ≤ 122)
def oth (c : Int) : Bool := (decide (65 ≤ c) && decide (c ≤ 90)) || (decide (48 ≤ c) && decide (c ≤ 57)) || (c == 95)
def inN (c : Int) : Bool := low c || oth c
def allN (s : ByteArray) (k : Nat) : Bool := (List.range k).all fun j => inN (bt s j)
def isName (s : ByteArray) : Bool := decide (1 ≤ s.size) && decide (s.size ≤ 32) && low (bt s 0) && allN s s.size

theorem allN_succ (s : ByteArray) (k : Nat) : allN s (k + 1) = (allN s k && inN (bt s k)) := by
  simp [allN, List.range_succ]
theorem allN_false (s : ByteArray) (k n : Nat) (hk : k < n) (h : inN (bt s k) = false) : allN s n = false := by
  unfold allN
  rw [Bool.eq_false_iff]
  intro ha
  rw [List.all_eq_true] at ha
  have := ha k (List.mem_range.2 hk)
  rw [h] at this; cases this

theorem ix (s : ByteArray) (k : Nat) (h : k < s.size) (w : World) : (Instr.index 9 (.string s) (.int .i64 (k : Int))).run Try.prog w = .ok (.int .u8 (bt s k)) w := by
  rw [run_index_string w 9 s .i64 k (by kernel_rfl), dif_pos ⟨by omega, by omega⟩]
  have h2 : k < s.data.size := h
  have e : s[k]? = some s[k] := ByteArray.getElem?_lt' s k h
  simp only [bt, Int.toNat_natCast, Array.getElem?_eq_getElem h2, Option.getD_some]
  rfl
theorem ix0 (s : ByteArray) (h : 0 < s.size) (w : World) : (Instr.index 9 (.string s) (.int .i64 0)).run Try.prog w = .ok (.int .u8 (bt s 0)) w := ix s 0 h w

theorem lower_c (c : Int) (w : World) : Calls Try.prog 23 #[.int .u8 c] w fun e w' => e = .returned (.bool (low c)) ∧ w = w' := by
  by_cases h1 : 97 ≤ c
  · by_cases h2 : c ≤ 122
    · have hl : low c = true := by simp [low, h1, h2]
      rw [hl]
      go_enter Try.func23, Try.ntmps23
      go_wp2
      go_ret
      exact ⟨rfl, rfl⟩
    · have hl : low c = false := by simp [low, h2]
      rw [hl]
      go_enter Try.func23, Try.ntmps23
      go_wp2
      go_ret
      exact ⟨rfl, rfl⟩
  · have hl : low c = false := by simp [low, h1]
    rw [hl]
    go_enter Try.func23, Try.ntmps23
    go_wp2
    go_ret
    exact ⟨rfl, rfl⟩

set_option maxHeartbeats 800000 in
theorem inName_c (c : Int) (w : World) : Calls Try.prog 24 #[.int .u8 c] w fun e w' => e = .returned (.bool (inN c)) ∧ w = w' := by
  go_enter Try.func24, Try.ntmps24
  go_wp2_with (first | (go_at_call 23; refine (lower_c _ _).mono ?_; rintro e w' ⟨rfl, rfl⟩))
  all_goals (go_ret; refine ⟨congrArg (fun b => Ending.returned (Value.bool b)) ?_, rfl⟩; rw [Bool.eq_iff_iff]; simp [inN, oth, low] at *; try omega)

set_option maxHeartbeats 1600000 in
theorem right_c (s : ByteArray) (w : World) : Calls Try.prog 10 #[.string s] w fun e w' => e = .returned (.bool (isName s)) ∧ w = w' := by
  by_cases h1 : 1 ≤ s.size
  · by_cases h2 : s.size ≤ 32
    · have h0 := ix0 s h1
      by_cases h3 : low (bt s 0) = true
      · go_enter Try.func10, Try.ntmps10
        go_wp2_with (first | (go_at_call 23; refine (lower_c _ _).mono ?_; rintro e w' ⟨rfl, rfl⟩))
        go_loop [20] (fun i => ∃ k : Nat, k ≤ s.size ∧ i = .int .i64 k ∧ allN s k = true) (fun i => s.size - (intOf i).toNat)
        case atStart => exact ⟨0, Nat.zero_le _, rfl, rfl⟩
        case round =>
          obtain ⟨k, hk, rfl, ha⟩ := hrel
          clear h0
          by_cases hlt : k < s.size
          · have hk0 := ix s k hlt
            go_wp2_with (first | (go_at_call 24; refine (inName_c _ _).mono ?_; rintro e w' ⟨rfl, rfl⟩))
            · have hf : inN (bt s k) = false := by simpa using (by assumption : (!inN (bt s k)) = true)
              go_ret
              have : isName s = false := by simp [isName, allN_false s k s.size hlt hf]
              exact ⟨by rw [this]; rfl, rfl⟩
            · have hf : inN (bt s k) = true := by simpa using (by assumption : (!inN (bt s k)) = false)
              go_round
              case rel => exact ⟨k + 1, by omega, by go_num, by rw [allN_succ, ha, hf]; rfl⟩
              case measure => simp [intOf]; omega
          · have : k = s.size := by omega
            subst this
            go_wp2
            go_ret
            have : isName s = true := by simp [isName, ha, h1, h2, h3]
            exact ⟨by rw [this]; rfl, rfl⟩
      · have hn : isName s = false := by simp [isName, h3]
        rw [hn]
        go_enter Try.func10, Try.ntmps10
        go_wp2_with (first | (go_at_call 23; refine (lower_c _ _).mono ?_; rintro e w' ⟨rfl, rfl⟩))
        go_ret
        exact ⟨rfl, rfl⟩
    · have hn : isName s = false := by simp [isName, h2]
      rw [hn]
      go_enter Try.func10, Try.ntmps10
      go_wp2
      go_ret
      exact ⟨rfl, rfl⟩
  · have hn : isName s = false := by simp [isName, h1]
    rw [hn]
    go_enter Try.func10, Try.ntmps10
    go_wp2
    go_ret
    exact ⟨rfl, rfl⟩

def okAt (s : ByteArray) (k : Nat) : Bool := low (bt s k) || (decide (k ≠ 0) && oth (bt s k))
def allO (s : ByteArray) (k : Nat) : Bool := (List.range k).all fun j => okAt s j
theorem allO_succ (s : ByteArray) (k : Nat) : allO s (k + 1) = (allO s k && okAt s k) := by
  simp [allO, List.range_succ]
theorem allO_false (s : ByteArray) (k n : Nat) (hk : k < n) (h : okAt s k = false) : allO s n = false := by
  unfold allO
  rw [Bool.eq_false_iff]
  intro ha
  rw [List.all_eq_true] at ha
  have := ha k (List.mem_range.2 hk)
  rw [h] at this; cases this
theorem allO_eq (s : ByteArray) (k : Nat) : allO s (k + 1) = (low (bt s 0) && allN s (k + 1)) := by
  induction k with
  | zero => rw [allO_succ, allN_succ]; simp [allO, allN, okAt, inN]
            cases low (bt s 0) <;> simp
  | succ k ih => rw [allO_succ, ih, allN_succ s (k + 1)]; simp [okAt, inN, Bool.and_assoc]
theorem isName_eq (s : ByteArray) : isName s = (decide (1 ≤ s.size) && decide (s.size ≤ 32) && allO s s.size) := by
  unfold isName
  rcases h : s.size with _ | n
  · simp
  · rw [allO_eq]; simp [Bool.and_assoc]

theorem retF (s : ByteArray) (k : Nat) (hlt : k < s.size) (h : okAt s k = false) : Ending.returned (Value.bool false) = Ending.returned (Value.bool (isName s)) := by
  have : isName s = false := by simp [isName_eq, allO_false s k s.size hlt h]
  rw [this]
theorem relO (s : ByteArray) (k : Nat) (hlt : k < s.size) (ha : allO s k = true) (h : okAt s k = true) : ∃ k', k' ≤ s.size ∧ Value.int IntKind.i64 ((k : Int) + 1) = Value.int IntKind.i64 (k' : Int) ∧ allO s k' = true :=
  ⟨k + 1, by omega, by simp, by rw [allO_succ, ha, h]; rfl⟩
theorem measO (s : ByteArray) (k : Nat) (hlt : k < s.size) : s.size - (intOf (Value.int IntKind.i64 ((k : Int) + 1))).toNat < s.size - (intOf (Value.int IntKind.i64 (k : Int))).toNat := by
  simp only [intOf]; omega

theorem relZ (s : ByteArray) (k : Nat) (hz : k = 0) (hlt : k < s.size) (ha : allO s k = true) (h : okAt s k = true) : ∃ k', k' ≤ s.size ∧ Value.int IntKind.i64 1 = Value.int IntKind.i64 (k' : Int) ∧ allO s k' = true := by
  subst hz; exact relO s 0 hlt ha h
theorem measZ (s : ByteArray) (k : Nat) (hz : k = 0) (hlt : k < s.size) : s.size - (intOf (Value.int IntKind.i64 1)).toNat < s.size - (intOf (Value.int IntKind.i64 (k : Int))).toNat := by
  subst hz; exact measO s 0 hlt

set_option maxHeartbeats 1600000 in
theorem name_c (s : ByteArray) (w : World) : Calls Try.prog 11 #[.string s] w fun e w' => e = .returned (.bool (isName s)) ∧ w = w' := by
  by_cases h1 : 1 ≤ s.size
  · by_cases h2 : s.size ≤ 32
    · have h1' : ((s.size : Int) == 0) = false := beq_eq_false_iff_ne.2 (by omega)
      go_enter Try.func11, Try.ntmps11
      go_wp2
      go_loop [3] (fun i => ∃ k : Nat, k ≤ s.size ∧ i = .int .i64 k ∧ allO s k = true) (fun i => s.size - (intOf i).toNat)
      case atStart => exact ⟨0, Nat.zero_le _, rfl, rfl⟩
      case round =>
        obtain ⟨k, hk, rfl, ha⟩ := hrel
        by_cases hlt : k < s.size
        · have hk0 := ix s k hlt
          have hz0 : k = 0 → bt s k = bt s 0 := fun h => by rw [h]
          go_wp2
          all_goals (cases hok : okAt s k)
          all_goals first
            | (exfalso; go_light; clear hk0; simp only [okAt, oth, low, Bool.or_eq_true, Bool.and_eq_true, decide_eq_true_eq, beq_iff_eq, Bool.not_eq_true', decide_eq_false_iff_not, Bool.not_eq_false', beq_eq_false_iff_ne, ne_eq, Bool.or_eq_false_iff, Bool.and_eq_false_iff] at *; omega)
            | (go_ret; exact ⟨retF s k hlt hok, rfl⟩)
            | (go_round
               case rel => exact relO s k hlt ha hok
               case measure => exact measO s k hlt)
            | (go_round
               case rel => exact relZ s k (by assumption) hlt ha hok
               case measure => exact measZ s k (by assumption) hlt)
        · have : k = s.size := by omega
          subst this
          go_wp2
          go_ret
          have : isName s = true := by simp [isName_eq, ha, h1, h2]
          exact ⟨by rw [this]; rfl, rfl⟩
    · have hn : isName s = false := by simp [isName, h2]
      rw [hn]
      have h1' : ((s.size : Int) == 0) = false := beq_eq_false_iff_ne.2 (by omega)
      go_enter Try.func11, Try.ntmps11
      go_wp2
      go_ret
      exact ⟨rfl, rfl⟩
  · have hn : isName s = false := by simp [isName, h1]
    rw [hn]
    have h1' : s.size = 0 := by omega
    go_enter Try.func11, Try.ntmps11
    go_wp2
    go_ret
    exact ⟨rfl, rfl⟩
end Go.Proofs.Ytipdniiamaaolaa
