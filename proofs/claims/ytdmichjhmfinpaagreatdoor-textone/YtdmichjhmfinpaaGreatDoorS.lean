/-
  What a kind says of a term without elements: what is left without its fields, and whether its value may be.
-/
import Derived.Test.YtdmichjhmfinpaaGreatDoorR
set_option linter.unusedVariables false
set_option linter.unusedSimpArgs false
namespace Go.Proofs.YtdmichjhmfinpaaGreatDoor
open Go.RowKit
abbrev tv (k n : Int) (x y : Nat) (s : ByteArray) (a c d : Int) (bs l : Value) : Value := .agg #[.int .i64 k, .int .i64 n, .complex .f64 x y, .string s, .int .i64 a, .int .u32 c, .int .u64 d, bs, l]
abbrev nl : Value := .slice none 0 0
abbrev e0 : ByteArray := ⟨#[]⟩
abbrev lf (k n : Int) (x y : Nat) (s : ByteArray) (a c d : Int) : Value := tv k n x y s a c d nl nl
@[go_sem] theorem ord00 : FloatKind.f64.format.order 0 0 = some .eq := by decide
set_option maxRecDepth 20000 in
set_option maxHeartbeats 800000 in
theorem blank_c (k : Int) (w : World) : Calls Tryz.prog 75 #[lf k 0 0 0 e0 0 0 0] w fun e w' => e = .returned (.bool true) ∧ Gr (fun _ => False) w w' := by
  go_enter Tryz.func75, Tryz.ntmps75
  go_wp2
  go_ret
  exact ⟨rfl, Gr.alloc _ _ _⟩
set_option maxRecDepth 20000 in
set_option maxHeartbeats 800000 in
theorem withoutN_c (k n : Int) (w : World) : Calls Tryz.prog 45 #[lf k n 0 0 e0 0 0 0] w fun e w' => e = .returned (lf k 0 0 0 e0 0 0 0) ∧ Gr (fun _ => False) w w' := by
  go_enter Tryz.func45, Tryz.ntmps45
  go_wp2
  exact bodyPost_ret (v := lf k 0 0 0 e0 0 0 0) (by simp [results, Tryz.results45, go_sem]) rfl ⟨rfl, (Gr.alloc _ _ _).trans (Gr.alloc _ _ _)⟩
set_option maxRecDepth 20000 in
set_option maxHeartbeats 800000 in
theorem right_int (n : Int) (w : World) : Calls Tryz.prog 46 #[lf 1 n 0 0 e0 0 0 0] w fun e w' => e = .returned (.bool (inR n)) ∧ Gr (fun _ => False) w w' := by
  go_enter Tryz.func46, Tryz.ntmps46
  go_wp2_with (first | (go_at_call 80; refine (inRange_c _ _).mono ?_; rintro e w1 ⟨rfl, rfl⟩))
  go_ret
  exact ⟨rfl, Gr.alloc _ _ _⟩
set_option maxRecDepth 20000 in
set_option maxHeartbeats 800000 in
theorem withoutZ_c (k : Int) (x y : Nat) (w : World) : Calls Tryz.prog 48 #[lf k 0 x y e0 0 0 0] w fun e w' => e = .returned (lf k 0 0 0 e0 0 0 0) ∧ Gr (fun _ => False) w w' := by
  go_enter Tryz.func48, Tryz.ntmps48
  go_wp2
  exact bodyPost_ret (v := lf k 0 0 0 e0 0 0 0) (by simp [results, Tryz.results48, go_sem]) rfl ⟨rfl, (Gr.alloc _ _ _).trans (Gr.alloc _ _ _)⟩
set_option maxRecDepth 20000 in
set_option maxHeartbeats 800000 in
theorem withoutS_c (k : Int) (t : ByteArray) (w : World) : Calls Tryz.prog 49 #[lf k 0 0 0 t 0 0 0] w fun e w' => e = .returned (lf k 0 0 0 e0 0 0 0) ∧ Gr (fun _ => False) w w' := by
  go_enter Tryz.func49, Tryz.ntmps49
  go_wp2
  exact bodyPost_ret (v := lf k 0 0 0 e0 0 0 0) (by simp [results, Tryz.results49, go_sem]) rfl ⟨rfl, (Gr.alloc _ _ _).trans (Gr.alloc _ _ _)⟩
set_option maxRecDepth 20000 in
set_option maxHeartbeats 800000 in
theorem withoutId_c (k a c d : Int) (w : World) : Calls Tryz.prog 42 #[lf k 0 0 0 e0 a c d] w fun e w' => e = .returned (lf k 0 0 0 e0 0 0 0) ∧ Gr (fun _ => False) w w' := by
  go_enter Tryz.func42, Tryz.ntmps42
  go_wp2
  exact bodyPost_ret (v := lf k 0 0 0 e0 0 0 0) (by simp [results, Tryz.results42, go_sem]) rfl ⟨rfl, (Gr.alloc _ _ _).trans (Gr.alloc _ _ _)⟩
set_option maxRecDepth 20000 in
set_option maxHeartbeats 800000 in
theorem right_cx (x y : Nat) (hx : x < 18446744073709551616) (hy : y < 18446744073709551616) (w : World) : Calls Tryz.prog 46 #[lf 2 0 x y e0 0 0 0] w fun e w' => e = .returned (.bool (rp x && rp y)) ∧ Gr (fun _ => False) w w' := by
  have h1 := fun w => rightPart_c x hx w
  have h2 := fun w => rightPart_c y hy w
  clear hx hy
  cases hr : rp x with
  | false =>
    rw [hr] at h1
    clear hr h2
    go_enter Tryz.func46, Tryz.ntmps46
    go_wp2_with fail
    refine (h1 _).mono ?_
    rintro e w1 ⟨rfl, rfl⟩
    go_wp2_with fail
    go_ret
    exact ⟨by simp, Gr.alloc _ _ _⟩
  | true =>
    rw [hr] at h1
    clear hr
    generalize rp y = m at h2 ⊢
    go_enter Tryz.func46, Tryz.ntmps46
    go_wp2_with fail
    refine (h1 _).mono ?_
    rintro e w1 ⟨rfl, rfl⟩
    go_wp2_with fail
    refine (h2 _).mono ?_
    rintro e w1 ⟨rfl, rfl⟩
    go_wp2_with fail
    go_ret
    exact ⟨by simp, Gr.alloc _ _ _⟩

def idOk (a c d : Int) : Bool := decide (1 ≤ a) && (decide (a ≤ 64) && (decide (1 ≤ c) && decide (1 ≤ d)))
set_option maxRecDepth 20000 in
set_option maxHeartbeats 1600000 in
theorem idMay_c (k a c d : Int) (w : World) : Calls Tryz.prog 43 #[lf k 0 0 0 e0 a c d] w fun e w' => e = .returned (.bool (idOk a c d)) ∧ Gr (fun _ => False) w w' := by
  by_cases h1 : 1 ≤ a
  · by_cases h2 : a ≤ 64
    · by_cases h3 : 1 ≤ c
      · by_cases h4 : 1 ≤ d <;> simp only [idOk, h1, h2, h3, h4, decide_true, decide_false, Bool.and_true, Bool.and_false]
        all_goals (go_enter Tryz.func43, Tryz.ntmps43; go_wp2; go_ret; exact ⟨by simp, Gr.alloc _ _ _⟩)
      · simp only [idOk, h1, h2, h3, decide_true, decide_false, Bool.and_true, Bool.and_false, Bool.true_and, Bool.false_and]
        go_enter Tryz.func43, Tryz.ntmps43; go_wp2; go_ret; exact ⟨by simp, Gr.alloc _ _ _⟩
    · simp only [idOk, h1, h2, decide_true, decide_false, Bool.and_true, Bool.and_false, Bool.true_and, Bool.false_and]
      go_enter Tryz.func43, Tryz.ntmps43; go_wp2; go_ret; exact ⟨by simp, Gr.alloc _ _ _⟩
  · simp only [idOk, h1, decide_false, Bool.false_and]
    go_enter Tryz.func43, Tryz.ntmps43; go_wp2; go_ret; exact ⟨by simp, Gr.alloc _ _ _⟩

theorem tlower_c (c : Int) (w : World) : Calls Tryz.prog 83 #[.int .u8 c] w fun e w' => e = .returned (.bool (low c)) ∧ w = w' := by
  by_cases h1 : 97 ≤ c <;> by_cases h2 : c ≤ 122 <;> simp only [low, h1, h2, decide_true, decide_false, Bool.and_true, Bool.and_false, Bool.false_and, Bool.true_and]
  all_goals (go_enter Tryz.func83, Tryz.ntmps83; go_wp2; go_ret; exact ⟨rfl, rfl⟩)
set_option maxHeartbeats 800000 in
theorem tinName_c (c : Int) (w : World) : Calls Tryz.prog 84 #[.int .u8 c] w fun e w' => e = .returned (.bool (inN c)) ∧ w = w' := by
  go_enter Tryz.func84, Tryz.ntmps84
  go_wp2_with (first | (go_at_call 83; refine (tlower_c _ _).mono ?_; rintro e w' ⟨rfl, rfl⟩))
  all_goals (go_ret; refine ⟨congrArg (fun b => Ending.returned (Value.bool b)) ?_, rfl⟩; rw [Bool.eq_iff_iff]; simp [inN, dig, low] at *; try omega)

set_option maxRecDepth 20000 in
set_option maxHeartbeats 1600000 in
theorem nameMay_c (k : Int) (t : ByteArray) (h1 : 1 ≤ t.size) (h2 : t.size ≤ 65536) (h0 : low (bt t 0) = true) (hall : ∀ j, j < t.size → inN (bt t j) = true) (w : World) :
    Calls Tryz.prog 50 #[lf k 0 0 0 t 0 0 0] w fun e w' => e = .returned (.bool (decide (t.size ≤ 32))) ∧ Gr (fun _ => False) w w' := by
  have hx : ∀ w, (Instr.index 9 (.string t) (.int .i64 0)).run Tryz.prog w = .ok (.int .u8 (bt t 0)) w := fun w => ix t 0 h1 w
  obtain ⟨c, hc⟩ : ∃ c, bt t 0 = c := ⟨_, rfl⟩
  rw [hc] at hx h0
  clear hc
  replace hall := Lib.hid hall
  have q1 : (1 : Int) ≤ (t.size : Int) := by omega
  by_cases h3 : t.size ≤ 32
  · have q2 : (t.size : Int) ≤ 32 := by omega
    rw [show decide (t.size ≤ 32) = true by simp [h3]]
    go_enter Tryz.func50, Tryz.ntmps50
    go_wp2_with (first | (go_at_call 83; refine (tlower_c _ _).mono ?_; rintro e w' ⟨rfl, rfl⟩))
    have hcell := heap_alloc_new w (.cells #[.int .i64 k, .int .i64 0, .complex .f64 0 0, .string t, .int .i64 0, .int .u32 0, .int .u64 0, nl, nl] 31)
    go_loopw [24] (fun i wr => ∃ j : Nat, j ≤ t.size ∧ i = .int .i64 j ∧ wr = w.alloc (.cells #[.int .i64 k, .int .i64 0, .complex .f64 0 0, .string t, .int .i64 0, .int .u32 0, .int .u64 0, nl, nl] 31)) (fun i _ => t.size - (intOf i).toNat)
    case atStart => exact ⟨0, Nat.zero_le _, rfl, rfl⟩
    case round =>
      obtain ⟨j, hj, rfl, rfl⟩ := hrel
      by_cases hlt : j < t.size
      · have hk0 := ix t j hlt
        have hn := hall.out j hlt
        generalize bt t j = x at hk0 hn
        go_wp2_with (first | (go_at_call 84; refine (tinName_c _ _).mono ?_; rintro e w' ⟨rfl, rfl⟩))
        exact ⟨⟨j + 1, by omega, by go_num, trivial⟩, by simp [intOf]; omega⟩
      · obtain rfl : j = t.size := by omega
        go_wp2_with fail
        go_ret
        exact ⟨rfl, Gr.alloc _ _ _⟩
  · have q2 : 32 < (t.size : Int) := by omega
    rw [show decide (t.size ≤ 32) = false by simp [h3]]
    go_enter Tryz.func50, Tryz.ntmps50
    go_wp2_with (first | (go_at_call 83; refine (tlower_c _ _).mono ?_; rintro e w' ⟨rfl, rfl⟩))
    go_ret
    exact ⟨rfl, Gr.alloc _ _ _⟩
end Go.Proofs.YtdmichjhmfinpaaGreatDoor
