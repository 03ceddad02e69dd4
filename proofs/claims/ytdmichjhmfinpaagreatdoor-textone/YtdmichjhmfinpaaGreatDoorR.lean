/-
  Which parts of a complex number may be: the program's word and the reference's.
-/
import Derived.Test.YtdmichjhmfinpaaGreatDoorJ
import Derived.Test.YtdmichjhmfinpaaGreatDoorP
set_option linter.unusedVariables false
set_option linter.unusedSimpArgs false
namespace Go.Proofs.YtdmichjhmfinpaaGreatDoor
open Go.RowKit

def fin (x : Nat) : Bool := decide (x % 9223372036854775808 < 9218868437227405312)
def rp (x : Nat) : Bool := fin x && !decide (x = 9223372036854775808)

@[go_sem] theorem cf71 (x : Nat) (w : World) : (callFunc 71 #[.float .f64 x]).run Tryz.prog w = .ok (Next.value (.int .u64 x)) w := by
  rw [run_callFunc_extern (e := Extern.MathFloatBits.float64bits) Tryz.func71 (by kernel_rfl) (by kernel_rfl) (by kernel_rfl) (by kernel_rfl)]
  rfl
theorem andNot63 (x : Nat) (h : x < 18446744073709551616) : bits .andNot .u64 (x : Int) 9223372036854775808 = ((x % 9223372036854775808 : Nat) : Int) := by
  have e : (BitVec.ofInt 64 (x : Int) &&& ~~~BitVec.ofInt 64 9223372036854775808).toNat = x % 9223372036854775808 := by
    have h1 : ~~~BitVec.ofInt 64 9223372036854775808 = BitVec.ofNat 64 (2 ^ 63 - 1) := by decide
    rw [h1, BitVec.ofInt_natCast, BitVec.toNat_and, BitVec.toNat_ofNat, BitVec.toNat_ofNat, Nat.mod_eq_of_lt (by omega), Nat.mod_eq_of_lt (by decide), Nat.and_two_pow_sub_one_eq_mod]
  show IntKind.u64.wrap ((BitVec.ofInt 64 (x : Int) &&& ~~~BitVec.ofInt 64 9223372036854775808).toNat : Int) = _
  rw [e, IntKind.wrap_u64]
  omega

theorem isNaN_c (x : Nat) (w : World) : Calls Tryz.prog 124 #[.float .f64 x] w fun e w' => e = .returned (.bool (!decide (x % 9223372036854775808 ≤ 9218868437227405312))) ∧ w = w' := by
  by_cases h : x % 9223372036854775808 ≤ 9218868437227405312
  · have h1 := self_fin x h
    simp only [h, decide_true, Bool.not_true]
    clear h
    go_enter Tryz.func124, Tryz.ntmps124
    go_wp2
    go_ret
    exact ⟨rfl, rfl⟩
  · have h1 := nan_any x x (by omega)
    simp only [h, decide_false, Bool.not_false]
    clear h
    go_enter Tryz.func124, Tryz.ntmps124
    go_wp2
    go_ret
    exact ⟨rfl, rfl⟩
set_option maxRecDepth 20000 in
theorem abs_c (x : Nat) (hx : x < 18446744073709551616) (w : World) : Calls Tryz.prog 141 #[.float .f64 x] w fun e w' => e = .returned (.float .f64 (x % 9223372036854775808)) ∧ w = w' := by
  have h1 := andNot63 x hx
  generalize x % 9223372036854775808 = y at h1 ⊢
  clear hx
  go_enter Tryz.func141, Tryz.ntmps141
  go_wp2
  go_ret
  exact ⟨rfl, rfl⟩
set_option maxRecDepth 20000 in
theorem isInf_c (x : Nat) (hx : x < 18446744073709551616) (h : x % 9223372036854775808 ≤ 9218868437227405312) (w : World) :
    Calls Tryz.prog 125 #[.float .f64 x, .int .i64 0] w fun e w' => e = .returned (.bool (!fin x)) ∧ w = w' := by
  have ha := fun w => abs_c x hx w
  have hy : x % 9223372036854775808 % 9223372036854775808 = x % 9223372036854775808 := by omega
  by_cases h1 : x % 9223372036854775808 < 9218868437227405312
  · have hm := (fin_max (x % 9223372036854775808) (by omega)).1
    rw [show fin x = true by simp [fin, h1]]
    generalize x % 9223372036854775808 = y at ha hm
    clear h h1 hy hx
    go_enter Tryz.func125, Tryz.ntmps125
    go_wp2_with fail
    refine (ha _).mono ?_
    rintro e w1 ⟨rfl, rfl⟩
    go_wp2_with fail
    go_ret
    exact ⟨rfl, rfl⟩
  · have hm := (inf_max (x % 9223372036854775808) (by omega)).1
    rw [show fin x = false by simp [fin, h1]]
    have hd : (x % 9223372036854775808 / 9223372036854775808 % 2 == 1) = false := by simp
    rw [hd] at hm
    simp only [Bool.false_eq_true, if_false] at hm
    generalize x % 9223372036854775808 = y at ha hm
    clear h h1 hy hx hd
    go_enter Tryz.func125, Tryz.ntmps125
    go_wp2_with fail
    refine (ha _).mono ?_
    rintro e w1 ⟨rfl, rfl⟩
    go_wp2_with fail
    go_ret
    exact ⟨rfl, rfl⟩
set_option maxRecDepth 20000 in
theorem finite_c (x : Nat) (hx : x < 18446744073709551616) (w : World) : Calls Tryz.prog 105 #[.float .f64 x] w fun e w' => e = .returned (.bool (fin x)) ∧ w = w' := by
  have h1 := fun w => isNaN_c x w
  by_cases h : x % 9223372036854775808 ≤ 9218868437227405312
  · have h2 := fun w => isInf_c x hx h w
    simp only [h, decide_true, Bool.not_true] at h1
    generalize fin x = b at h2 ⊢
    clear h hx
    go_enter Tryz.func105, Tryz.ntmps105
    go_wp2_with (first | (go_at_call 124; refine (h1 _).mono ?_; rintro e w1 ⟨rfl, rfl⟩) | (go_at_call 125; refine (h2 _).mono ?_; rintro e w1 ⟨rfl, rfl⟩))
    go_ret
    exact ⟨by simp, rfl⟩
  · simp only [h, decide_false, Bool.not_false] at h1
    rw [show fin x = false by simp [fin]; omega]
    clear h hx
    go_enter Tryz.func105, Tryz.ntmps105
    go_wp2_with (first | (go_at_call 124; refine (h1 _).mono ?_; rintro e w1 ⟨rfl, rfl⟩))
    go_ret
    exact ⟨rfl, rfl⟩
set_option maxRecDepth 20000 in
theorem signbit_c (x : Nat) (hx : x < 18446744073709551616) (w : World) : Calls Tryz.prog 106 #[.float .f64 x] w fun e w' => e = .returned (.bool (decide (9223372036854775808 ≤ x))) ∧ w = w' := by
  obtain ⟨z, hz⟩ : ∃ z : Int, (x : Int) = z := ⟨_, rfl⟩
  have hc : (callFunc 71 #[.float .f64 x]).run Tryz.prog w = .ok (Next.value (.int .u64 z)) w := by rw [← hz]; exact cf71 x w
  by_cases h : 9223372036854775808 ≤ x
  · have e : wrap64 z = z - 18446744073709551616 := by unfold wrap64; omega
    have h2 : decide (z - 18446744073709551616 < 0) = true := by simp; omega
    rw [show decide (9223372036854775808 ≤ x) = true by simp [h]]
    have k1 : 9223372036854775808 ≤ z := by omega
    have k2 : z < 18446744073709551616 := by omega
    clear hz h hx
    go_enter Tryz.func106, Tryz.ntmps106
    go_wp2
    go_ret
    exact ⟨by simp [*], rfl⟩
  · have h2 : decide (z < 0) = false := by simp; omega
    rw [show decide (9223372036854775808 ≤ x) = false by simp; omega]
    have k1 : 0 ≤ z := by omega
    have k2 : z < 9223372036854775808 := by omega
    clear hz h hx
    go_enter Tryz.func106, Tryz.ntmps106
    go_wp2
    go_ret
    exact ⟨by simp [*], rfl⟩
set_option maxRecDepth 20000 in
theorem rightPart_c (x : Nat) (hx : x < 18446744073709551616) (w : World) : Calls Tryz.prog 81 #[.float .f64 x] w fun e w' => e = .returned (.bool (rp x)) ∧ w = w' := by
  have h1 := fun w => finite_c x hx w
  have h2 := fun w => signbit_c x hx w
  have hz := zero_iff x
  cases hf : fin x with
  | false =>
    rw [hf] at h1
    rw [show rp x = false by simp [rp, hf]]
    clear h2 hz hx
    go_enter Tryz.func81, Tryz.ntmps81
    go_wp2_with (first | (go_at_call 105; refine (h1 _).mono ?_; rintro e w1 ⟨rfl, rfl⟩))
    go_ret
    exact ⟨rfl, rfl⟩
  | true =>
    rw [hf] at h1
    by_cases h0 : x % 9223372036854775808 = 0
    · simp only [h0, decide_true] at hz
      have hz' : ord x 0 = some .eq := by simpa using hz
      rw [show rp x = !decide (9223372036854775808 ≤ x) by
        simp only [rp, hf, Bool.true_and]
        congr 1
        rw [decide_eq_decide]; omega]
      generalize decide (9223372036854775808 ≤ x) = b at h2 ⊢
      clear h0 hx hz
      go_enter Tryz.func81, Tryz.ntmps81
      go_wp2_with (first | (go_at_call 105; refine (h1 _).mono ?_; rintro e w1 ⟨rfl, rfl⟩) | (go_at_call 106; refine (h2 _).mono ?_; rintro e w1 ⟨rfl, rfl⟩))
      go_ret
      exact ⟨by simp, rfl⟩
    · simp only [h0, decide_false] at hz
      have hz' : (ord x 0 != some .eq) = true := by simp [bne, hz]
      rw [show rp x = true by simp [rp, hf]; omega]
      clear h0 hx hz h2
      go_enter Tryz.func81, Tryz.ntmps81
      go_wp2_with (first | (go_at_call 105; refine (h1 _).mono ?_; rintro e w1 ⟨rfl, rfl⟩))
      go_ret
      exact ⟨by simp, rfl⟩

/-! ### The reference's word -/
set_option maxRecDepth 20000 in
theorem refFinite_c (x : Nat) (w : World) : Calls Tryz.prog 99 #[.float .f64 x] w fun e w' => e = .returned (.bool (fin x)) ∧ w = w' := by
  by_cases h : x % 9223372036854775808 < 9218868437227405312
  · have h1 := fin_min x h
    have h2 := (fin_max x h).2
    rw [show fin x = true by simp [fin, h]]
    clear h
    go_enter Tryz.func99, Tryz.ntmps99
    go_wp2
    go_ret
    exact ⟨by simp [h1, h2], rfl⟩
  · rw [show fin x = false by simp [fin, h]]
    by_cases h3 : x % 9223372036854775808 = 9218868437227405312
    · obtain ⟨h1, h2⟩ := inf_max x h3
      cases hb : (x / 9223372036854775808 % 2 == 1) with
      | true =>
        rw [hb] at h1 h2
        simp only [if_true] at h1 h2
        clear h h3 hb
        go_enter Tryz.func99, Tryz.ntmps99
        go_wp2
        go_ret
        exact ⟨rfl, rfl⟩
      | false =>
        rw [hb] at h1 h2
        simp only [Bool.false_eq_true, if_false] at h1 h2
        clear h h3 hb
        go_enter Tryz.func99, Tryz.ntmps99
        go_wp2
        go_ret
        exact ⟨rfl, rfl⟩
    · have h1 := nan_any x 18442240474082181119 (by omega)
      clear h h3
      go_enter Tryz.func99, Tryz.ntmps99
      go_wp2
      go_ret
      exact ⟨rfl, rfl⟩
theorem q0 (w : World) : (binOp .quo 73 (.float .f64 4607182418800017408) (.float .f64 0)).run Tryz.prog w = .ok (.float .f64 9218868437227405312) w := by kernel_rfl
theorem qm (w : World) : (binOp .quo 73 (.float .f64 4607182418800017408) (.float .f64 9223372036854775808)).run Tryz.prog w = .ok (.float .f64 18442240474082181120) w := by kernel_rfl
theorem oi : FloatKind.f64.format.order 9218868437227405312 0 = some .gt := by decide
theorem om : FloatKind.f64.format.order 18442240474082181120 0 = some .lt := by decide
theorem o00 : FloatKind.f64.format.order 0 0 = some .eq := by decide
theorem om0 : FloatKind.f64.format.order 9223372036854775808 0 = some .eq := by decide
set_option maxRecDepth 20000 in
theorem refMinus_c (x : Nat) (hx : x < 18446744073709551616) (w : World) : Calls Tryz.prog 100 #[.float .f64 x] w fun e w' => e = .returned (.bool (decide (x = 9223372036854775808))) ∧ w = w' := by
  have a1 := q0
  have a2 := qm
  have a3 := oi
  have a4 := om
  have hz := zero_iff x
  by_cases h0 : x % 9223372036854775808 = 0
  · have h1 : x = 0 ∨ x = 9223372036854775808 := by omega
    clear hz h0 hx
    rcases h1 with rfl | rfl
    · have a5 := o00
      go_enter Tryz.func100, Tryz.ntmps100
      go_wp2
      go_ret
      exact ⟨rfl, rfl⟩
    · have a5 := om0
      go_enter Tryz.func100, Tryz.ntmps100
      go_wp2
      go_ret
      exact ⟨rfl, rfl⟩
  · simp only [h0, decide_false] at hz
    rw [show decide (x = 9223372036854775808) = false by simp; omega]
    clear h0 hx
    go_enter Tryz.func100, Tryz.ntmps100
    go_wp2
    go_ret
    exact ⟨rfl, rfl⟩

def inR (n : Int) : Bool := decide (-4611686018427387904 ≤ n) && decide (n ≤ 4611686018427387903)
theorem inRange_c (n : Int) (w : World) : Calls Tryz.prog 80 #[.int .i64 n] w fun e w' => e = .returned (.bool (inR n)) ∧ w = w' := by
  by_cases h1 : -4611686018427387904 ≤ n <;> by_cases h2 : n ≤ 4611686018427387903 <;> simp only [inR, h1, h2, decide_true, decide_false, Bool.and_true, Bool.and_false, Bool.false_and, Bool.true_and]
  all_goals (go_enter Tryz.func80, Tryz.ntmps80; go_wp2; go_ret; exact ⟨rfl, rfl⟩)
end Go.Proofs.YtdmichjhmfinpaaGreatDoor
