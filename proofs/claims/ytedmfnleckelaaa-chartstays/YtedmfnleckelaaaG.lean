/-
  A trip whose square is s moves nothing, nor one from the own place: the law's walk.
-/
import Derived.Test.YtedmfnleckelaaaE
set_option linter.unusedSimpArgs false
set_option linter.unusedVariables false
namespace Go.Proofs.Ytedmfnleckelaaa
open Go.RowKit Go.Maps
variable {S S' : Nat → Prop} {W W1 W' : World}
theorem sq_nonneg (x : Int) : 0 ≤ x * x := by
  rcases Int.le_total 0 x with h | h
  · exact Int.mul_nonneg h h
  · exact Int.mul_nonneg_of_nonpos_of_nonpos h h
theorem mul_le' {a b m n : Int} (ha : 0 ≤ a) (hb : 0 ≤ b) (h1 : a ≤ m) (h2 : b ≤ n) : a * b ≤ m * n := Int.mul_le_mul h1 h2 hb (Int.le_trans ha h1)
set_option maxRecDepth 20000 in
set_option maxHeartbeats 1000000 in
theorem stays_out (hA : AliveOk) (W : World) (p q a b : Int) (h : a < 0 ∨ 512 < a ∨ b < 0 ∨ 512 < b) :
    Calls Try.prog 3 #[.int .i32 p, .int .i32 q, .int .i32 a, .int .i32 b] W fun e w' => e = .returned (.bool true) ∧ G0 W w' := by
  have hA := hA W
  by_cases h1 : a < 0
  · clear h
    go_enter Try.func3, Try.ntmps3
    go_wp2_with fail
    refine hA.mono ?_
    rintro e w1 ⟨rfl, g1⟩
    go_wp2_with fail
    go_ret
    exact ⟨rfl, g1⟩
  by_cases h2 : 512 < a
  · clear h
    go_enter Try.func3, Try.ntmps3
    go_wp2_with fail
    refine hA.mono ?_
    rintro e w1 ⟨rfl, g1⟩
    go_wp2_with fail
    go_ret
    exact ⟨rfl, g1⟩
  by_cases h3 : b < 0
  · clear h
    go_enter Try.func3, Try.ntmps3
    go_wp2_with fail
    refine hA.mono ?_
    rintro e w1 ⟨rfl, g1⟩
    go_wp2_with fail
    go_ret
    exact ⟨rfl, g1⟩
  have h4 : 512 < b := by omega
  clear h
  go_enter Try.func3, Try.ntmps3
  go_wp2_with fail
  refine hA.mono ?_
  rintro e w1 ⟨rfl, g1⟩
  go_wp2_with fail
  go_ret
  exact ⟨rfl, g1⟩
/-- The squares of a triple. -/
theorem triple (a b : Int) : 2 * a * b * (2 * a * b) + (a * a - b * b) * (a * a - b * b) = (a * a + b * b) * (a * a + b * b) := by
  have e1 : 2 * a * b * (2 * a * b) = 4 * (a * a * (b * b)) := by
    have q1 : 2 * a * b * (2 * a * b) = 2 * 2 * (a * a * (b * b)) := by ac_rfl
    rw [q1]; rfl
  have e2 : b * b * (a * a) = a * a * (b * b) := Int.mul_comm _ _
  rw [e1]
  generalize a * a = u at *
  generalize b * b = v at *
  simp only [Int.sub_mul, Int.mul_sub, Int.add_mul, Int.mul_add, e2]
  omega
theorem tmod_b (p : Int) : -1000 ≤ p.tmod 1000 ∧ p.tmod 1000 ≤ 1000 := by
  have h1 := Int.tmod_lt_of_pos p (show (0 : Int) < 1000 by decide)
  have h2 := Int.lt_tmod_of_pos p (show (0 : Int) < 1000 by decide)
  omega
theorem neg_sq (x : Int) : -x * -x = x * x := by rw [Int.neg_mul_neg]
theorem fi1 : fi 1 = 4607182418800017408 := by decide
theorem moved_own (P Q X Y T : Int) (hP : -1000 ≤ P ∧ P ≤ 1000) (hQ : -1000 ≤ Q ∧ Q ≤ 1000) (hX : -524288 ≤ X ∧ X ≤ 524288) (hY : -524288 ≤ Y ∧ Y ≤ 524288) (hT : 0 ≤ T ∧ T ≤ 1048576) (h : X * X + Y * Y = T * T) (w : World) :
    Calls Try.prog 11 #[.complex .f64 (fi P) (fi Q), .complex .f64 (fi (P + X)) (fi (Q + Y)), .int .i64 T] w fun e w' => e = .returned (.complex .f64 (fi P) (fi Q)) ∧ G0 w w' := by
  have hX2 : X * X ≤ 1099511627776 := by have := sq_nonneg Y; have := mul_le' hT.1 hT.1 hT.2 hT.2; omega
  have hY2 : Y * Y ≤ 1099511627776 := by have := sq_nonneg X; have := mul_le' hT.1 hT.1 hT.2 hT.2; omega
  have hT2 : T * T ≤ 1099511627776 := by have := mul_le' hT.1 hT.1 hT.2 hT.2; omega
  have hX0 := sq_nonneg X
  have hY0 := sq_nonneg Y
  have hT0 := sq_nonneg T
  have s1 : sb (fi P) (fi (P + X)) (fi (-X)) := by
    have := sub_fi (a := P) (b := P + X) ⟨by omega, by omega⟩ ⟨by omega, by omega⟩ ⟨by omega, by omega⟩
    rwa [show P - (P + X) = -X by omega] at this
  have s2 : sb (fi Q) (fi (Q + Y)) (fi (-Y)) := by
    have := sub_fi (a := Q) (b := Q + Y) ⟨by omega, by omega⟩ ⟨by omega, by omega⟩ ⟨by omega, by omega⟩
    rwa [show Q - (Q + Y) = -Y by omega] at this
  have s3 : ml (fi (-X)) (fi (-X)) (fi (X * X)) := by
    have := sq_fi (a := -X) ⟨by omega, by omega⟩ (by rw [neg_sq]; exact ⟨by omega, by omega⟩)
    rwa [neg_sq] at this
  have s4 : ml (fi (-Y)) (fi (-Y)) (fi (Y * Y)) := by
    have := sq_fi (a := -Y) ⟨by omega, by omega⟩ (by rw [neg_sq]; exact ⟨by omega, by omega⟩)
    rwa [neg_sq] at this
  have s5 : ad (fi (X * X)) (fi (Y * Y)) (fi (T * T)) := by
    have := add_fi (a := X * X) (b := Y * Y) ⟨by omega, by omega⟩ ⟨by omega, by omega⟩ ⟨by omega, by omega⟩
    rwa [h] at this
  by_cases hz : T * T = 0
  · refine (moved_stay _ _ _ _ _ _ _ _ _ T s1 s2 s3 s4 s5 (by rw [hz]; decide) w).mono ?_
    rintro e w' ⟨rfl, rfl⟩
    exact ⟨rfl, Gr.refl _ _⟩
  · have hTT : Sm (T * T) := ⟨by omega, by omega⟩
    have z0 := zero_iff (fi (T * T))
    obtain ⟨_, _, _, z1⟩ := fi_fin hTT
    rw [decide_eq_false (by rw [z1]; exact hz)] at z0
    have s6 : ml (fi T) (fi T) (fi (T * T)) := sq_fi ⟨by omega, by omega⟩ hTT
    have s7 : sb (fi (T * T)) (fi (T * T)) 0 := by
      have := sub_fi hTT hTT (by rw [Int.sub_self]; exact ⟨by omega, by omega⟩)
      rwa [Int.sub_self, fi_zero] at this
    have s8 : ad (fi (T * T)) (fi (T * T)) (fi (T * T + T * T)) := add_fi hTT hTT ⟨by omega, by omega⟩
    have s9 : ad (fi (T * T + T * T)) 4607182418800017408 (fi (T * T + T * T + 1)) := by
      rw [← fi1]; exact add_fi ⟨by omega, by omega⟩ ⟨by omega, by omega⟩ ⟨by omega, by omega⟩
    have s10 : dv 0 (fi (T * T + T * T + 1)) 0 := div_fi (by omega) ⟨by omega, by omega⟩
    obtain ⟨b1, s11⟩ := mulz_fi (a := -X) ⟨by omega, by omega⟩
    obtain ⟨b2, s12⟩ := mulz_fi (a := -Y) ⟨by omega, by omega⟩
    have hPs : Sm P := ⟨by omega, by omega⟩
    have hQs : Sm Q := ⟨by omega, by omega⟩
    exact moved_go _ _ _ _ _ _ _ _ _ _ _ _ _ _ _ _ _ _ _ _ T s1 s2 s3 s4 s5 z0 rfl s6 s7 s8 s9 s10 (by decide +kernel : dv 0 4634204016564240384 0) s11 (addz_fi hPs b1) s12 (addz_fi hQs b2) (.of hPs) (.of hQs) w
theorem moved_self (P Q trip : Int) (hP : -1000 ≤ P ∧ P ≤ 1000) (hQ : -1000 ≤ Q ∧ Q ≤ 1000) (w : World) :
    Calls Try.prog 11 #[.complex .f64 (fi P) (fi Q), .complex .f64 (fi P) (fi Q), .int .i64 trip] w fun e w' => e = .returned (.complex .f64 (fi P) (fi Q)) ∧ G0 w w' := by
  have hPs : Sm P := ⟨by omega, by omega⟩
  have hQs : Sm Q := ⟨by omega, by omega⟩
  have s1 : sb (fi P) (fi P) 0 := by
    have := sub_fi hPs hPs (by rw [Int.sub_self]; exact ⟨by omega, by omega⟩)
    rwa [Int.sub_self, fi_zero] at this
  have s2 : sb (fi Q) (fi Q) 0 := by
    have := sub_fi hQs hQs (by rw [Int.sub_self]; exact ⟨by omega, by omega⟩)
    rwa [Int.sub_self, fi_zero] at this
  refine (moved_stay _ _ _ _ _ _ _ _ _ trip s1 s2 (by decide +kernel : ml 0 0 0) (by decide +kernel : ml 0 0 0) (by decide +kernel : ad 0 0 0) (by decide) w).mono ?_
  rintro e w' ⟨rfl, rfl⟩
  exact ⟨rfl, Gr.refl _ _⟩
set_option maxRecDepth 20000 in
set_option maxHeartbeats 1000000 in
theorem stays_in (hA : AliveOk) (W : World) (p q a b : Int) (hp : -2147483648 ≤ p ∧ p ≤ 2147483647) (hq : -2147483648 ≤ q ∧ q ≤ 2147483647) (ha : 0 ≤ a ∧ a ≤ 512) (hb : 0 ≤ b ∧ b ≤ 512) :
    Calls Try.prog 3 #[.int .i32 p, .int .i32 q, .int .i32 a, .int .i32 b] W fun e w' => e = .returned (.bool true) ∧ G0 W w' := by
  have hA := hA W
  obtain ⟨ha1, ha2⟩ := ha
  obtain ⟨hb1, hb2⟩ := hb
  have x0 : 0 ≤ 2 * a * b := Int.mul_nonneg (by omega) hb1
  have x1 : 2 * a * b ≤ 524288 := mul_le' (m := 1024) (n := 512) (by omega) hb1 (by omega) hb2
  have y0 := sq_nonneg a
  have y1 : a * a ≤ 262144 := mul_le' (m := 512) (n := 512) ha1 ha1 ha2 ha2
  have z0 := sq_nonneg b
  have z1 : b * b ≤ 262144 := mul_le' (m := 512) (n := 512) hb1 hb1 hb2 hb2
  go_enter Try.func3, Try.ntmps3
  go_wp2_with fail
  refine hA.mono ?_
  rintro e w1 ⟨rfl, g1⟩
  have hP : -1000 ≤ p.tmod 1000 ∧ p.tmod 1000 ≤ 1000 := tmod_b p
  have hQ : -1000 ≤ q.tmod 1000 ∧ q.tmod 1000 ≤ 1000 := tmod_b q
  have tr := triple a b
  go_wp2_with fail
  generalize p.tmod 1000 = P at *
  generalize q.tmod 1000 = Q at *
  have hX : -524288 ≤ 2 * a * b ∧ 2 * a * b ≤ 524288 := by omega
  have hY : -524288 ≤ a * a - b * b ∧ a * a - b * b ≤ 524288 := by omega
  have hT : 0 ≤ a * a + b * b ∧ a * a + b * b ≤ 1048576 := by omega
  clear x0 x1 y0 y1 z0 z1
  generalize 2 * a * b = X at *
  generalize a * a - b * b = Y at *
  generalize a * a + b * b = T at *
  have m1 := moved_own P Q X Y T hP hQ hX hY hT tr
  have m2 := moved_self P Q a hP hQ
  refine (new_c (fi P) (fi Q) (.of ⟨by omega, by omega⟩) (.of ⟨by omega, by omega⟩) _).mono ?_
  rintro e w2 ⟨pb, mb, rfl, c1, g2, hp1, hm1⟩
  have r1 := run_ad (add_fi (a := P) (b := X) ⟨by omega, by omega⟩ ⟨by omega, by omega⟩ ⟨by omega, by omega⟩)
  have r2 := run_ad (add_fi (a := Q) (b := Y) ⟨by omega, by omega⟩ ⟨by omega, by omega⟩ ⟨by omega, by omega⟩)
  go_wp2_with fail
  refine (hear_c w2 pb mb _ _ _ _ c1 (by omega) 7 T _ _ _ _ (by omega) (by omega) (.of ⟨by omega, by omega⟩) (.of ⟨by omega, by omega⟩) hT.1 hT.2 m1).mono ?_
  rintro e w3 ⟨rfl, c3, g3⟩
  clear r1 r2 m1 tr
  have hPs : Sm P := ⟨by omega, by omega⟩
  have hQs : Sm Q := ⟨by omega, by omega⟩
  have o1 := self_fin (fi P) (by have := (fi_fin hPs).2.1; omega)
  have o2 := self_fin (fi Q) (by have := (fi_fin hQs).2.1; omega)
  go_wp2_with fail
  refine (hear_c w3 pb mb _ _ _ _ c3 (by omega) 8 a _ _ _ _ (by omega) (by omega) (.of hPs) (.of hQs) ha1 (by omega) m2).mono ?_
  rintro e w4 ⟨rfl, c4, g4⟩
  go_wp2_with fail
  refine (own_c w4 pb mb _ _ _ _ c4).mono ?_
  rintro e w5 ⟨rfl, rfl⟩
  go_wp2_with fail
  go_ret
  refine ⟨by simp, ?_⟩
  exact (g1.trans g2).new (g3.trans g4) (fun i e => .inr (by have := g1.size; omega))
theorem stays_w (hA : AliveOk) (W : World) (p q a b : Int) (hp : -2147483648 ≤ p ∧ p ≤ 2147483647) (hq : -2147483648 ≤ q ∧ q ≤ 2147483647) :
    Calls Try.prog 3 #[.int .i32 p, .int .i32 q, .int .i32 a, .int .i32 b] W fun e w' => e = .returned (.bool true) ∧ G0 W w' := by
  by_cases h : a < 0 ∨ 512 < a ∨ b < 0 ∨ 512 < b
  · exact stays_out hA W p q a b h
  · exact stays_in hA W p q a b hp hq (by omega) (by omega)
end Go.Proofs.Ytedmfnleckelaaa
