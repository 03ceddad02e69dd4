import Derived.Test.YtancbidpmbjmnaaI
namespace Go.Proofs.Ytancbidpmbjmnaa
open Go.RowKit
set_option linter.unusedVariables false
set_option maxRecDepth 20000 in
set_option maxHeartbeats 2000000 in
theorem num_y0 (a b c q r p : Int) (w : World) (ha : InR a) (hb : InR b) (h0 : ¬ b = 0) (hq : InR q) (hr : InR r) (hp : InR p) (eq : a.tdiv b = q) (er : a.tmod b = r) (ep : q * b = p) (ea : p + r = a) (lo : -4611686018427387904 < r) (hc : InR c) (hs : a + b = c) (g1 : (r != 0) = false) :
    Calls Try.prog 3 #[.int .i64 a, .int .i64 b] w fun e w' => e = .returned (.bool true) ∧ Kp w w' := by
  have HA : Hid (InR a) := ha
  have HB : Hid (InR b) := hb
  have H0 : Hid (¬ b = 0) := h0
  have HQ : Hid (InR q) := hq
  have HR : Hid (InR r) := hr
  have HP : Hid (InR p) := hp
  have EQ : Hid (a.tdiv b = q) := eq
  have ER : Hid (a.tmod b = r) := er
  have EP : Hid (q * b = p) := ep
  have EA : Hid (p + r = a) := ea
  have t0 : (b == 0) = false := by simpa using h0
  clear ha hb hq hr hp eq er ep ea
  have HC : Hid (InR c) := hc
  have HS : Hid (a + b = c) := hs
  clear hc hs
  obtain ⟨k, hk⟩ : ∃ k, kOf (a * b) = k := ⟨_, rfl⟩
  obtain ⟨v, hv⟩ : ∃ v, vOf (a * b) = v := ⟨_, rfl⟩
  obtain ⟨m, hm⟩ : ∃ m, eOf (a * b) = m := ⟨_, rfl⟩
  have M1 : Hid (kOf (a * b) = k ∧ vOf (a * b) = v ∧ eOf (a * b) = m) := ⟨hk, hv, hm⟩
  have M2 : Hid (kOf (b * a) = k ∧ vOf (b * a) = v ∧ eOf (b * a) = m) := by rw [Int.mul_comm]; exact M1
  clear hk hv hm
  go_enter Try.func3, Try.ntmps3
  go_wp2_with fail
  refine (alive_any _).mono ?_
  rintro e w1 ⟨rfl, hk1⟩
  go_wp2_with fail
  refine (int_yes _ _ HA.out.1 HA.out.2).mono ?_
  rintro e w2 ⟨rfl, hk2⟩
  have HK : Hid (Kp w w2) := hk1.trans hk2
  clear hk1 hk2
  go_wp2_with fail
  refine (int_yes _ _ HB.out.1 HB.out.2).mono ?_
  rintro e w3 ⟨rfl, hk3⟩
  have LX : w.heap.size ≤ w2.heap.size := HK.out.size
  replace HK : Hid (Kp w w3) := (HK.out.alloc _ _).trans hk3
  have hX := hk3.newA
  have sX := hk3.ltN
  clear hk3
  generalize w2.heap.size = X at LX hX sX ⊢
  go_wp2_with fail
  refine (do_add_y _ HA.out HB.out HC.out HS.out).mono ?_
  rintro e w4 ⟨rfl, hk4⟩
  have LY : w.heap.size ≤ w3.heap.size := HK.out.size
  replace HK : Hid (Kp w w4) := (HK.out.alloc _ _).trans hk4
  have hY := hk4.newA
  have sY := hk4.ltN
  have nXY : ¬ X = w3.heap.size := by omega
  replace hX := hk4.carryA sX hX
  replace sX := Nat.lt_trans sX sY
  clear hk4
  generalize w3.heap.size = Y at LY hY sY nXY ⊢
  go_wp2_with fail
  refine (do_sub_y _ HC.out HB.out HA.out (by have := HS.out; omega)).mono ?_
  rintro e w5 ⟨rfl, hk5⟩
  have LS : w.heap.size ≤ w4.heap.size := HK.out.size
  replace HK : Hid (Kp w w5) := (HK.out.alloc _ _).trans hk5
  have hS := hk5.newA
  have sS := hk5.ltN
  have nXS : ¬ X = w4.heap.size := by omega
  replace hX := hk5.carryA sX hX
  replace sX := Nat.lt_trans sX sS
  have nYS : ¬ Y = w4.heap.size := by omega
  replace hY := hk5.carryA sY hY
  replace sY := Nat.lt_trans sY sS
  clear hk5
  generalize w4.heap.size = S at LS hS sS nXS nYS ⊢
  go_wp2_with fail
  refine (do_mul_v _ HA.out HB.out M1.out.1 M1.out.2.1 M1.out.2.2).mono ?_
  rintro e w6 ⟨rfl, hk6⟩
  replace HK : Hid (Kp w w6) := (HK.out.alloc _ _).trans hk6
  have sN := hk6.ltN
  replace hX := hk6.carryA sX hX
  replace sX := Nat.lt_trans sX sN
  replace hY := hk6.carryA sY hY
  replace sY := Nat.lt_trans sY sN
  replace hS := hk6.carryA sS hS
  replace sS := Nat.lt_trans sS sN
  clear hk6 sN
  go_wp2_with fail
  refine (do_mul_v _ HB.out HA.out M2.out.1 M2.out.2.1 M2.out.2.2).mono ?_
  rintro e w7 ⟨rfl, hk7⟩
  have LP : w.heap.size ≤ w6.heap.size := HK.out.size
  replace HK : Hid (Kp w w7) := (HK.out.alloc _ _).trans hk7
  have hP := hk7.newA
  have sP := hk7.ltN
  have nXP : ¬ X = w6.heap.size := by omega
  replace hX := hk7.carryA sX hX
  replace sX := Nat.lt_trans sX sP
  have nYP : ¬ Y = w6.heap.size := by omega
  replace hY := hk7.carryA sY hY
  replace sY := Nat.lt_trans sY sP
  have nSP : ¬ S = w6.heap.size := by omega
  replace hS := hk7.carryA sS hS
  replace sS := Nat.lt_trans sS sP
  clear hk7
  generalize w6.heap.size = P at LP hP sP nXP nYP nSP ⊢
  go_wp2_with fail
  refine (do_div_y _ HA.out HB.out H0.out HQ.out EQ.out).mono ?_
  rintro e w8 ⟨rfl, hk8⟩
  have LQ : w.heap.size ≤ w7.heap.size := HK.out.size
  replace HK : Hid (Kp w w8) := (HK.out.alloc _ _).trans hk8
  have hQ := hk8.newA
  have sQ := hk8.ltN
  have nXQ : ¬ X = w7.heap.size := by omega
  replace hX := hk8.carryA sX hX
  replace sX := Nat.lt_trans sX sQ
  have nYQ : ¬ Y = w7.heap.size := by omega
  replace hY := hk8.carryA sY hY
  replace sY := Nat.lt_trans sY sQ
  have nSQ : ¬ S = w7.heap.size := by omega
  replace hS := hk8.carryA sS hS
  replace sS := Nat.lt_trans sS sQ
  have nPQ : ¬ P = w7.heap.size := by omega
  replace hP := hk8.carryA sP hP
  replace sP := Nat.lt_trans sP sQ
  clear hk8
  generalize w7.heap.size = Q at LQ hQ sQ nXQ nYQ nSQ nPQ ⊢
  have fQ := HK.out.freshZ LQ
  go_wp2_with fail
  refine (do_rem_y _ HA.out HB.out H0.out HR.out ER.out).mono ?_
  rintro e w9 ⟨rfl, hk9⟩
  have hk9' : Kp (st9 w8 Q (.int .i64 1) (.int .i64 q) (.complex .f64 0 0) (.string { data := #[] }) (.int .i64 0) (.int .u32 0) (.int .u64 0) (.slice none 0 0) (.slice none 0 0)) w9 := hk9
  clear hk9
  have zz := hk9'.sizeS
  replace HK : Hid (Kp w w9) := (Kp.set9 HK.out _ LQ _ _ _ _ _ _ _ _ _).trans hk9'
  replace hX := hk9'.carryS sX nXQ hX
  replace hY := hk9'.carryS sY nYQ hY
  replace hS := hk9'.carryS sS nSQ hS
  replace hP := hk9'.carryS sP nPQ hP
  replace hQ := hk9'.newS sQ hQ
  replace sX := Nat.lt_of_lt_of_le sX zz
  replace sY := Nat.lt_of_lt_of_le sY zz
  replace sS := Nat.lt_of_lt_of_le sS zz
  replace sP := Nat.lt_of_lt_of_le sP zz
  replace sQ := Nat.lt_of_lt_of_le sQ zz
  clear zz hk9' fQ
  go_wp2_with fail
  refine (do_mul_y _ HQ.out HB.out HP.out EP.out).mono ?_
  rintro e w10 ⟨rfl, hk10⟩
  have LR : w.heap.size ≤ w9.heap.size := HK.out.size
  replace HK : Hid (Kp w w10) := (HK.out.alloc _ _).trans hk10
  have hR := hk10.newA
  have sR := hk10.ltN
  have nXR : ¬ X = w9.heap.size := by omega
  replace hX := hk10.carryA sX hX
  replace sX := Nat.lt_trans sX sR
  have nYR : ¬ Y = w9.heap.size := by omega
  replace hY := hk10.carryA sY hY
  replace sY := Nat.lt_trans sY sR
  have nSR : ¬ S = w9.heap.size := by omega
  replace hS := hk10.carryA sS hS
  replace sS := Nat.lt_trans sS sR
  have nPR : ¬ P = w9.heap.size := by omega
  replace hP := hk10.carryA sP hP
  replace sP := Nat.lt_trans sP sR
  have nQR : ¬ Q = w9.heap.size := by omega
  replace hQ := hk10.carryA sQ hQ
  replace sQ := Nat.lt_trans sQ sR
  clear hk10
  generalize w9.heap.size = R at LR hR sR nXR nYR nSR nPR nQR ⊢
  have fP := HK.out.freshZ LP
  go_wp2_with fail
  refine (do_add_y _ HP.out HR.out HA.out EA.out).mono ?_
  rintro e w11 ⟨rfl, hk11⟩
  have hk11' : Kp (st9 w10 P (.int .i64 1) (.int .i64 p) (.complex .f64 0 0) (.string { data := #[] }) (.int .i64 0) (.int .u32 0) (.int .u64 0) (.slice none 0 0) (.slice none 0 0)) w11 := hk11
  clear hk11
  have zz := hk11'.sizeS
  replace HK : Hid (Kp w w11) := (Kp.set9 HK.out _ LP _ _ _ _ _ _ _ _ _).trans hk11'
  replace hX := hk11'.carryS sX nXP hX
  replace hY := hk11'.carryS sY nYP hY
  replace hS := hk11'.carryS sS nSP hS
  replace hP := hk11'.newS sP hP
  replace hQ := hk11'.carryS sQ (fun e => nPQ e.symm) hQ
  replace hR := hk11'.carryS sR (fun e => nPR e.symm) hR
  replace sX := Nat.lt_of_lt_of_le sX zz
  replace sY := Nat.lt_of_lt_of_le sY zz
  replace sS := Nat.lt_of_lt_of_le sS zz
  replace sP := Nat.lt_of_lt_of_le sP zz
  replace sQ := Nat.lt_of_lt_of_le sQ zz
  replace sR := Nat.lt_of_lt_of_le sR zz
  clear zz hk11' fP
  have fS := HK.out.freshZ LS
  go_wp2
  go_ret
  exact ⟨rfl, Kp.set9 HK.out _ LS _ _ _ _ _ _ _ _ _⟩
set_option maxRecDepth 20000 in
set_option maxHeartbeats 2000000 in
theorem num_n0 (a b q r p : Int) (w : World) (ha : InR a) (hb : InR b) (h0 : ¬ b = 0) (hq : InR q) (hr : InR r) (hp : InR p) (eq : a.tdiv b = q) (er : a.tmod b = r) (ep : q * b = p) (ea : p + r = a) (lo : -4611686018427387904 < r) (hc : ¬ InR (a + b)) (g1 : (r != 0) = false) :
    Calls Try.prog 3 #[.int .i64 a, .int .i64 b] w fun e w' => e = .returned (.bool true) ∧ Kp w w' := by
  have HA : Hid (InR a) := ha
  have HB : Hid (InR b) := hb
  have H0 : Hid (¬ b = 0) := h0
  have HQ : Hid (InR q) := hq
  have HR : Hid (InR r) := hr
  have HP : Hid (InR p) := hp
  have EQ : Hid (a.tdiv b = q) := eq
  have ER : Hid (a.tmod b = r) := er
  have EP : Hid (q * b = p) := ep
  have EA : Hid (p + r = a) := ea
  have t0 : (b == 0) = false := by simpa using h0
  clear ha hb hq hr hp eq er ep ea
  have HC : Hid (¬ InR (a + b)) := hc
  clear hc
  obtain ⟨k, hk⟩ : ∃ k, kOf (a * b) = k := ⟨_, rfl⟩
  obtain ⟨v, hv⟩ : ∃ v, vOf (a * b) = v := ⟨_, rfl⟩
  obtain ⟨m, hm⟩ : ∃ m, eOf (a * b) = m := ⟨_, rfl⟩
  have M1 : Hid (kOf (a * b) = k ∧ vOf (a * b) = v ∧ eOf (a * b) = m) := ⟨hk, hv, hm⟩
  have M2 : Hid (kOf (b * a) = k ∧ vOf (b * a) = v ∧ eOf (b * a) = m) := by rw [Int.mul_comm]; exact M1
  clear hk hv hm
  go_enter Try.func3, Try.ntmps3
  go_wp2_with fail
  refine (alive_any _).mono ?_
  rintro e w1 ⟨rfl, hk1⟩
  go_wp2_with fail
  refine (int_yes _ _ HA.out.1 HA.out.2).mono ?_
  rintro e w2 ⟨rfl, hk2⟩
  have HK : Hid (Kp w w2) := hk1.trans hk2
  clear hk1 hk2
  go_wp2_with fail
  refine (int_yes _ _ HB.out.1 HB.out.2).mono ?_
  rintro e w3 ⟨rfl, hk3⟩
  have LX : w.heap.size ≤ w2.heap.size := HK.out.size
  replace HK : Hid (Kp w w3) := (HK.out.alloc _ _).trans hk3
  have hX := hk3.newA
  have sX := hk3.ltN
  clear hk3
  generalize w2.heap.size = X at LX hX sX ⊢
  go_wp2_with fail
  refine (do_add_n _ HA.out HB.out HC.out).mono ?_
  rintro e w4 ⟨rfl, hk4⟩
  have LY : w.heap.size ≤ w3.heap.size := HK.out.size
  replace HK : Hid (Kp w w4) := (HK.out.alloc _ _).trans hk4
  have hY := hk4.newA
  have sY := hk4.ltN
  have nXY : ¬ X = w3.heap.size := by omega
  replace hX := hk4.carryA sX hX
  replace sX := Nat.lt_trans sX sY
  clear hk4
  generalize w3.heap.size = Y at LY hY sY nXY ⊢
  go_wp2_with fail
  refine (do_mul_v _ HA.out HB.out M1.out.1 M1.out.2.1 M1.out.2.2).mono ?_
  rintro e w6 ⟨rfl, hk6⟩
  have LS : w.heap.size ≤ w4.heap.size := HK.out.size
  replace HK : Hid (Kp w w6) := (HK.out.alloc _ _).trans hk6
  have hS := hk6.newA
  have sS := hk6.ltN
  have nXS : ¬ X = w4.heap.size := by omega
  replace hX := hk6.carryA sX hX
  replace sX := Nat.lt_trans sX sS
  have nYS : ¬ Y = w4.heap.size := by omega
  replace hY := hk6.carryA sY hY
  replace sY := Nat.lt_trans sY sS
  clear hk6
  generalize w4.heap.size = S at LS hS sS nXS nYS ⊢
  go_wp2_with fail
  refine (do_mul_v _ HB.out HA.out M2.out.1 M2.out.2.1 M2.out.2.2).mono ?_
  rintro e w7 ⟨rfl, hk7⟩
  have LP : w.heap.size ≤ w6.heap.size := HK.out.size
  replace HK : Hid (Kp w w7) := (HK.out.alloc _ _).trans hk7
  have hP := hk7.newA
  have sP := hk7.ltN
  have nXP : ¬ X = w6.heap.size := by omega
  replace hX := hk7.carryA sX hX
  replace sX := Nat.lt_trans sX sP
  have nYP : ¬ Y = w6.heap.size := by omega
  replace hY := hk7.carryA sY hY
  replace sY := Nat.lt_trans sY sP
  have nSP : ¬ S = w6.heap.size := by omega
  replace hS := hk7.carryA sS hS
  replace sS := Nat.lt_trans sS sP
  clear hk7
  generalize w6.heap.size = P at LP hP sP nXP nYP nSP ⊢
  go_wp2_with fail
  refine (do_div_y _ HA.out HB.out H0.out HQ.out EQ.out).mono ?_
  rintro e w8 ⟨rfl, hk8⟩
  have LQ : w.heap.size ≤ w7.heap.size := HK.out.size
  replace HK : Hid (Kp w w8) := (HK.out.alloc _ _).trans hk8
  have hQ := hk8.newA
  have sQ := hk8.ltN
  have nXQ : ¬ X = w7.heap.size := by omega
  replace hX := hk8.carryA sX hX
  replace sX := Nat.lt_trans sX sQ
  have nYQ : ¬ Y = w7.heap.size := by omega
  replace hY := hk8.carryA sY hY
  replace sY := Nat.lt_trans sY sQ
  have nSQ : ¬ S = w7.heap.size := by omega
  replace hS := hk8.carryA sS hS
  replace sS := Nat.lt_trans sS sQ
  have nPQ : ¬ P = w7.heap.size := by omega
  replace hP := hk8.carryA sP hP
  replace sP := Nat.lt_trans sP sQ
  clear hk8
  generalize w7.heap.size = Q at LQ hQ sQ nXQ nYQ nSQ nPQ ⊢
  have fQ := HK.out.freshZ LQ
  go_wp2_with fail
  refine (do_rem_y _ HA.out HB.out H0.out HR.out ER.out).mono ?_
  rintro e w9 ⟨rfl, hk9⟩
  have hk9' : Kp (st9 w8 Q (.int .i64 1) (.int .i64 q) (.complex .f64 0 0) (.string { data := #[] }) (.int .i64 0) (.int .u32 0) (.int .u64 0) (.slice none 0 0) (.slice none 0 0)) w9 := hk9
  clear hk9
  have zz := hk9'.sizeS
  replace HK : Hid (Kp w w9) := (Kp.set9 HK.out _ LQ _ _ _ _ _ _ _ _ _).trans hk9'
  replace hX := hk9'.carryS sX nXQ hX
  replace hY := hk9'.carryS sY nYQ hY
  replace hS := hk9'.carryS sS nSQ hS
  replace hP := hk9'.carryS sP nPQ hP
  replace hQ := hk9'.newS sQ hQ
  replace sX := Nat.lt_of_lt_of_le sX zz
  replace sY := Nat.lt_of_lt_of_le sY zz
  replace sS := Nat.lt_of_lt_of_le sS zz
  replace sP := Nat.lt_of_lt_of_le sP zz
  replace sQ := Nat.lt_of_lt_of_le sQ zz
  clear zz hk9' fQ
  go_wp2_with fail
  refine (do_mul_y _ HQ.out HB.out HP.out EP.out).mono ?_
  rintro e w10 ⟨rfl, hk10⟩
  have LR : w.heap.size ≤ w9.heap.size := HK.out.size
  replace HK : Hid (Kp w w10) := (HK.out.alloc _ _).trans hk10
  have hR := hk10.newA
  have sR := hk10.ltN
  have nXR : ¬ X = w9.heap.size := by omega
  replace hX := hk10.carryA sX hX
  replace sX := Nat.lt_trans sX sR
  have nYR : ¬ Y = w9.heap.size := by omega
  replace hY := hk10.carryA sY hY
  replace sY := Nat.lt_trans sY sR
  have nSR : ¬ S = w9.heap.size := by omega
  replace hS := hk10.carryA sS hS
  replace sS := Nat.lt_trans sS sR
  have nPR : ¬ P = w9.heap.size := by omega
  replace hP := hk10.carryA sP hP
  replace sP := Nat.lt_trans sP sR
  have nQR : ¬ Q = w9.heap.size := by omega
  replace hQ := hk10.carryA sQ hQ
  replace sQ := Nat.lt_trans sQ sR
  clear hk10
  generalize w9.heap.size = R at LR hR sR nXR nYR nSR nPR nQR ⊢
  have fP := HK.out.freshZ LP
  go_wp2_with fail
  refine (do_add_y _ HP.out HR.out HA.out EA.out).mono ?_
  rintro e w11 ⟨rfl, hk11⟩
  have hk11' : Kp (st9 w10 P (.int .i64 1) (.int .i64 p) (.complex .f64 0 0) (.string { data := #[] }) (.int .i64 0) (.int .u32 0) (.int .u64 0) (.slice none 0 0) (.slice none 0 0)) w11 := hk11
  clear hk11
  have zz := hk11'.sizeS
  replace HK : Hid (Kp w w11) := (Kp.set9 HK.out _ LP _ _ _ _ _ _ _ _ _).trans hk11'
  replace hX := hk11'.carryS sX nXP hX
  replace hY := hk11'.carryS sY nYP hY
  replace hS := hk11'.carryS sS nSP hS
  replace hP := hk11'.newS sP hP
  replace hQ := hk11'.carryS sQ (fun e => nPQ e.symm) hQ
  replace hR := hk11'.carryS sR (fun e => nPR e.symm) hR
  replace sX := Nat.lt_of_lt_of_le sX zz
  replace sY := Nat.lt_of_lt_of_le sY zz
  replace sS := Nat.lt_of_lt_of_le sS zz
  replace sP := Nat.lt_of_lt_of_le sP zz
  replace sQ := Nat.lt_of_lt_of_le sQ zz
  replace sR := Nat.lt_of_lt_of_le sR zz
  clear zz hk11' fP
  have fS := HK.out.freshZ LS
  go_wp2
  go_ret
  exact ⟨rfl, Kp.set9 HK.out _ LS _ _ _ _ _ _ _ _ _⟩
end Go.Proofs.Ytancbidpmbjmnaa
