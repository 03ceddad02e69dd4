/-
  Ints and ids out of rows of digits.
-/
import Derived.Test.YtdmichjhmfinpaaGreatDoorF
set_option linter.unusedVariables false
set_option linter.unusedSimpArgs false
namespace Go.Proofs.YtdmichjhmfinpaaGreatDoor
open Go.RowKit

theorem size_ext (s : ByteArray) (i j : Nat) (h : j ≤ s.size) : (s.extract i j).size = j - i := by rw [ByteArray.size_extract]; omega
theorem bt_ext (s : ByteArray) (i j k : Nat) (h : j ≤ s.size) (hk : k < j - i) : bt (s.extract i j) k = bt s (i + k) := by
  have h1 : k < (s.extract i j).data.size := by rw [ByteArray.data_extract, Array.size_extract]; show k < min j s.size - i; omega
  have h2 : i + k < s.data.size := by show i + k < s.size; omega
  unfold bt
  rw [Array.getElem?_eq_getElem h1, Array.getElem?_eq_getElem h2]
  simp [ByteArray.data_extract]
theorem span_all {p : Int → Bool} {s : ByteArray} {i : Nat} : ∀ k, i ≤ k → k < span p s i → p (bt s k) = true := by
  fun_induction span p s i with
  | case1 i hlt hp ih =>
    intro k h1 h2
    by_cases e : k = i
    · subst e; exact hp
    · exact ih k (by omega) h2
  | case2 i hlt hp => intro k h1 h2; omega
  | case3 i hlt => intro k h1 h2; omega
theorem dgs_ok {s : ByteArray} {i j : Nat} (hi : i ≤ s.size) (h : dgs s i = .ok j) : i < j ∧ j ≤ i + 20 ∧ j ≤ s.size ∧ ∀ k, i ≤ k → k < j → dig (bt s k) = true := by
  unfold dgs at h
  by_cases h1 : dig (pk s i) = false
  · rw [if_pos h1] at h; cases h
  · rw [if_neg h1] at h
    have h1' : dig (pk s i) = true := by simpa using h1
    have hs := span_yes (p := dig) h1' rfl
    by_cases h2 : pk s i = 48
    · rw [if_pos h2] at h
      cases h
      refine ⟨by omega, by omega, by omega, fun k k1 k2 => ?_⟩
      have : k = i := by omega
      subst this
      rw [pk, if_pos hs.1] at h1'; exact h1'
    · rw [if_neg h2] at h
      by_cases h3 : i + 20 < span dig s i
      · rw [if_pos h3] at h; cases h
      · rw [if_neg h3] at h
        cases h
        refine ⟨?_, by omega, span_le hi, fun k k1 k2 => span_all k k1 k2⟩
        have := span_ge dig s (i + 1)
        rw [hs.2]; omega
/-- The digits that were read, as the library takes them. -/
theorem dgs_dig {s : ByteArray} {i j : Nat} (hi : i ≤ s.size) (h : dgs s i = .ok j) : 1 ≤ (s.extract i j).size ∧ (s.extract i j).size ≤ 20 ∧ ∀ k, k < (s.extract i j).size → dig (bt (s.extract i j) k) = true := by
  obtain ⟨h1, h2, h3, h4⟩ := dgs_ok hi h
  rw [size_ext s i j h3]
  refine ⟨by omega, by omega, fun k hk => ?_⟩
  rw [bt_ext s i j k h3 hk]
  exact h4 (i + k) (by omega) (by omega)

/-- What the library tells of an int's digits. -/
def posV (v : Int) : Int := if v < 9223372036854775808 then v else 9223372036854775807
def negV (v : Int) : Int := if v < 9223372036854775808 then -v else -9223372036854775808

abbrev tup (n : Int) (x : Value) : Value := .tuple #[.int .i64 n, x]


set_option maxRecDepth 20000 in
set_option maxHeartbeats 800000 in
theorem ip_a (W : World) (t : ByteArray) (h1 : 1 ≤ t.size) (v : Int) (c : Int) (hx : ∀ w, (Instr.index 9 (.string t) (.int .i64 0)).run Tryz.prog w = .ok (.int .u8 c) w) (h01 : (c == 43) = false) (h02 : (c == 45) = false)
    (hp : ∀ W, Calls Tryz.prog 143 #[.string t, .int .i64 10, .int .i64 64] W fun e w' => e = .returned (.tuple #[.int .u64 v, .nilIface]) ∧ Gr (fun _ => False) W w') (hv0 : 0 ≤ v) (h3 : v < 9223372036854775808) :
    Calls Tryz.prog 130 #[.string t, .int .i64 10, .int .i64 64] W fun e w' => e = .returned (tup (v) (.nilIface)) ∧ Gr (fun _ => False) W w' := by
  have k1 := n1n
  have k2 := nnn
  have k4 := n11
  have hz := ne_nil h1

  go_enter Tryz.func130, Tryz.ntmps130
  go_wp2_with fail
  refine (hp _).mono ?_
  rintro e w5 ⟨rfl, hg5⟩
  go_wp2_with fail
  go_ret2
  exact ⟨rfl, hg5⟩

set_option maxRecDepth 20000 in
set_option maxHeartbeats 800000 in
theorem ip_b (W : World) (t : ByteArray) (h1 : 1 ≤ t.size) (v : Int) (c : Int) (hx : ∀ w, (Instr.index 9 (.string t) (.int .i64 0)).run Tryz.prog w = .ok (.int .u8 c) w) (h01 : (c == 43) = false) (h02 : (c == 45) = false)
    (hp : ∀ W, Calls Tryz.prog 143 #[.string t, .int .i64 10, .int .i64 64] W fun e w' => e = .returned (.tuple #[.int .u64 v, .nilIface]) ∧ Gr (fun _ => False) W w') (hv0 : 9223372036854775808 ≤ v) (h3 : v ≤ 18446744073709551615) :
    Calls Tryz.prog 130 #[.string t, .int .i64 10, .int .i64 64] W fun e w' => e = .returned (tup (9223372036854775807) (.iface 151 (.int .i64 1))) ∧ Gr (fun _ => False) W w' := by
  have k1 := n1n
  have k2 := nnn
  have k4 := n11
  have hz := ne_nil h1

  go_enter Tryz.func130, Tryz.ntmps130
  go_wp2_with fail
  refine (hp _).mono ?_
  rintro e w5 ⟨rfl, hg5⟩
  go_wp2_with fail
  go_ret2
  exact ⟨rfl, hg5⟩

set_option maxRecDepth 20000 in
set_option maxHeartbeats 800000 in
theorem ip_c (W : World) (t : ByteArray) (h1 : 1 ≤ t.size) (v : Int) (c : Int) (hx : ∀ w, (Instr.index 9 (.string t) (.int .i64 0)).run Tryz.prog w = .ok (.int .u8 c) w) (h01 : (c == 43) = false) (h02 : (c == 45) = false)
    (hp : ∀ W, Calls Tryz.prog 143 #[.string t, .int .i64 10, .int .i64 64] W fun e w' => e = .returned (.tuple #[.int .u64 v, .iface 151 (.int .i64 1)]) ∧ Gr (fun _ => False) W w') (h3 : v = 18446744073709551615) :
    Calls Tryz.prog 130 #[.string t, .int .i64 10, .int .i64 64] W fun e w' => e = .returned (tup (9223372036854775807) (.iface 151 (.int .i64 1))) ∧ Gr (fun _ => False) W w' := by
  have k1 := n1n
  have k2 := nnn
  have k4 := n11
  have hz := ne_nil h1
  subst h3
  go_enter Tryz.func130, Tryz.ntmps130
  go_wp2_with fail
  refine (hp _).mono ?_
  rintro e w5 ⟨rfl, hg5⟩
  go_wp2_with fail
  go_ret2
  exact ⟨rfl, hg5⟩

set_option maxRecDepth 20000 in
set_option maxHeartbeats 800000 in
theorem in_a (W : World) (u t : ByteArray) (h1 : 1 ≤ u.size) (v : Int) (hx : ∀ w, (Instr.index 9 (.string u) (.int .i64 0)).run Tryz.prog w = .ok (.int .u8 45) w) (hsl : ∀ w, (Instr.slice 9 (.string u) (some (.int .i64 1)) none none).run Tryz.prog w = .ok (.string t) w)
    (hp : ∀ W, Calls Tryz.prog 143 #[.string t, .int .i64 10, .int .i64 64] W fun e w' => e = .returned (.tuple #[.int .u64 v, .nilIface]) ∧ Gr (fun _ => False) W w') (hv0 : 0 ≤ v) (h3 : v < 9223372036854775808) :
    Calls Tryz.prog 130 #[.string u, .int .i64 10, .int .i64 64] W fun e w' => e = .returned (tup (-v) (.nilIface)) ∧ Gr (fun _ => False) W w' := by
  have k1 := n1n
  have k2 := nnn
  have k4 := n11
  have hz := ne_nil h1

  go_enter Tryz.func130, Tryz.ntmps130
  go_wp2_with fail
  refine (hp _).mono ?_
  rintro e w5 ⟨rfl, hg5⟩
  go_wp2_with fail
  go_ret2
  exact ⟨rfl, hg5⟩

set_option maxRecDepth 20000 in
set_option maxHeartbeats 800000 in
theorem in_e (W : World) (u t : ByteArray) (h1 : 1 ≤ u.size) (v : Int) (hx : ∀ w, (Instr.index 9 (.string u) (.int .i64 0)).run Tryz.prog w = .ok (.int .u8 45) w) (hsl : ∀ w, (Instr.slice 9 (.string u) (some (.int .i64 1)) none none).run Tryz.prog w = .ok (.string t) w)
    (hp : ∀ W, Calls Tryz.prog 143 #[.string t, .int .i64 10, .int .i64 64] W fun e w' => e = .returned (.tuple #[.int .u64 v, .nilIface]) ∧ Gr (fun _ => False) W w') (h3 : v = 9223372036854775808) :
    Calls Tryz.prog 130 #[.string u, .int .i64 10, .int .i64 64] W fun e w' => e = .returned (tup (-9223372036854775808) (.nilIface)) ∧ Gr (fun _ => False) W w' := by
  have k1 := n1n
  have hwn : wrap64 (-wrap64 9223372036854775808) = -9223372036854775808 := by unfold wrap64; omega
  have k2 := nnn
  have k4 := n11
  have hz := ne_nil h1
  subst h3
  go_enter Tryz.func130, Tryz.ntmps130
  go_wp2_with fail
  refine (hp _).mono ?_
  rintro e w5 ⟨rfl, hg5⟩
  go_wp2_with fail
  go_ret2
  refine ⟨?_, hg5⟩
  show Ending.returned (.tuple #[.int .i64 (wrap64 (-wrap64 9223372036854775808)), .nilIface]) = _
  rw [hwn]

set_option maxRecDepth 20000 in
set_option maxHeartbeats 800000 in
theorem in_b (W : World) (u t : ByteArray) (h1 : 1 ≤ u.size) (v : Int) (hx : ∀ w, (Instr.index 9 (.string u) (.int .i64 0)).run Tryz.prog w = .ok (.int .u8 45) w) (hsl : ∀ w, (Instr.slice 9 (.string u) (some (.int .i64 1)) none none).run Tryz.prog w = .ok (.string t) w)
    (hp : ∀ W, Calls Tryz.prog 143 #[.string t, .int .i64 10, .int .i64 64] W fun e w' => e = .returned (.tuple #[.int .u64 v, .nilIface]) ∧ Gr (fun _ => False) W w') (hv0 : 9223372036854775808 < v) (h3 : v ≤ 18446744073709551615) :
    Calls Tryz.prog 130 #[.string u, .int .i64 10, .int .i64 64] W fun e w' => e = .returned (tup (-9223372036854775808) (.iface 151 (.int .i64 1))) ∧ Gr (fun _ => False) W w' := by
  have k1 := n1n
  have hwn : wrap64 (-wrap64 9223372036854775808) = -9223372036854775808 := by unfold wrap64; omega
  have k2 := nnn
  have k4 := n11
  have hz := ne_nil h1

  go_enter Tryz.func130, Tryz.ntmps130
  go_wp2_with fail
  refine (hp _).mono ?_
  rintro e w5 ⟨rfl, hg5⟩
  go_wp2_with fail
  go_ret2
  refine ⟨?_, hg5⟩
  show Ending.returned (.tuple #[.int .i64 (wrap64 (-wrap64 9223372036854775808)), .iface 151 (.int .i64 1)]) = _
  rw [hwn]

set_option maxRecDepth 20000 in
set_option maxHeartbeats 800000 in
theorem in_c (W : World) (u t : ByteArray) (h1 : 1 ≤ u.size) (v : Int) (hx : ∀ w, (Instr.index 9 (.string u) (.int .i64 0)).run Tryz.prog w = .ok (.int .u8 45) w) (hsl : ∀ w, (Instr.slice 9 (.string u) (some (.int .i64 1)) none none).run Tryz.prog w = .ok (.string t) w)
    (hp : ∀ W, Calls Tryz.prog 143 #[.string t, .int .i64 10, .int .i64 64] W fun e w' => e = .returned (.tuple #[.int .u64 v, .iface 151 (.int .i64 1)]) ∧ Gr (fun _ => False) W w') (h3 : v = 18446744073709551615) :
    Calls Tryz.prog 130 #[.string u, .int .i64 10, .int .i64 64] W fun e w' => e = .returned (tup (-9223372036854775808) (.iface 151 (.int .i64 1))) ∧ Gr (fun _ => False) W w' := by
  have k1 := n1n
  have hwn : wrap64 (-wrap64 9223372036854775808) = -9223372036854775808 := by unfold wrap64; omega
  have k2 := nnn
  have k4 := n11
  have hz := ne_nil h1
  subst h3
  go_enter Tryz.func130, Tryz.ntmps130
  go_wp2_with fail
  refine (hp _).mono ?_
  rintro e w5 ⟨rfl, hg5⟩
  go_wp2_with fail
  go_ret2
  refine ⟨?_, hg5⟩
  show Ending.returned (.tuple #[.int .i64 (wrap64 (-wrap64 9223372036854775808)), .iface 151 (.int .i64 1)]) = _
  rw [hwn]

set_option maxRecDepth 20000 in
set_option maxHeartbeats 400000 in
theorem pub_ok (W : World) (t : ByteArray) (n : Int) (hp : ∀ W, Calls Tryz.prog 130 #[.string t, .int .i64 10, .int .i64 64] W fun e w' => e = .returned (tup n .nilIface) ∧ Gr (fun _ => False) W w') :
    Calls Tryz.prog 113 #[.string t, .int .i64 10, .int .i64 64] W fun e w' => (∃ x, e = .returned (tup n x)) ∧ Gr (fun _ => False) W w' := by
  have k2 := nnn
  go_enter Tryz.func113, Tryz.ntmps113
  go_wp2_with fail
  refine (hp _).mono ?_
  rintro e w5 ⟨rfl, hg5⟩
  go_wp2_with fail
  go_ret2
  exact ⟨⟨_, rfl⟩, hg5⟩
set_option maxRecDepth 20000 in
set_option maxHeartbeats 400000 in
theorem pub_no (W : World) (t : ByteArray) (h1 : 1 ≤ t.size) (h2 : t.size ≤ 65536) (hE : Er W) (n : Int) (hp : ∀ W, Calls Tryz.prog 130 #[.string t, .int .i64 10, .int .i64 64] W fun e w' => e = .returned (tup n (.iface 151 (.int .i64 1))) ∧ Gr (fun _ => False) W w') :
    Calls Tryz.prog 113 #[.string t, .int .i64 10, .int .i64 64] W fun e w' => (∃ x, e = .returned (tup n x)) ∧ Gr (fun _ => False) W w' := by
  have k1 := n1n
  go_enter Tryz.func113, Tryz.ntmps113
  go_wp2_with fail
  refine (hp _).mono ?_
  rintro e w5 ⟨rfl, hg5⟩
  have hE5 := hE.gr hg5 (fun e => e)
  go_wp2_with fail
  refine (toError_c _ _ t _ h1 h2 hE5).mono ?_
  rintro e w6 ⟨⟨N, rfl⟩, hg6⟩
  go_wp2_with fail
  go_ret2
  exact ⟨⟨_, rfl⟩, hg5.trans hg6⟩

theorem pi_pos (W : World) (t : ByteArray) (h1 : 1 ≤ t.size) (h2 : t.size ≤ 20) (hD : ∀ k, k < t.size → dig (bt t k) = true) (hE : Er W) :
    Calls Tryz.prog 113 #[.string t, .int .i64 10, .int .i64 64] W fun e w' => (∃ x, e = .returned (tup (posV (dva t t.size)) x)) ∧ Gr (fun _ => False) W w' := by
  have hx := ix t 0 h1
  have h0 := hD 0 h1
  have hp := fun W => pu64 W t h1 h2 hD
  have hv0 := dva_nonneg hD t.size (Nat.le_refl _)
  generalize dva t t.size = v at hp hv0 ⊢
  have h01 : (bt t 0 == 43) = false := by simp [dig] at h0; simp; omega
  have h02 : (bt t 0 == 45) = false := by simp [dig] at h0; simp; omega
  by_cases h3 : v < 9223372036854775808
  · rw [show puV 18446744073709551615 v = .tuple #[.int .u64 v, .nilIface] by rw [puV, if_pos (by omega)]] at hp
    rw [show posV v = v by rw [posV, if_pos h3]]
    exact pub_ok W t v (fun W => ip_a W t h1 v _ hx h01 h02 hp hv0 h3)
  · rw [show posV v = 9223372036854775807 by rw [posV, if_neg h3]]
    by_cases h4 : v ≤ 18446744073709551615
    · rw [show puV 18446744073709551615 v = .tuple #[.int .u64 v, .nilIface] by rw [puV, if_pos h4]] at hp
      exact pub_no W t h1 (by omega) hE _ (fun W => ip_b W t h1 v _ hx h01 h02 hp (by omega) h4)
    · rw [show puV 18446744073709551615 v = .tuple #[.int .u64 18446744073709551615, .iface 151 (.int .i64 1)] by rw [puV, if_neg h4]] at hp
      exact pub_no W t h1 (by omega) hE _ (fun W => ip_c W t h1 _ _ hx h01 h02 hp rfl)

theorem pi_neg (W : World) (u t : ByteArray) (hu : 1 ≤ u.size) (hu2 : u.size ≤ 65536) (hu0 : bt u 0 = 45) (ht : u.extract 1 u.size = t) (h1 : 1 ≤ t.size) (h2 : t.size ≤ 20) (hD : ∀ k, k < t.size → dig (bt t k) = true) (hE : Er W) :
    Calls Tryz.prog 113 #[.string u, .int .i64 10, .int .i64 64] W fun e w' => (∃ x, e = .returned (tup (negV (dva t t.size)) x)) ∧ Gr (fun _ => False) W w' := by
  have hx := ix u 0 hu
  rw [hu0] at hx
  have hsl : ∀ w, (Instr.slice 9 (.string u) (some (.int .i64 1)) none none).run Tryz.prog w = .ok (.string t) w := fun w => by
    rw [run_slice_string_l w 9 u Tryz.underlying9 .i64 1 (by decide) (by omega)]
    rw [show (1 : Int).toNat = 1 from rfl, ht]
  have hp := fun W => pu64 W t h1 h2 hD
  have hv0 := dva_nonneg hD t.size (Nat.le_refl _)
  generalize dva t t.size = v at hp hv0 ⊢
  by_cases h3 : v < 9223372036854775808
  · rw [show puV 18446744073709551615 v = .tuple #[.int .u64 v, .nilIface] by rw [puV, if_pos (by omega)]] at hp
    rw [show negV v = -v by rw [negV, if_pos h3]]
    exact pub_ok W u _ (fun W => in_a W u t hu v hx hsl hp hv0 h3)
  rw [show negV v = -9223372036854775808 by rw [negV, if_neg h3]]
  by_cases h5 : v = 9223372036854775808
  · rw [show puV 18446744073709551615 v = .tuple #[.int .u64 v, .nilIface] by rw [puV, if_pos (by omega)]] at hp
    exact pub_ok W u _ (fun W => in_e W u t hu v hx hsl hp h5)
  by_cases h4 : v ≤ 18446744073709551615
  · rw [show puV 18446744073709551615 v = .tuple #[.int .u64 v, .nilIface] by rw [puV, if_pos h4]] at hp
    exact pub_no W u hu hu2 hE _ (fun W => in_b W u t hu v hx hsl hp (by omega) h4)
  · rw [show puV 18446744073709551615 v = .tuple #[.int .u64 18446744073709551615, .iface 151 (.int .i64 1)] by rw [puV, if_neg h4]] at hp
    exact pub_no W u hu hu2 hE _ (fun W => in_c W u t hu _ hx hsl hp rfl)
end Go.Proofs.YtdmichjhmfinpaaGreatDoor
