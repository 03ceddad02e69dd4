/-
  The library's reading of a row of decimal digits: internal/strconv.ParseUint at base 10 and 31, 32 or 64 bits.
-/
import Derived.Test.YtdmichjhmfinpaaGreatDoorC
import Derived.Lib.ConvBytes
set_option linter.unusedVariables false
set_option linter.unusedSimpArgs false
namespace Go.Proofs.YtdmichjhmfinpaaGreatDoor
open Go.RowKit

/-- The number that the first so many digits make. -/
def dva (t : ByteArray) : Nat → Int
  | 0 => 0
  | k + 1 => dva t k * 10 + (bt t k - 48)
theorem dva_mono {t : ByteArray} (hD : ∀ k, k < t.size → dig (bt t k) = true) : ∀ (d k : Nat), k + d ≤ t.size → 0 ≤ dva t k → dva t k ≤ dva t (k + d)
  | 0, k, _, _ => Int.le_refl _
  | d + 1, k, h, h0 => by
    have h1 := hD (k + d) (by omega)
    have h2 := dva_mono hD d k (by omega) h0
    simp [dig] at h1
    rw [show k + (d + 1) = (k + d) + 1 by omega, dva]
    omega
theorem dva_nonneg {t : ByteArray} (hD : ∀ k, k < t.size → dig (bt t k) = true) (k : Nat) (hk : k ≤ t.size) : 0 ≤ dva t k := by
  have := dva_mono hD k 0 (by omega) (by simp [dva])
  simpa [dva] using this

theorem conv_c (t : ByteArray) (W : World) : ∃ cap W1, (convert 9 28 (.string t)).run Tryz.prog W = .ok (.slice (some ⟨W.heap.size, 0, none⟩) t.size cap) W1 ∧ Gr (fun _ => False) W W1 ∧
    (∀ k, k < t.size → W1.cell? ⟨W.heap.size, k, none⟩ = some (.int .u8 (bt t k))) := by
  refine ⟨_, _, Lib.run_convert_string_bytes W 9 28 5 t Tryz.underlying9 Tryz.underlying28 Tryz.underlying5, ⟨rfl, rfl, rfl, ?_, fun k hk _ => Lib.bytesWorld_at_old W 5 t k hk⟩, fun k hk => ?_⟩
  · rw [Lib.bytesWorld_size]; omega
  · rw [Lib.bytesWorld_cell W 5 t k hk]
    simp [bt, List.getD]

theorem ne_nil {t : ByteArray} (h : 1 ≤ t.size) : t.toList.isEmpty = false := by
  have e : t.toList = t.data.toList := ByteArray.toList_eq t
  rw [e]
  have : t.data.toList.length = t.size := Array.length_toList
  cases hl : t.data.toList with
  | nil => rw [hl] at this; simp at this; omega
  | cons a l => rfl

/-- What the library tells of digits: the number, or the greatest and that it is out of range. -/
def puV (M v : Int) : Value := if v ≤ M then .tuple #[.int .u64 v, .nilIface] else .tuple #[.int .u64 M, .iface 151 (.int .i64 1)]
theorem puV_no {t : ByteArray} (hD : ∀ k, k < t.size → dig (bt t k) = true) (M : Int) (k : Nat) (hk : k ≤ t.size) (h : M < dva t k) : puV M (dva t t.size) = .tuple #[.int .u64 M, .iface 151 (.int .i64 1)] := by
  have h1 := dva_mono hD (t.size - k) k (by omega) (dva_nonneg hD k hk)
  rw [show k + (t.size - k) = t.size by omega] at h1
  rw [puV, if_neg (by omega)]

set_option maxRecDepth 20000 in
set_option maxHeartbeats 1600000 in
theorem pu31 (W : World) (t : ByteArray) (h1 : 1 ≤ t.size) (h2 : t.size ≤ 20) (hD : ∀ k, k < t.size → dig (bt t k) = true) :
    Calls Tryz.prog 143 #[.string t, .int .i64 10, .int .i64 31] W fun e w' => e = .returned (puV 2147483647 (dva t t.size)) ∧ Gr (fun _ => False) W w' := by
  have hz := ne_nil h1
  obtain ⟨cap, W1, hcv, hg1, hcell⟩ := conv_c t W
  have Hcell := Lib.hid hcell
  replace hD := Lib.hid hD
  obtain ⟨r, hr⟩ : ∃ r, r = puV 2147483647 (dva t t.size) := ⟨_, rfl⟩
  rw [← hr]
  have Hr := Lib.hid hr
  clear hr hcell
  go_enter Tryz.func143, Tryz.ntmps143
  go_wp2_with fail
  go_loopw [12, 13, 101] (fun q u v wr => ∃ (k : Nat) (a : Int), k ≤ t.size ∧ q = .bool false ∧ u = .int .u64 a ∧ v = .int .i64 (k : Int) ∧ 0 ≤ a ∧ a ≤ 2147483647 ∧ Hid (a = dva t k) ∧ wr = W1) (fun _ _ v _ => t.size - (intOf v).toNat)
  case atStart => exact ⟨0, 0, by omega, rfl, rfl, rfl, by decide, by decide, rfl, rfl⟩
  case round =>
    obtain ⟨k, a, hk, rfl, rfl, rfl, ha0, ha1, Ha, rfl⟩ := hrel
    by_cases h3 : k = t.size
    · subst h3
      have e : r = .tuple #[.int .u64 a, .nilIface] := by rw [Hr.out, ← Ha.out, puV, if_pos ha1]
      subst e
      go_wp2_with fail
      go_ret2
      exact ⟨rfl, hg1⟩
    · have hk2 : k < t.size := by omega
      have hk3 : (k : Int) < t.size := by omega
      have hc := Hcell.out k hk2
      have hd := hD.out k hk2
      obtain ⟨c, hcc⟩ : ∃ c, bt t k = c := ⟨_, rfl⟩
      rw [hcc] at hc hd
      have Hc := Lib.hid hcc
      clear hcc
      have hd1 : 48 ≤ c := by simp [dig] at hd; exact hd.1
      have hd2 : c ≤ 57 := by simp [dig] at hd; exact hd.2
      clear hd
      have hne : (c == 95) = false := by simp; omega
      by_cases h5 : 2147483647 < a * 10 + (c - 48)
      · have e : r = .tuple #[.int .u64 2147483647, .iface 151 (.int .i64 1)] := by
          rw [Hr.out]; refine puV_no hD.out _ (k + 1) (by omega) ?_
          show _ < dva t (k + 1)
          rw [dva, ← Ha.out, Hc.out]; omega
        subst e
        have h8 : decide (a * 10 + (c - 48) < a * 10) = false := by simp; omega
        have h9 : decide (2147483647 < a * 10 + (c - 48)) = true := by simp; omega
        go_wp2_with fail
        go_ret2
        exact ⟨rfl, hg1⟩
      · have h8 : decide (a * 10 + (c - 48) < a * 10) = false := by simp; omega
        have h9 : decide (2147483647 < a * 10 + (c - 48)) = false := by simp; omega
        go_wp2_with fail
        exact ⟨⟨k + 1, a * 10 + (c - 48), by omega, rfl, rfl, rfl, by omega, by omega, (by show _ = dva t (k + 1); rw [dva, ← Ha.out, Hc.out]), trivial⟩, by simp [intOf]; omega⟩

set_option maxRecDepth 20000 in
set_option maxHeartbeats 1600000 in
theorem pu32 (W : World) (t : ByteArray) (h1 : 1 ≤ t.size) (h2 : t.size ≤ 20) (hD : ∀ k, k < t.size → dig (bt t k) = true) :
    Calls Tryz.prog 143 #[.string t, .int .i64 10, .int .i64 32] W fun e w' => e = .returned (puV 4294967295 (dva t t.size)) ∧ Gr (fun _ => False) W w' := by
  have hz := ne_nil h1
  obtain ⟨cap, W1, hcv, hg1, hcell⟩ := conv_c t W
  have Hcell := Lib.hid hcell
  replace hD := Lib.hid hD
  obtain ⟨r, hr⟩ : ∃ r, r = puV 4294967295 (dva t t.size) := ⟨_, rfl⟩
  rw [← hr]
  have Hr := Lib.hid hr
  clear hr hcell
  go_enter Tryz.func143, Tryz.ntmps143
  go_wp2_with fail
  go_loopw [12, 13, 101] (fun q u v wr => ∃ (k : Nat) (a : Int), k ≤ t.size ∧ q = .bool false ∧ u = .int .u64 a ∧ v = .int .i64 (k : Int) ∧ 0 ≤ a ∧ a ≤ 4294967295 ∧ Hid (a = dva t k) ∧ wr = W1) (fun _ _ v _ => t.size - (intOf v).toNat)
  case atStart => exact ⟨0, 0, by omega, rfl, rfl, rfl, by decide, by decide, rfl, rfl⟩
  case round =>
    obtain ⟨k, a, hk, rfl, rfl, rfl, ha0, ha1, Ha, rfl⟩ := hrel
    by_cases h3 : k = t.size
    · subst h3
      have e : r = .tuple #[.int .u64 a, .nilIface] := by rw [Hr.out, ← Ha.out, puV, if_pos ha1]
      subst e
      go_wp2_with fail
      go_ret2
      exact ⟨rfl, hg1⟩
    · have hk2 : k < t.size := by omega
      have hk3 : (k : Int) < t.size := by omega
      have hc := Hcell.out k hk2
      have hd := hD.out k hk2
      obtain ⟨c, hcc⟩ : ∃ c, bt t k = c := ⟨_, rfl⟩
      rw [hcc] at hc hd
      have Hc := Lib.hid hcc
      clear hcc
      have hd1 : 48 ≤ c := by simp [dig] at hd; exact hd.1
      have hd2 : c ≤ 57 := by simp [dig] at hd; exact hd.2
      clear hd
      have hne : (c == 95) = false := by simp; omega
      by_cases h5 : 4294967295 < a * 10 + (c - 48)
      · have e : r = .tuple #[.int .u64 4294967295, .iface 151 (.int .i64 1)] := by
          rw [Hr.out]; refine puV_no hD.out _ (k + 1) (by omega) ?_
          show _ < dva t (k + 1)
          rw [dva, ← Ha.out, Hc.out]; omega
        subst e
        have h8 : decide (a * 10 + (c - 48) < a * 10) = false := by simp; omega
        have h9 : decide (4294967295 < a * 10 + (c - 48)) = true := by simp; omega
        go_wp2_with fail
        go_ret2
        exact ⟨rfl, hg1⟩
      · have h8 : decide (a * 10 + (c - 48) < a * 10) = false := by simp; omega
        have h9 : decide (4294967295 < a * 10 + (c - 48)) = false := by simp; omega
        go_wp2_with fail
        exact ⟨⟨k + 1, a * 10 + (c - 48), by omega, rfl, rfl, rfl, by omega, by omega, (by show _ = dva t (k + 1); rw [dva, ← Ha.out, Hc.out]), trivial⟩, by simp [intOf]; omega⟩
end Go.Proofs.YtdmichjhmfinpaaGreatDoor
/-
  The same at 64 bits.
-/
namespace Go.Proofs.YtdmichjhmfinpaaGreatDoor
open Go.RowKit

set_option maxRecDepth 20000 in
set_option maxHeartbeats 1600000 in
theorem pu64 (W : World) (t : ByteArray) (h1 : 1 ≤ t.size) (h2 : t.size ≤ 20) (hD : ∀ k, k < t.size → dig (bt t k) = true) :
    Calls Tryz.prog 143 #[.string t, .int .i64 10, .int .i64 64] W fun e w' => e = .returned (puV 18446744073709551615 (dva t t.size)) ∧ Gr (fun _ => False) W w' := by
  have hz := ne_nil h1
  obtain ⟨cap, W1, hcv, hg1, hcell⟩ := conv_c t W
  have Hcell := Lib.hid hcell
  replace hD := Lib.hid hD
  obtain ⟨r, hr⟩ : ∃ r, r = puV 18446744073709551615 (dva t t.size) := ⟨_, rfl⟩
  rw [← hr]
  have Hr := Lib.hid hr
  clear hr hcell
  have hm : IntKind.u64.wrap (IntKind.u64.wrap 18446744073709551616 - 1) = 18446744073709551615 := by decide
  go_enter Tryz.func143, Tryz.ntmps143
  go_wp2_with fail
  go_loopw [12, 13, 101] (fun q u v wr => ∃ (k : Nat) (a : Int), k ≤ t.size ∧ q = .bool false ∧ u = .int .u64 a ∧ v = .int .i64 (k : Int) ∧ 0 ≤ a ∧ a ≤ 18446744073709551615 ∧ Hid (a = dva t k) ∧ wr = W1) (fun _ _ v _ => t.size - (intOf v).toNat)
  case atStart => exact ⟨0, 0, by omega, rfl, rfl, rfl, by decide, by decide, rfl, rfl⟩
  case round =>
    obtain ⟨k, a, hk, rfl, rfl, rfl, ha0, ha1, Ha, rfl⟩ := hrel
    by_cases h3 : k = t.size
    · subst h3
      have e : r = .tuple #[.int .u64 a, .nilIface] := by rw [Hr.out, ← Ha.out, puV, if_pos ha1]
      subst e
      go_wp2_with fail
      go_ret2
      exact ⟨rfl, hg1⟩
    · have hk2 : k < t.size := by omega
      have hk3 : (k : Int) < t.size := by omega
      have hc := Hcell.out k hk2
      have hd := hD.out k hk2
      obtain ⟨c, hcc⟩ : ∃ c, bt t k = c := ⟨_, rfl⟩
      rw [hcc] at hc hd
      have Hc := Lib.hid hcc
      clear hcc
      have hd1 : 48 ≤ c := by simp [dig] at hd; exact hd.1
      have hd2 : c ≤ 57 := by simp [dig] at hd; exact hd.2
      clear hd
      have hne : (c == 95) = false := by simp; omega
      by_cases h5 : 1844674407370955162 ≤ a
      · have e : r = .tuple #[.int .u64 18446744073709551615, .iface 151 (.int .i64 1)] := by
          rw [Hr.out]; refine puV_no hD.out _ (k + 1) (by omega) ?_
          rw [dva, ← Ha.out, Hc.out]; omega
        subst e
        go_wp2_with fail
        go_ret2
        exact ⟨rfl, hg1⟩
      · have h5' : a < 1844674407370955162 := by omega
        by_cases h6 : 18446744073709551616 ≤ a * 10 + (c - 48)
        · have e : r = .tuple #[.int .u64 18446744073709551615, .iface 151 (.int .i64 1)] := by
            rw [Hr.out]; refine puV_no hD.out _ (k + 1) (by omega) ?_
            rw [dva, ← Ha.out, Hc.out]; omega
          subst e
          have h7 : IntKind.u64.wrap (a * 10 + (c - 48)) = a * 10 + (c - 48) - 18446744073709551616 := by rw [IntKind.wrap_u64]; omega
          have h8 : decide (a * 10 + (c - 48) - 18446744073709551616 < a * 10) = true := by simp; omega
          go_wp2_with fail
          go_ret2
          exact ⟨rfl, hg1⟩
        · have h7 : a * 10 + (c - 48) ≤ 18446744073709551615 := by omega
          have h8 : decide (a * 10 + (c - 48) < a * 10) = false := by simp; omega
          go_wp2_with fail
          exact ⟨⟨k + 1, a * 10 + (c - 48), by omega, rfl, rfl, rfl, by omega, by omega, (by show _ = dva t (k + 1); rw [dva, ← Ha.out, Hc.out]), trivial⟩, by simp [intOf]; omega⟩
end Go.Proofs.YtdmichjhmfinpaaGreatDoor
