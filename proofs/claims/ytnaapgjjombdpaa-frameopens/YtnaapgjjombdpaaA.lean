/-
  What a call leaves as it was; bytes in memory; the sum of some bytes, the program's and the reference's.
-/
import Derived.Test.YtnaapgjjombdpaaM
import Derived.WalkKit
import Derived.WalkLawsBesides
import Derived.ProofKit
import Derived.Deep.Light
import Derived.WalkSpells
import Derived.Lib.Hide
import Derived.Deep.QuietTactic
import Derived.BigQuiet
import Derived.Laws.BitsAllLaws
namespace Go.Proofs.Ytnaapgjjombdpaa
open Go.RowKit

theorem shifted_c (c : Nat) (hc : c < 4294967296) (w : World) : Calls Try.prog 19 #[.int .u32 (c : Int)] w fun e w' => e = .returned (.int .u32 ((sh c : Nat) : Int)) ∧ w = w' := by
  have ha : bits .and .u32 (c : Int) 1 = ((c % 2 : Nat) : Int) := by rw [← nat_mask1]; exact u32_and_nat c 1 hc (by omega)
  have hx : bits .xor .u32 ((c : Int) / 2) 3988292384 = ((c / 2 ^^^ 3988292384 : Nat) : Int) := u32_xor_nat (c / 2) 3988292384 (by omega) (by omega)
  rcases Nat.mod_two_eq_zero_or_one c with h | h
  · rw [h] at ha
    rw [show sh c = c / 2 by simp [sh, h]]
    go_enter Try.func19, Try.ntmps19
    go_wp2
    go_ret
    exact ⟨rfl, rfl⟩
  · rw [h] at ha
    rw [show sh c = c / 2 ^^^ 3988292384 by simp [sh, h]]
    go_enter Try.func19, Try.ntmps19
    go_wp2
    go_ret
    exact ⟨by rw [← hx]; rfl, rfl⟩

/-- Bytes in memory. -/
structure Sl (W : World) (v : Value) (l : List Nat) : Prop where
  byte : ∀ x ∈ l, x < 256
  len : l.length ≤ 140737488355328
  at' : (v = .slice none 0 0 ∧ l = []) ∨ ∃ a cap, v = .slice (some a) l.length cap ∧ l.length ≤ cap ∧ cap ≤ 9223372036854775807 ∧ ∀ i, i < l.length → W.cell? (a.add i) = some (.int .u8 ((l.getD i 0 : Nat) : Int))
theorem Sl.sv {W : World} {v : Value} {l : List Nat} (h : Sl W v l) : ∃ a cap, v = .slice a l.length cap ∧ l.length ≤ cap ∧ cap ≤ 9223372036854775807 ∧ (l ≠ [] → ∃ b off, a = some ⟨b, off, none⟩ ∧ ∀ i, i < l.length → W.cell? ⟨b, off + i, none⟩ = some (.int .u8 ((l.getD i 0 : Nat) : Int))) := by
  rcases h.at' with ⟨rfl, rfl⟩ | ⟨a, cap, rfl, h1, h2, h3⟩
  · exact ⟨none, 0, rfl, Nat.le_refl _, by omega, fun e => absurd rfl e⟩
  · refine ⟨some a, cap, rfl, h1, h2, fun hn => ?_⟩
    have hp : 0 < l.length := List.length_pos_iff.2 hn
    obtain ⟨b, off, spot⟩ := a
    have hs : spot = none := by simpa [Addr.add] using World.cell?_spot (h3 0 hp)
    subst hs
    exact ⟨b, off, rfl, fun i hi => by simpa [Addr.add_lit] using h3 i hi⟩
theorem getD_lt {l : List Nat} (h : ∀ x ∈ l, x < 256) (i : Nat) : l.getD i 0 < 256 := by
  rw [List.getD_eq_getElem?_getD]
  rcases Nat.lt_or_ge i l.length with hi | hi
  · rw [List.getElem?_eq_getElem hi]; exact h _ (List.getElem_mem hi)
  · rw [List.getElem?_eq_none hi]; decide
theorem take_succ {l : List Nat} {k : Nat} (h : k < l.length) : l.take (k + 1) = l.take k ++ [l.getD k 0] := by
  rw [List.take_add_one, List.getD_eq_getElem?_getD, List.getElem?_eq_getElem h]; rfl
theorem crc_take (l : List Nat) (k c : Nat) (h : k < l.length) : crc (l.take (k + 1)) c = ad (crc (l.take k) c) (l.getD k 0) := by
  rw [take_succ h, crc_append]; rfl

set_option maxHeartbeats 1600000 in
theorem sum_c (W : World) (v : Value) (l : List Nat) (h : Sl W v l) : Calls Try.prog 10 #[v] W fun e w' => e = .returned (.int .u32 ((sum l : Nat) : Int)) ∧ W = w' := by
  obtain ⟨a, cap, rfl, h1, h2, h3⟩ := h.sv
  have hl := h.len
  have hb := h.byte
  clear h
  go_enter Try.func10, Try.ntmps10
  go_wp2
  go_loop [3, 8] (fun c i => ∃ k : Nat, k ≤ l.length ∧ i = .int .i64 (k : Int) ∧ c = .int .u32 ((crc (l.take k) 4294967295 : Nat) : Int)) (fun _ i => l.length - (intOf i).toNat)
  case atStart => exact ⟨0, Nat.zero_le _, rfl, by simp [crc]⟩
  case round =>
    obtain ⟨k, hk, rfl, rfl⟩ := hrel
    by_cases hlt : k < l.length
    · obtain ⟨b, off, rfl, h4⟩ := h3 (List.ne_nil_of_length_pos (by omega))
      have hc := h4 k hlt
      have hx := getD_lt hb k
      have hcl := crc_lt (l.take k) 4294967295 (fun x hx => hb x (List.mem_of_mem_take hx)) (by omega)
      have hs := crc_take l k 4294967295 hlt
      clear h3 h4
      generalize crc (l.take k) 4294967295 = c at *
      generalize l.getD k 0 = x at *
      have hxx : bits .xor .u32 (c : Int) (x : Int) = ((c ^^^ x : Nat) : Int) := u32_xor_nat c x hcl (by omega)
      go_wp2
      go_loop [3, 16] (fun c' j => ∃ m : Nat, m ≤ 8 ∧ j = .int .i64 (m : Int) ∧ c' = .int .u32 ((shn m (c ^^^ x) : Nat) : Int)) (fun _ j => 8 - (intOf j).toNat)
      case atStart => exact ⟨0, by omega, rfl, by simp only [shn]⟩
      case round =>
        obtain ⟨m, hm, rfl, rfl⟩ := hrel
        have hm2 := shn_lt m (Nat.xor_lt_two_pow (n := 32) hcl (show x < 2 ^ 32 by omega))
        by_cases h8 : m < 8
        · have hsh := shifted_c _ hm2
          rw [show sh (shn m (c ^^^ x)) = shn (m + 1) (c ^^^ x) from rfl] at hsh
          generalize shn m (c ^^^ x) = y at *
          go_wp2_with (go_at_call 19; refine (hsh _).mono ?_; rintro e w' ⟨rfl, rfl⟩)
          go_round
          case rel => exact ⟨m + 1, by omega, by go_num, rfl⟩
          case measure => simp [intOf]; omega
        · obtain rfl : m = 8 := by omega
          have hs2 : crc (l.take (k + 1)) 4294967295 = shn 8 (c ^^^ x) := hs
          rw [← hs2]
          go_wp2
          go_round
          case rel => exact ⟨k + 1, by omega, by go_num, rfl⟩
          case measure => simp [intOf]; omega
    · obtain rfl : k = l.length := by omega
      rw [List.take_length]
      have hcl := crc_lt l 4294967295 hb (by omega)
      have hxx : bits .xor .u32 4294967295 ((crc l 4294967295 : Nat) : Int) = ((sum l : Nat) : Int) := by
        rw [sum, Nat.xor_comm]; exact u32_xor_nat 4294967295 _ (by omega) hcl
      generalize crc l 4294967295 = y at *
      go_wp2
      go_ret
      refine ⟨?_, rfl⟩
      rw [← hxx]; rfl

set_option maxHeartbeats 1600000 in
theorem sum_r (W : World) (v : Value) (l : List Nat) (h : Sl W v l) : Calls Try.prog 11 #[v] W fun e w' => e = .returned (.int .u32 ((sum l : Nat) : Int)) ∧ W = w' := by
  obtain ⟨a, cap, rfl, h1, h2, h3⟩ := h.sv
  have hl := h.len
  have hb := h.byte
  clear h
  go_enter Try.func11, Try.ntmps11
  go_wp2
  go_loop [3, 4] (fun c i => ∃ k : Nat, k ≤ l.length ∧ i = .int .i64 (k : Int) ∧ c = .int .u64 ((crc (l.take k) 4294967295 : Nat) : Int)) (fun _ i => l.length - (intOf i).toNat)
  case atStart => exact ⟨0, Nat.zero_le _, rfl, by simp [crc]⟩
  case round =>
    obtain ⟨k, hk, rfl, rfl⟩ := hrel
    by_cases hlt : k < l.length
    · obtain ⟨b, off, rfl, h4⟩ := h3 (List.ne_nil_of_length_pos (by omega))
      have hc := h4 k hlt
      have hx := getD_lt hb k
      have hcl := crc_lt (l.take k) 4294967295 (fun x hx => hb x (List.mem_of_mem_take hx)) (by omega)
      have hs := crc_take l k 4294967295 hlt
      clear h3 h4
      generalize crc (l.take k) 4294967295 = c at *
      generalize l.getD k 0 = x at *
      have hxx : bits .xor .u64 (c : Int) (x : Int) = ((c ^^^ x : Nat) : Int) := u64_xor_nat c x (by omega) (by omega)
      go_wp2
      go_loop [3, 5] (fun c' j => ∃ m : Nat, m ≤ 8 ∧ j = .int .i64 (m : Int) ∧ c' = .int .u64 ((shn m (c ^^^ x) : Nat) : Int)) (fun _ j => 8 - (intOf j).toNat)
      case atStart => exact ⟨0, by omega, rfl, by simp only [shn]⟩
      case round =>
        obtain ⟨m, hm, rfl, rfl⟩ := hrel
        have hm2 := shn_lt m (Nat.xor_lt_two_pow (n := 32) hcl (show x < 2 ^ 32 by omega))
        by_cases h8 : m < 8
        · have hsh : shn (m + 1) (c ^^^ x) = sh (shn m (c ^^^ x)) := rfl
          generalize shn m (c ^^^ x) = y at *
          have hyx : bits .xor .u64 ((y : Int) / 2) 3988292384 = ((y / 2 ^^^ 3988292384 : Nat) : Int) := u64_xor_nat (y / 2) 3988292384 (by omega) (by omega)
          have t2 : ((y : Int)).tmod 2 = ((y % 2 : Nat) : Int) := by rw [Int.tmod_eq_emod_of_nonneg (by omega)]; omega
          have d2 : ((y : Int)).tdiv 2 = (y : Int) / 2 := by rw [Int.tdiv_eq_ediv_of_nonneg (by omega)]
          rcases Nat.mod_two_eq_zero_or_one y with h | h
          · rw [h] at t2
            rw [show sh y = y / 2 by simp [sh, h]] at hsh
            go_wp2
            go_round
            case rel => exact ⟨m + 1, by omega, by go_num, by rw [hsh]; rfl⟩
            case measure => simp [intOf]; omega
          · rw [h] at t2
            rw [show sh y = y / 2 ^^^ 3988292384 by simp [sh, h]] at hsh
            go_wp2
            go_round
            case rel => exact ⟨m + 1, by omega, by go_num, by rw [hsh, ← hyx]⟩
            case measure => simp [intOf]; omega
        · obtain rfl : m = 8 := by omega
          have hs2 : crc (l.take (k + 1)) 4294967295 = shn 8 (c ^^^ x) := hs
          rw [← hs2]
          go_wp2
          go_round
          case rel => exact ⟨k + 1, by omega, by go_num, rfl⟩
          case measure => simp [intOf]; omega
    · obtain rfl : k = l.length := by omega
      rw [List.take_length]
      have hcl := crc_lt l 4294967295 hb (by omega)
      have hxx : bits .xor .u64 ((crc l 4294967295 : Nat) : Int) 4294967295 = ((sum l : Nat) : Int) := by
        rw [sum]; exact u64_xor_nat _ 4294967295 (by omega) (by omega)
      have hsl := sum_lt l hb
      generalize crc l 4294967295 = y at *
      obtain ⟨z, hz⟩ : ∃ z, z = sum l := ⟨_, rfl⟩
      rw [← hz] at hxx hsl
      have Hz := Lib.hid hz
      clear hz
      go_wp2
      go_ret
      refine ⟨?_, rfl⟩
      rw [← Hz.out]; rfl
end Go.Proofs.Ytnaapgjjombdpaa
