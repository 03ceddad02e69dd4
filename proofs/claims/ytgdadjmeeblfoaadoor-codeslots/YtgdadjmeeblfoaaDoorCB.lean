/-
  Slots, by the reference.
-/
import Derived.Test.YtgdadjmeeblfoaaDoorCA
set_option linter.unusedVariables false
set_option linter.unusedSimpArgs false
namespace Go.Proofs.YtgdadjmeeblfoaaDoor
open Go.RowKit Go.Maps
def slJ (s : ByteArray) (i : Nat) (n : Int) : Prop := (i = 1 ∧ n = 0) ∨ (i = 2 ∧ n = bt s 1 - 48 ∧ (48 ≤ bt s 1 ∧ bt s 1 ≤ 57)) ∨ (i = 3 ∧ n = 10 * (bt s 1 - 48) + (bt s 2 - 48) ∧ (48 ≤ bt s 1 ∧ bt s 1 ≤ 57) ∧ (48 ≤ bt s 2 ∧ bt s 2 ≤ 57))
theorem slJ_n {s : ByteArray} {i : Nat} {n : Int} (h : slJ s i n) : 0 ≤ n ∧ n ≤ 99 ∧ 1 ≤ i ∧ i ≤ 3 := by
  rcases h with ⟨h1, h2⟩ | ⟨h1, h2, h3⟩ | ⟨h1, h2, h3, h4⟩ <;> omega
set_option maxRecDepth 20000 in
set_option maxHeartbeats 1600000 in
theorem rslot_c (s : ByteArray) (W : World) (hs : s.size ≤ 9223372036854775807) : Calls Tryd.prog 6 #[.string s] W fun e w' => slE s e ∧ Gr (fun _ => False) W w' := by
  have hsI : (s.size : Int) ≤ 9223372036854775807 := by omega
  have hnot : Hid (¬ slOk s → slE s (.returned (.tuple #[.int .i64 0, .bool false, .bool false]))) := fun h => .inr ⟨h, rfl⟩
  by_cases h2 : 2 ≤ s.size
  case neg =>
    have hn := Lib.hid (hnot.out (fun h => h2 h.1.1))
    have hd : decide ((s.size : Int) < 2) = true := by simp; omega
    go_enter Tryd.func6, Tryd.ntmps6
    go_wp2_with fail
    exact bodyPost_ret (v := .tuple #[.int .i64 0, .bool false, .bool false]) (by simp [results, Tryd.results6, go_sem]) rfl ⟨hn.out, Gr.refl _ _⟩
  have hd : decide ((s.size : Int) < 2) = false := by simp; omega
  by_cases h3 : s.size ≤ 3
  case neg =>
    have hn := Lib.hid (hnot.out (fun h => h3 h.1.2))
    have hd2 : decide (3 < (s.size : Int)) = true := by simp; omega
    go_enter Tryd.func6, Tryd.ntmps6
    go_wp2_with fail
    exact bodyPost_ret (v := .tuple #[.int .i64 0, .bool false, .bool false]) (by simp [results, Tryd.results6, go_sem]) rfl ⟨hn.out, Gr.refl _ _⟩
  have hd2 : decide (3 < (s.size : Int)) = false := by simp; omega
  have i0 := ixa0 s (by omega)
  have i1 := ixa1 s (by omega)
  have c0 := bt_nonneg s 0
  have c0' := bt_lt s 0
  by_cases hv : bt s 0 = 86 ∨ bt s 0 = 66
  case neg =>
    have hn := Lib.hid (hnot.out (fun h => hv h.2.1))
    have q1 : (bt s 0 != 86) = true := by simp; omega
    have q2 : (bt s 0 != 66) = true := by simp; omega
    go_enter Tryd.func6, Tryd.ntmps6
    go_wp2_with fail
    exact bodyPost_ret (v := .tuple #[.int .i64 0, .bool false, .bool false]) (by simp [results, Tryd.results6, go_sem]) rfl ⟨hn.out, Gr.refl _ _⟩
  have hB : Hid (bt s 0 = 86 ∨ bt s 0 = 66) := hv
  have hv' : ((bt s 0 != 86) && (bt s 0 != 66)) = false := by
    rcases hv with h | h <;> simp [h]
  have hv2 : ((bt s 0 != 86) = true → (bt s 0 != 66) = false) := fun h => by rw [h] at hv'; simpa using hv'
  by_cases hz : bt s 1 = 48 ∧ 2 < s.size
  case pos =>
    have hn := Lib.hid (hnot.out (fun h => h.2.2.1 hz))
    have q1 : (bt s 1 == 48) = true := by simp; omega
    have q2 : decide (2 < (s.size : Int)) = true := by simp; omega
    clear hz
    cases q0 : (bt s 0 != 86)
    all_goals
      first | have q00 := hv2 q0 | skip
      go_enter Tryd.func6, Tryd.ntmps6
      go_wp2_with fail
      exact bodyPost_ret (v := .tuple #[.int .i64 0, .bool false, .bool false]) (by simp [results, Tryd.results6, go_sem]) rfl ⟨hn.out, Gr.refl _ _⟩
  have hzz : Hid (¬ (bt s 1 = 48 ∧ 2 < s.size)) := hz
  have q9 : ((bt s 1 == 48) && decide (2 < (s.size : Int))) = false := by
    cases h1 : (bt s 1 == 48)
    · rfl
    · have : bt s 1 = 48 := by simpa using h1
      simp only [Bool.true_and, decide_eq_false_iff_not]
      intro h2
      exact hz ⟨this, by omega⟩
  have hyes : Hid (∀ n, slJ s s.size n → n ≤ 71 → slE s (.returned (.tuple #[.int .i64 n, .bool (bt s 0 == 66), .bool true]))) := fun n h hn => by
    have hz := hzz.out
    rcases h with ⟨h1, h2⟩ | ⟨h1, h2, h3⟩ | ⟨h1, h2, h3, h4⟩
    · omega
    · have e : slN s = n := by unfold slN; rw [if_pos h1]; exact h2.symm
      exact .inl ⟨⟨⟨by omega, by omega⟩, hB.out, hz, h3, .inl (by omega), by omega⟩, by rw [e]⟩
    · have e : slN s = n := by unfold slN; rw [if_neg (by omega)]; exact h2.symm
      exact .inl ⟨⟨⟨by omega, by omega⟩, hB.out, hz, h3, .inr h4, by omega⟩, by rw [e]⟩
  have hbig : Hid (∀ n, slJ s s.size n → 71 < n → ¬ slOk s) := fun n h hn hok => by
    obtain ⟨⟨k1, k2⟩, k3, k4, k5, k6, k7⟩ := hok
    unfold slN at k7
    rcases h with ⟨h1, h2⟩ | ⟨h1, h2, h3⟩ | ⟨h1, h2, h3, h4⟩
    · omega
    · omega
    · rw [if_neg (by omega)] at k7; omega
  have hbad : Hid (∀ i n, i < s.size → slJ s i n → (bt s i < 48 ∨ 57 < bt s i) → ¬ slOk s) := fun i n hi h hb hok => by
    obtain ⟨⟨k1, k2⟩, k3, k4, k5, k6, k7⟩ := hok
    rcases h with ⟨rfl, h2⟩ | ⟨rfl, h2, h3⟩ | ⟨rfl, h2, h3, h4⟩ <;> omega
  have hnxt : Hid (∀ i n, i < s.size → slJ s i n → (48 ≤ bt s i ∧ bt s i ≤ 57) → slJ s (i + 1) (10 * n + (bt s i - 48))) := fun i n hi h hd => by
    rcases h with ⟨rfl, h2⟩ | ⟨rfl, h2, h3⟩ | ⟨rfl, h2, h3, h4⟩
    · exact .inr (.inl ⟨rfl, by omega, hd⟩)
    · exact .inr (.inr ⟨rfl, by omega, h3, hd⟩)
    · omega
  have hinit : slJ s 1 0 := .inl ⟨rfl, rfl⟩
  have hrd := Lib.hid (ixa s)
  have hs2 : Hid (2 ≤ s.size ∧ s.size ≤ 3) := ⟨h2, h3⟩
  clear hz hv h2 h3 hs
  have key : ∀ W, Calls Tryd.prog 6 #[.string s] W fun e w' => slE s e ∧ Gr (fun _ => False) W w' := fun W => by
    cases q0 : (bt s 0 != 86)
    all_goals
      first | have q00 := hv2 q0 | skip
      cases q1 : (bt s 1 == 48)
      all_goals
        first | (rw [q1, Bool.true_and] at q9) | (clear q9)
        go_enter Tryd.func6, Tryd.ntmps6
        go_wp2_with fail
        go_loopw [5, 6] (fun u v wr => ∃ (i : Nat) (n : Int), i ≤ s.size ∧ v = .int .i64 (i : Int) ∧ u = .int .i64 n ∧ Hid (slJ s i n) ∧ Gr (fun _ => False) W wr) (fun u v _ => s.size - (intOf v).toNat)
        case atStart => exact ⟨1, 0, by have := hs2.out; omega, rfl, rfl, hinit, Gr.refl _ _⟩
        case round =>
          obtain ⟨i, n, hi, rfl, rfl, hI, hG⟩ := hrel
          obtain ⟨n0, n9, i1', i3⟩ := slJ_n hI.out
          by_cases hlt : i < s.size
          · have hdd : decide ((i : Int) < (s.size : Int)) = true := by simp; omega
            have hix := hrd.out i hlt
            have b1 := bt_nonneg s i
            have b2 := bt_lt s i
            have hbad' := hbad.out i n hlt hI.out
            have hnxt' := hnxt.out i n hlt hI.out
            generalize bt s i = c at *
            replace hbad' := Lib.hid hbad'
            replace hnxt' := Lib.hid hnxt'
            have hii := Lib.hid hi
            by_cases d1 : c < 48
            · have e1 : decide (c < 48) = true := by simpa using d1
              go_wp2_with fail
              exact bodyPost_ret (v := .tuple #[.int .i64 0, .bool false, .bool false]) (by simp [results, Tryd.results6, go_sem]) rfl ⟨hnot.out (hbad'.out (.inl d1)), hG⟩
            · have e1 : decide (c < 48) = false := by simpa using d1
              by_cases d2 : 57 < c
              · have e2 : decide (57 < c) = true := by simpa using d2
                go_wp2_with fail
                exact bodyPost_ret (v := .tuple #[.int .i64 0, .bool false, .bool false]) (by simp [results, Tryd.results6, go_sem]) rfl ⟨hnot.out (hbad'.out (.inr d2)), hG⟩
              · have e2 : decide (57 < c) = false := by simpa using d2
                have w1 : IntKind.u8.wrap (c - 48) = c - 48 := wrap_u8 (by omega) (by omega)
                have w2 : IntKind.i64.wrap (10 * n) = 10 * n := wrap_i64 (by omega) (by omega)
                have w3 : IntKind.i64.wrap (c - 48) = c - 48 := wrap_i64 (by omega) (by omega)
                have w4 : IntKind.i64.wrap (10 * n + (c - 48)) = 10 * n + (c - 48) := wrap_i64 (by omega) (by omega)
                go_wp2_with fail
                exact ⟨⟨i + 1, _, hlt, by go_num, rfl, hnxt'.out ⟨by omega, by omega⟩, hG⟩, by simp [intOf]; omega⟩
          · have hdd : decide ((i : Int) < (s.size : Int)) = false := by simp; omega
            have hie : i = s.size := by omega
            have hI' : Hid (slJ s s.size n) := by rw [← hie]; exact hI
            by_cases d3 : 71 < n
            · have e3 : decide (71 < n) = true := by simpa using d3
              clear hie
              go_wp2_with fail
              exact bodyPost_ret (v := .tuple #[.int .i64 0, .bool false, .bool false]) (by simp [results, Tryd.results6, go_sem]) rfl ⟨hnot.out (hbig.out n hI'.out d3), hG⟩
            · have e3 : decide (71 < n) = false := by simpa using d3
              have hy := Lib.hid (hyes.out n hI'.out (by omega))
              clear hie
              go_wp2_with fail
              go_region
              all_goals
                go_wp2_with fail
                exact bodyPost_ret (v := .tuple #[.int .i64 n, .bool (bt s 0 == 66), .bool true]) (by simp [results, Tryd.results6, go_sem]) rfl ⟨hy.out, hG.trans (Gr.drew _ _)⟩
  exact key W
end Go.Proofs.YtgdadjmeeblfoaaDoor
