/-
  Names of atoms; slots, by the program and by the reference.
-/
import Derived.Test.YtgdadjmeeblfoaaDoorBC
set_option linter.unusedVariables false
set_option linter.unusedSimpArgs false
namespace Go.Proofs.YtgdadjmeeblfoaaDoor
open Go.RowKit Go.Maps
theorem bt_nonneg (s : ByteArray) (k : Nat) : 0 ≤ bt s k := Int.natCast_nonneg _
theorem bt_lt (s : ByteArray) (k : Nat) : bt s k < 256 := by
  have : (s.data[k]?.getD 0).toNat < 256 := UInt8.toNat_lt _
  unfold bt; omega
theorem ixa (s : ByteArray) (k : Nat) (h : k < s.size) (w : World) : (Instr.index 9 (.string s) (.int .i64 (k : Int))).run Tryd.prog w = .ok (.int .u8 (bt s k)) w := by
  rw [run_index_string w 9 s .i64 k (by kernel_rfl), dif_pos ⟨by omega, by omega⟩]
  have h2 : k < s.data.size := h
  simp only [bt, Int.toNat_natCast, Array.getElem?_eq_getElem h2, Option.getD_some]
  rfl
theorem ixa0 (s : ByteArray) (h : 0 < s.size) (w : World) : (Instr.index 9 (.string s) (.int .i64 0)).run Tryd.prog w = .ok (.int .u8 (bt s 0)) w := ixa s 0 h w
theorem ixa1 (s : ByteArray) (h : 1 < s.size) (w : World) : (Instr.index 9 (.string s) (.int .i64 1)).run Tryd.prog w = .ok (.int .u8 (bt s 1)) w := ixa s 1 h w
theorem bt_ext (s : ByteArray) (i j k : Nat) (h : j ≤ s.size) (hk : k < j - i) : bt (s.extract i j) k = bt s (i + k) := by
  have h1 : k < (s.extract i j).data.size := by rw [ByteArray.data_extract, Array.size_extract]; show k < min j s.size - i; omega
  unfold bt
  rw [Array.getElem?_eq_getElem h1]
  have h2 : i + k < s.data.size := by show i + k < s.size; omega
  rw [Array.getElem?_eq_getElem h2]
  simp [ByteArray.data_extract]
theorem sl1 (s : ByteArray) (h : 1 ≤ s.size) (w : World) : (Instr.slice 9 (.string s) (some (.int .i64 1)) none none).run Tryd.prog w = .ok (.string (s.extract 1 s.size)) w := by
  have k2 : (1 : Int) ≤ s.size := by omega
  simp [Instr.slice, run_underlying Tryd.underlying9, Instr.sliceBounds, run_sliceBound, k2, h]
theorem wrap_u8 {x : Int} (h1 : 0 ≤ x) (h2 : x ≤ 255) : IntKind.u8.wrap x = x := by
  simp [IntKind.wrap, IntKind.bits, IntKind.signed]; omega
theorem wrap_i64 {x : Int} (h1 : -9223372036854775808 ≤ x) (h2 : x ≤ 9223372036854775807) : IntKind.i64.wrap x = x := by
  simp [IntKind.wrap, IntKind.bits, IntKind.signed]; omega
def sdg (c : Int) : Bool := decide (48 ≤ c) && decide (c ≤ 57)
def slN (s : ByteArray) : Int := if s.size = 2 then bt s 1 - 48 else 10 * (bt s 1 - 48) + (bt s 2 - 48)
/-- Is it a slot's name? -/
def slOk (s : ByteArray) : Prop := (2 ≤ s.size ∧ s.size ≤ 3) ∧ (bt s 0 = 86 ∨ bt s 0 = 66) ∧ ¬ (bt s 1 = 48 ∧ 2 < s.size) ∧ (48 ≤ bt s 1 ∧ bt s 1 ≤ 57) ∧ (s.size = 2 ∨ (48 ≤ bt s 2 ∧ bt s 2 ≤ 57)) ∧ slN s ≤ 71
def slE (s : ByteArray) (e : Ending) : Prop := (slOk s ∧ e = .returned (.tuple #[.int .i64 (slN s), .bool (bt s 0 == 66), .bool true])) ∨ (¬ slOk s ∧ e = .returned (.tuple #[.int .i64 0, .bool false, .bool false]))
/-- What was read so far. -/
def slI (s : ByteArray) (i : Nat) (n : Int) : Prop := (i = 0 ∧ n = 0) ∨ (i = 1 ∧ n = bt s 1 - 48 ∧ (48 ≤ bt s 1 ∧ bt s 1 ≤ 57)) ∨ (i = 2 ∧ n = 10 * (bt s 1 - 48) + (bt s 2 - 48) ∧ (48 ≤ bt s 1 ∧ bt s 1 ≤ 57) ∧ (48 ≤ bt s 2 ∧ bt s 2 ≤ 57) ∧ n < 72)
theorem slI_n {s : ByteArray} {i : Nat} {n : Int} (h : slI s i n) : 0 ≤ n ∧ n ≤ 99 ∧ i ≤ 2 := by
  rcases h with ⟨h1, h2⟩ | ⟨h1, h2, h3⟩ | ⟨h1, h2, h3, h4, h5⟩ <;> omega
set_option maxRecDepth 20000 in
set_option maxHeartbeats 1600000 in
theorem slot_c (s : ByteArray) (W : World) (hs : s.size ≤ 9223372036854775807) : Calls Tryd.prog 5 #[.string s] W fun e w' => slE s e ∧ Gr (fun _ => False) W w' := by
  have hsI : (s.size : Int) ≤ 9223372036854775807 := by omega
  by_cases h2 : 2 ≤ s.size
  case neg =>
    have hn : Hid (slE s (.returned (.tuple #[.int .i64 0, .bool false, .bool false]))) := .inr ⟨fun h => h2 h.1.1, rfl⟩
    have hd : decide ((s.size : Int) < 2) = true := by simp; omega
    go_enter Tryd.func5, Tryd.ntmps5
    go_wp2_with fail
    exact bodyPost_ret (v := .tuple #[.int .i64 0, .bool false, .bool false]) (by simp [results, Tryd.results5, go_sem]) rfl ⟨hn.out, Gr.refl _ _⟩
  have hd : decide ((s.size : Int) < 2) = false := by simp; omega
  have i0 := ixa0 s (by omega)
  have c0 := bt_nonneg s 0
  have c0' := bt_lt s 0
  by_cases hv : bt s 0 = 86 ∨ bt s 0 = 66
  case neg =>
    have hn : Hid (slE s (.returned (.tuple #[.int .i64 0, .bool false, .bool false]))) := .inr ⟨fun h => hv h.2.1, rfl⟩
    have q1 : (bt s 0 != 86) = true := by simp; omega
    have q2 : (bt s 0 != 66) = true := by simp; omega
    go_enter Tryd.func5, Tryd.ntmps5
    go_wp2_with fail
    exact bodyPost_ret (v := .tuple #[.int .i64 0, .bool false, .bool false]) (by simp [results, Tryd.results5, go_sem]) rfl ⟨hn.out, Gr.refl _ _⟩
  have hes : (s.extract 1 s.size).size = s.size - 1 := by rw [ByteArray.size_extract]; omega
  have hsl := sl1 s (by omega)
  have hbt : Hid (∀ k, k < s.size - 1 → bt (s.extract 1 s.size) k = bt s (1 + k)) := fun k hk => bt_ext s 1 s.size k (Nat.le_refl _) hk
  have j0 := ixa0 (s.extract 1 s.size) (by omega)
  rw [hbt.out 0 (by omega)] at j0
  obtain ⟨m, hm⟩ : ∃ m, s.size = m + 1 := ⟨s.size - 1, by omega⟩
  have hrd : Hid (∀ k, k < m → ∀ w, (Instr.index 9 (.string (s.extract 1 s.size)) (.int .i64 (k : Int))).run Tryd.prog w = .ok (.int .u8 (bt s (1 + k))) w) := fun k hk w => by
    have := ixa (s.extract 1 s.size) k (by omega) w
    rw [hbt.out k (by omega)] at this
    exact this
  generalize s.extract 1 s.size = d at *
  have hdm : d.size = m := by omega
  have hdI : (d.size : Int) = (m : Int) := by omega
  clear hbt hes
  have c1 := bt_nonneg s 1
  have c1' := bt_lt s 1
  rw [show (1 : Nat) + 0 = 1 from rfl] at j0
  have hmI : (m : Int) ≤ 9223372036854775806 := by omega
  have hB : Hid (bt s 0 = 86 ∨ bt s 0 = 66) := hv
  have hv' : ((bt s 0 != 86) && (bt s 0 != 66)) = false := by
    rcases hv with h | h <;> simp [h]
  by_cases hz : bt s 1 = 48 ∧ 1 < m
  case pos =>
    have hn : Hid (slE s (.returned (.tuple #[.int .i64 0, .bool false, .bool false]))) := .inr ⟨fun h => h.2.2.1 ⟨hz.1, by omega⟩, rfl⟩
    have q1 : (bt s 1 == 48) = true := by simp; omega
    have q2 : decide (1 < (m : Int)) = true := by simp; omega
    clear hz hm hrd
    rcases hv with q | q
    all_goals
      go_enter Tryd.func5, Tryd.ntmps5
      go_wp2_with fail
      exact bodyPost_ret (v := .tuple #[.int .i64 0, .bool false, .bool false]) (by simp [results, Tryd.results5, go_sem]) rfl ⟨hn.out, Gr.refl _ _⟩
  have hzz : Hid (¬ (bt s 1 = 48 ∧ 1 < m)) := hz
  have hm1 : 1 ≤ m := by omega
  have q9 : ((bt s 1 == 48) && decide (1 < (m : Int))) = false := by
    cases h1 : (bt s 1 == 48)
    · rfl
    · have : bt s 1 = 48 := by simpa using h1
      simp only [Bool.true_and, decide_eq_false_iff_not]
      intro h2
      exact hz ⟨this, by omega⟩
  have hmz : Hid (s.size = m + 1) := hm
  have hnot : Hid (¬ slOk s → slE s (.returned (.tuple #[.int .i64 0, .bool false, .bool false]))) := fun h => .inr ⟨h, rfl⟩
  have hyes : Hid (∀ n, slI s m n → slE s (.returned (.tuple #[.int .i64 n, .bool (bt s 0 == 66), .bool true]))) := fun n h => by
    have hm := hmz.out
    have hz := hzz.out
    rcases h with ⟨h1, h2⟩ | ⟨h1, h2, h3⟩ | ⟨h1, h2, h3, h4, h5⟩
    · omega
    · have e : slN s = n := by unfold slN; rw [if_pos (by omega)]; exact h2.symm
      exact .inl ⟨⟨⟨by omega, by omega⟩, hB.out, fun h => by omega, h3, .inl (by omega), by omega⟩, by rw [e]⟩
    · have e : slN s = n := by unfold slN; rw [if_neg (by omega)]; exact h2.symm
      exact .inl ⟨⟨⟨by omega, by omega⟩, hB.out, fun h => hz ⟨h.1, by omega⟩, h3, .inr h4, by omega⟩, by rw [e]⟩
  have hbad : Hid (∀ i n, i < m → slI s i n → (bt s (1 + i) < 48 ∨ 57 < bt s (1 + i)) → ¬ slOk s) := fun i n hi h hb hok => by
    have hm := hmz.out
    obtain ⟨⟨k1, k2⟩, k3, k4, k5, k6, k7⟩ := hok
    rcases h with ⟨rfl, h2⟩ | ⟨rfl, h2, h3⟩ | ⟨rfl, h2, h3, h4, h5⟩
    · rw [show (1 : Nat) + 0 = 1 from rfl] at hb; omega
    · rw [show (1 : Nat) + 1 = 2 from rfl] at hb; omega
    · omega
  have hbig : Hid (∀ i n, i < m → slI s i n → (48 ≤ bt s (1 + i) ∧ bt s (1 + i) ≤ 57) → 72 ≤ 10 * n + (bt s (1 + i) - 48) → ¬ slOk s) := fun i n hi h hd hb hok => by
    have hm := hmz.out
    obtain ⟨⟨k1, k2⟩, k3, k4, k5, k6, k7⟩ := hok
    rcases h with ⟨rfl, h2⟩ | ⟨rfl, h2, h3⟩ | ⟨rfl, h2, h3, h4, h5⟩
    · rw [show (1 : Nat) + 0 = 1 from rfl] at hb hd; omega
    · rw [show (1 : Nat) + 1 = 2 from rfl] at hb hd
      unfold slN at k7
      rw [if_neg (by omega)] at k7
      omega
    · omega
  have hnxt : Hid (∀ i n, i < m → slI s i n → (48 ≤ bt s (1 + i) ∧ bt s (1 + i) ≤ 57) → 10 * n + (bt s (1 + i) - 48) < 72 → slI s (i + 1) (10 * n + (bt s (1 + i) - 48))) := fun i n hi h hd hb => by
    have hm := hmz.out
    have hz := hzz.out
    rcases h with ⟨rfl, h2⟩ | ⟨rfl, h2, h3⟩ | ⟨rfl, h2, h3, h4, h5⟩
    · rw [show (1 : Nat) + 0 = 1 from rfl] at hb hd ⊢
      exact .inr (.inl ⟨rfl, by omega, hd⟩)
    · rw [show (1 : Nat) + 1 = 2 from rfl] at hb hd ⊢
      exact .inr (.inr ⟨rfl, by omega, h3, hd, hb⟩)
    · have := fun e : bt s 1 = 48 => hz ⟨e, by omega⟩
      omega
  have hinit : slI s 0 0 := .inl ⟨rfl, rfl⟩
  have hv2 : ((bt s 0 != 86) = true → (bt s 0 != 66) = false) := fun h => by rw [h] at hv'; simpa using hv'
  clear hm hz hv c1 c1'
  have key : ∀ W, Calls Tryd.prog 5 #[.string s] W fun e w' => slE s e ∧ Gr (fun _ => False) W w' := fun W => by
    cases q0 : (bt s 0 != 86)
    all_goals
      first | have q00 := hv2 q0 | skip
      cases q1 : (bt s 1 == 48)
      all_goals
        first | (rw [q1, Bool.true_and] at q9) | (clear q9)
        go_enter Tryd.func5, Tryd.ntmps5
        go_wp2_with fail
        go_loopw [2, 32] (fun u v wr => ∃ (i : Nat) (n : Int), i ≤ m ∧ v = .int .i64 (i : Int) ∧ u = .int .i64 n ∧ Hid (slI s i n) ∧ Gr (fun _ => False) W wr) (fun u v _ => m - (intOf v).toNat)
        case atStart => exact ⟨0, 0, Nat.zero_le _, rfl, rfl, hinit, Gr.refl _ _⟩
        case round =>
          obtain ⟨i, n, hi, rfl, rfl, hI, hG⟩ := hrel
          obtain ⟨n0, n9, i2⟩ := slI_n hI.out
          by_cases hlt : i < m
          · have hdd : decide ((i : Int) < (m : Int)) = true := by simp; omega
            have hix := hrd.out i hlt
            have b1 := bt_nonneg s (1 + i)
            have b2 := bt_lt s (1 + i)
            have hbad' := hbad.out i n hlt hI.out
            have hbig' := hbig.out i n hlt hI.out
            have hnxt' := hnxt.out i n hlt hI.out
            generalize bt s (1 + i) = c at *
            replace hbad' := Lib.hid hbad'
            replace hbig' := Lib.hid hbig'
            replace hnxt' := Lib.hid hnxt'
            have hii := Lib.hid hi
            by_cases d1 : c < 48
            · have e1 : decide (c < 48) = true := by simpa using d1
              go_wp2_with fail
              exact bodyPost_ret (v := .tuple #[.int .i64 0, .bool false, .bool false]) (by simp [results, Tryd.results5, go_sem]) rfl ⟨hnot.out (hbad'.out (.inl d1)), hG⟩
            · have e1 : decide (c < 48) = false := by simpa using d1
              by_cases d2 : 57 < c
              · have e2 : decide (57 < c) = true := by simpa using d2
                go_wp2_with fail
                exact bodyPost_ret (v := .tuple #[.int .i64 0, .bool false, .bool false]) (by simp [results, Tryd.results5, go_sem]) rfl ⟨hnot.out (hbad'.out (.inr d2)), hG⟩
              · have e2 : decide (57 < c) = false := by simpa using d2
                have w1 : IntKind.u8.wrap (c - 48) = c - 48 := wrap_u8 (by omega) (by omega)
                have w2 : IntKind.i64.wrap (10 * n) = 10 * n := wrap_i64 (by omega) (by omega)
                have w3 : IntKind.i64.wrap (c - 48) = c - 48 := wrap_i64 (by omega) (by omega)
                have w4 : IntKind.i64.wrap (10 * n + (c - 48)) = 10 * n + (c - 48) := wrap_i64 (by omega) (by omega)
                by_cases d3 : 72 ≤ 10 * n + (c - 48)
                · have e3 : decide (72 ≤ 10 * n + (c - 48)) = true := by simpa using d3
                  go_wp2_with fail
                  exact bodyPost_ret (v := .tuple #[.int .i64 0, .bool false, .bool false]) (by simp [results, Tryd.results5, go_sem]) rfl ⟨hnot.out (hbig'.out ⟨by omega, by omega⟩ d3), hG⟩
                · have e3 : decide (72 ≤ 10 * n + (c - 48)) = false := by simpa using d3
                  go_wp2_with fail
                  exact ⟨⟨i + 1, _, hlt, by go_num, rfl, hnxt'.out ⟨by omega, by omega⟩ (by omega), hG⟩, by simp [intOf]; omega⟩
          · have hdd : decide ((i : Int) < (m : Int)) = false := by simp; omega
            obtain rfl : i = m := by omega
            have hy := Lib.hid (hyes.out n hI.out)
            go_wp2_with fail
            go_region
            all_goals
              go_wp2_with fail
              exact bodyPost_ret (v := .tuple #[.int .i64 n, .bool (bt s 0 == 66), .bool true]) (by simp [results, Tryd.results5, go_sem]) rfl ⟨hy.out, hG.trans (Gr.drew _ _)⟩
  exact key W
end Go.Proofs.YtgdadjmeeblfoaaDoor
