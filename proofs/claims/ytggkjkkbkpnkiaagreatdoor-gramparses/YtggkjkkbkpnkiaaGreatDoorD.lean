/-
  Carried over from another seat of ours (D).
-/
import Derived.Test.YtggkjkkbkpnkiaaGreatDoorC
set_option linter.unusedVariables false
set_option linter.unusedSimpArgs false
namespace Go.Proofs.YtggkjkkbkpnkiaaGreatDoor
open Go.RowKit

/-- The place behind what stands between tokens, within a note or not. -/
def skp (s : ByteArray) (i : Nat) (note : Bool) : Nat :=
  if h : i < s.size then
    (if bt s i = 10 then skp s (i + 1) false else if bt s i = 37 then skp s (i + 1) true
     else if note = false ∧ blk (bt s i) = false then i else skp s (i + 1) note)
  else i
theorem skp_ge (s : ByteArray) (i : Nat) (n : Bool) : i ≤ skp s i n := by fun_induction skp s i n <;> omega
theorem skp_le {s : ByteArray} {i : Nat} (n : Bool) (hi : i ≤ s.size) : skp s i n ≤ s.size := by fun_induction skp s i n <;> omega

set_option maxRecDepth 20000 in
set_option maxHeartbeats 1600000 in
theorem skip_c (W : World) (b : Nat) (s : ByteArray) (i : Nat) (h : Rd W b s i) (hs : s.size ≤ 65536) (hi : i ≤ s.size) :
    Calls Tryz.prog 15 #[pt b] W fun e w' => e = .returned (.tuple #[]) ∧ St W b s w' (skp s i false) := by
  have hsI : (s.size : Int) ≤ 65536 := by omega
  clear hs
  obtain ⟨r, hr⟩ : ∃ r, skp s i false = r := ⟨_, rfl⟩
  rw [hr]
  have Hr := Lib.hid hr
  clear hr
  go_enter Tryz.func15, Tryz.ntmps15
  go_wp2_with fail
  go_loopw [2] (fun u wr => ∃ (j : Nat) (n : Bool), j ≤ s.size ∧ u = .bool n ∧ Hid (r = skp s j n) ∧ St W b s wr j) (fun _ wr => s.size - atOf wr b)
  case atStart => exact ⟨i, false, hi, rfl, Hr.out.symm, h, Gr.refl _ _⟩
  case round =>
    obtain ⟨j, n, hj, rfl, Hj, hst⟩ := hrel
    have Hat := Lib.hid hst.1.atOf
    obtain ⟨c0, c1, f0, f1⟩ := hst.1.facts
    by_cases hlt : j < s.size
    · have h1 : decide ((j : Int) < (s.size : Int)) = true := by simp; omega
      have hjI : (j : Int) < s.size := by omega
      have hx := ix s j hlt
      obtain ⟨c, hc⟩ : ∃ c, bt s j = c := ⟨_, rfl⟩
      rw [hc] at hx
      have Hc := Lib.hid hc
      clear hc
      have hR : ∀ m, Rd ((wr.drewN m).setCell ⟨b, 1, none⟩ (.int .i64 ((j : Int) + 1))) b s (j + 1) := fun m => (hst.1.drewN m).setAt (j + 1)
      have hG : ∀ m, Gr (fun k => k = b) W ((wr.drewN m).setCell ⟨b, 1, none⟩ (.int .i64 ((j : Int) + 1))) := fun m => (hst.2.trans (Gr.drewN _ m _)).trans (Gr.set _ _ _ rfl)
      replace hR := Lib.hid hR
      replace hG := Lib.hid hG
      by_cases h2 : c = 10
      · have hn : Hid (r = skp s (j + 1) false) := by
          show r = _
          rw [Hj.out, skp, dif_pos hlt, if_pos (by rw [Hc.out]; exact h2)]
        subst h2
        go_wp2_with fail
        go_quiet (fail)
        go_wp2_with fail
        go_quiet (fail)
        go_wp2_with fail
        exact ⟨⟨j + 1, false, by omega, rfl, hn, hR.out _, hG.out _⟩, by rw [(hR.out _).atOf, Hat.out]; omega⟩
      · have h2' : (c == 10) = false := by simpa using h2
        by_cases h3 : c = 37
        · have hn : Hid (r = skp s (j + 1) true) := by
            show r = _
            rw [Hj.out, skp, dif_pos hlt, if_neg (by rw [Hc.out]; exact h2), if_pos (by rw [Hc.out]; exact h3)]
          subst h3
          clear h2 h2'
          go_wp2_with fail
          go_quiet (fail)
          go_wp2_with fail
          go_quiet (fail)
          go_wp2_with fail
          exact ⟨⟨j + 1, true, by omega, rfl, hn, hR.out _, hG.out _⟩, by rw [(hR.out _).atOf, Hat.out]; omega⟩
        · have h3' : (c == 37) = false := by simpa using h3
          by_cases h4 : n = false ∧ blk c = false
          · have hn : r = j := by
              rw [Hj.out, skp, dif_pos hlt, if_neg (by rw [Hc.out]; exact h2), if_neg (by rw [Hc.out]; exact h3), if_pos (by rw [Hc.out]; exact h4)]
            obtain ⟨rfl, h4b⟩ := h4
            subst hn
            clear h2 h3
            go_wp2_with fail
            go_quiet (fail)
            go_wp2_with fail
            go_quiet (fail)
            go_wp2_with (first | (go_at_call 24; refine (blank_c _ _).mono ?_; rintro e w4 ⟨rfl, rfl⟩))
            refine bodyPost_ret (results_none rfl _ _ _) rfl ?_
            exact ⟨rfl, hst.1.drewN _, hst.2.trans (Gr.drewN _ _ _)⟩
          · have hn : Hid (r = skp s (j + 1) n) := by
              show r = _
              rw [Hj.out, skp, dif_pos hlt, if_neg (by rw [Hc.out]; exact h2), if_neg (by rw [Hc.out]; exact h3), if_neg (by rw [Hc.out]; exact h4)]
            clear h2 h3
            cases n
            · have h4b : blk c = true := by simpa using h4
              clear h4
              go_wp2_with fail
              go_quiet (fail)
              go_wp2_with fail
              go_quiet (fail)
              go_wp2_with (first | (go_at_call 24; refine (blank_c _ _).mono ?_; rintro e w4 ⟨rfl, rfl⟩))
              exact ⟨⟨j + 1, false, by omega, rfl, hn, hR.out _, hG.out _⟩, by rw [(hR.out _).atOf, Hat.out]; omega⟩
            · clear h4
              go_wp2_with fail
              go_quiet (fail)
              go_wp2_with fail
              go_quiet (fail)
              go_wp2_with fail
              exact ⟨⟨j + 1, true, by omega, rfl, hn, hR.out _, hG.out _⟩, by rw [(hR.out _).atOf, Hat.out]; omega⟩
    · have h1 : decide ((j : Int) < (s.size : Int)) = false := by simp; omega
      have hn : r = j := by rw [Hj.out, skp, dif_neg hlt]
      subst hn
      go_wp2_with fail
      go_quiet (fail)
      go_wp2_with fail
      go_end0
      exact ⟨rfl, hst.1.drewN _, hst.2.trans (Gr.drewN _ _ _)⟩

/-! ### Words -/
def wrd (s : ByteArray) : Bool := (s.toList == [99, 97, 115, 101]) || (s.toList == [111, 102]) || (s.toList == [101, 110, 100]) || (s.toList == [114, 101, 99, 101, 105, 118, 101]) || (s.toList == [97, 102, 116, 101, 114]) || (s.toList == [114, 101, 109])
theorem or6 (b1 b2 b3 b4 b5 b6 : Bool) : b1 = true ∨ (b1 = false ∧ (b2 = true ∨ (b2 = false ∧ (b3 = true ∨ (b3 = false ∧ (b4 = true ∨ (b4 = false ∧ (b5 = true ∨ (b5 = false ∧ (b6 = true ∨ b6 = false)))))))))) := by
  cases b1 <;> cases b2 <;> cases b3 <;> cases b4 <;> cases b5 <;> cases b6 <;> decide
set_option maxHeartbeats 800000 in
theorem word_c (s : ByteArray) (w : World) : Calls Tryz.prog 32 #[.string s] w fun e w' => e = .returned (.bool (wrd s)) ∧ w = w' := by
  unfold wrd
  rcases or6 (s.toList == [99, 97, 115, 101]) (s.toList == [111, 102]) (s.toList == [101, 110, 100]) (s.toList == [114, 101, 99, 101, 105, 118, 101]) (s.toList == [97, 102, 116, 101, 114]) (s.toList == [114, 101, 109]) with h1 | ⟨h1, h2 | ⟨h2, h3 | ⟨h3, h4 | ⟨h4, h5 | ⟨h5, h6 | h6⟩⟩⟩⟩⟩
  all_goals (simp only [*, Bool.or_true, Bool.or_false, Bool.false_or, Bool.true_or]; go_enter Tryz.func32, Tryz.ntmps32; go_wp2; go_ret; exact ⟨rfl, rfl⟩)
end Go.Proofs.YtggkjkkbkpnkiaaGreatDoor



