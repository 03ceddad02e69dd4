/-
  Carried over from another seat of ours (G).
-/
import Derived.Test.YtggkjkkbkpnkiaaGreatDoorD
import Derived.RegionTactic
import Derived.BigRegion
import Derived.Laws.Rows
set_option linter.unusedVariables false
set_option linter.unusedSimpArgs false
namespace Go.Proofs.YtggkjkkbkpnkiaaGreatDoor
open Go.RowKit

/-- The signs, the longest ones first. -/
def signs : List (List Int) := [[45, 62], [61, 61], [47, 61], [61, 60], [62, 61], [61], [60], [62], [43], [45], [42], [47], [33], [40], [41], [123], [125], [91], [93], [44], [59], [46]]
/-- Does the text have these bytes from i on? -/
def mts (s : ByteArray) (i : Nat) : List Int → Bool
  | [] => true
  | c :: g => (pk s i == c) && mts s (i + 1) g
/-- The first sign that the text has at i. -/
def sgn (s : ByteArray) (i : Nat) : Option (List Int) := signs.find? (mts s i)
/-- The sign at a place of the list. -/
def sgL (k : Nat) : List Int := signs.getD k []
def sgB (k : Nat) : ByteArray := ⟨((sgL k).map (fun c => UInt8.ofNat c.toNat)).toArray⟩
theorem signs_drop (k : Nat) (h : k < 22) : signs.drop k = sgL k :: signs.drop (k + 1) := by
  unfold sgL
  rw [List.drop_eq_getElem_cons (by exact h), List.getD_eq_getElem?_getD, List.getElem?_eq_getElem (by exact h)]
  rfl
theorem sg_all : ∀ k : Fin 22, (sgB k).size = (sgL k).length ∧ 1 ≤ (sgL k).length ∧ (sgL k).length ≤ 2 ∧ ∀ m : Fin 2, m.val < (sgL k).length → bt (sgB k) m = (sgL k).getD m 0 ∧ (sgL k).getD m 0 ≠ 0 := by decide +kernel

/-- The signs as the cells of the variable. -/
def sgC : Array Value := #[.string ⟨#[45, 62]⟩, .string ⟨#[61, 61]⟩, .string ⟨#[47, 61]⟩, .string ⟨#[61, 60]⟩, .string ⟨#[62, 61]⟩, .string ⟨#[61]⟩, .string ⟨#[60]⟩, .string ⟨#[62]⟩, .string ⟨#[43]⟩, .string ⟨#[45]⟩, .string ⟨#[42]⟩, .string ⟨#[47]⟩, .string ⟨#[33]⟩, .string ⟨#[40]⟩, .string ⟨#[41]⟩, .string ⟨#[123]⟩, .string ⟨#[125]⟩, .string ⟨#[91]⟩, .string ⟨#[93]⟩, .string ⟨#[44]⟩, .string ⟨#[59]⟩, .string ⟨#[46]⟩]
theorem ixS0 (w : World) : (Instr.index 80 (.agg sgC) (.int .i64 ((0 : Nat) : Int))).run Tryz.prog w = .ok (.string (sgB 0)) w := by kernel_rfl
theorem ixS1 (w : World) : (Instr.index 80 (.agg sgC) (.int .i64 ((1 : Nat) : Int))).run Tryz.prog w = .ok (.string (sgB 1)) w := by kernel_rfl
theorem ixS2 (w : World) : (Instr.index 80 (.agg sgC) (.int .i64 ((2 : Nat) : Int))).run Tryz.prog w = .ok (.string (sgB 2)) w := by kernel_rfl
theorem ixS3 (w : World) : (Instr.index 80 (.agg sgC) (.int .i64 ((3 : Nat) : Int))).run Tryz.prog w = .ok (.string (sgB 3)) w := by kernel_rfl
theorem ixS4 (w : World) : (Instr.index 80 (.agg sgC) (.int .i64 ((4 : Nat) : Int))).run Tryz.prog w = .ok (.string (sgB 4)) w := by kernel_rfl
theorem ixS5 (w : World) : (Instr.index 80 (.agg sgC) (.int .i64 ((5 : Nat) : Int))).run Tryz.prog w = .ok (.string (sgB 5)) w := by kernel_rfl
theorem ixS6 (w : World) : (Instr.index 80 (.agg sgC) (.int .i64 ((6 : Nat) : Int))).run Tryz.prog w = .ok (.string (sgB 6)) w := by kernel_rfl
theorem ixS7 (w : World) : (Instr.index 80 (.agg sgC) (.int .i64 ((7 : Nat) : Int))).run Tryz.prog w = .ok (.string (sgB 7)) w := by kernel_rfl
theorem ixS8 (w : World) : (Instr.index 80 (.agg sgC) (.int .i64 ((8 : Nat) : Int))).run Tryz.prog w = .ok (.string (sgB 8)) w := by kernel_rfl
theorem ixS9 (w : World) : (Instr.index 80 (.agg sgC) (.int .i64 ((9 : Nat) : Int))).run Tryz.prog w = .ok (.string (sgB 9)) w := by kernel_rfl
theorem ixS10 (w : World) : (Instr.index 80 (.agg sgC) (.int .i64 ((10 : Nat) : Int))).run Tryz.prog w = .ok (.string (sgB 10)) w := by kernel_rfl
theorem ixS11 (w : World) : (Instr.index 80 (.agg sgC) (.int .i64 ((11 : Nat) : Int))).run Tryz.prog w = .ok (.string (sgB 11)) w := by kernel_rfl
theorem ixS12 (w : World) : (Instr.index 80 (.agg sgC) (.int .i64 ((12 : Nat) : Int))).run Tryz.prog w = .ok (.string (sgB 12)) w := by kernel_rfl
theorem ixS13 (w : World) : (Instr.index 80 (.agg sgC) (.int .i64 ((13 : Nat) : Int))).run Tryz.prog w = .ok (.string (sgB 13)) w := by kernel_rfl
theorem ixS14 (w : World) : (Instr.index 80 (.agg sgC) (.int .i64 ((14 : Nat) : Int))).run Tryz.prog w = .ok (.string (sgB 14)) w := by kernel_rfl
theorem ixS15 (w : World) : (Instr.index 80 (.agg sgC) (.int .i64 ((15 : Nat) : Int))).run Tryz.prog w = .ok (.string (sgB 15)) w := by kernel_rfl
theorem ixS16 (w : World) : (Instr.index 80 (.agg sgC) (.int .i64 ((16 : Nat) : Int))).run Tryz.prog w = .ok (.string (sgB 16)) w := by kernel_rfl
theorem ixS17 (w : World) : (Instr.index 80 (.agg sgC) (.int .i64 ((17 : Nat) : Int))).run Tryz.prog w = .ok (.string (sgB 17)) w := by kernel_rfl
theorem ixS18 (w : World) : (Instr.index 80 (.agg sgC) (.int .i64 ((18 : Nat) : Int))).run Tryz.prog w = .ok (.string (sgB 18)) w := by kernel_rfl
theorem ixS19 (w : World) : (Instr.index 80 (.agg sgC) (.int .i64 ((19 : Nat) : Int))).run Tryz.prog w = .ok (.string (sgB 19)) w := by kernel_rfl
theorem ixS20 (w : World) : (Instr.index 80 (.agg sgC) (.int .i64 ((20 : Nat) : Int))).run Tryz.prog w = .ok (.string (sgB 20)) w := by kernel_rfl
theorem ixS21 (w : World) : (Instr.index 80 (.agg sgC) (.int .i64 ((21 : Nat) : Int))).run Tryz.prog w = .ok (.string (sgB 21)) w := by kernel_rfl
theorem ixS (k : Nat) (h : k < 22) (w : World) : (Instr.index 80 (.agg sgC) (.int .i64 (k : Int))).run Tryz.prog w = .ok (.string (sgB k)) w := by
  match k, h with
  | 0, _ => exact ixS0 w
  | 1, _ => exact ixS1 w
  | 2, _ => exact ixS2 w
  | 3, _ => exact ixS3 w
  | 4, _ => exact ixS4 w
  | 5, _ => exact ixS5 w
  | 6, _ => exact ixS6 w
  | 7, _ => exact ixS7 w
  | 8, _ => exact ixS8 w
  | 9, _ => exact ixS9 w
  | 10, _ => exact ixS10 w
  | 11, _ => exact ixS11 w
  | 12, _ => exact ixS12 w
  | 13, _ => exact ixS13 w
  | 14, _ => exact ixS14 w
  | 15, _ => exact ixS15 w
  | 16, _ => exact ixS16 w
  | 17, _ => exact ixS17 w
  | 18, _ => exact ixS18 w
  | 19, _ => exact ixS19 w
  | 20, _ => exact ixS20 w
  | 21, _ => exact ixS21 w
  | n + 22, h => exact absurd h (by omega)

/-- The list of signs in memory. -/
def Sg (W : World) : Prop := ∃ t f, W.heap[0]? = some (.cells sgC t f)
theorem Sg.lt {W : World} (h : Sg W) : 0 < W.heap.size := by obtain ⟨t, f, h⟩ := h; exact (Array.getElem?_eq_some_iff.1 h).1
theorem Sg.gr {S : Nat → Prop} {W W' : World} (h : Sg W) (g : Gr S W W') (hs : ¬ S 0) : Sg W' := by
  obtain ⟨t, f, h⟩ := h
  exact ⟨t, f, g.keep h hs⟩
theorem i68 : (Tryz.prog.info? 80).map (·.size) = some sgC.size := by kernel_rfl

/-- How a sign ends. -/
def EndG (W : World) (b : Nat) (s : ByteArray) (i : Nat) (e : Ending) (w' : World) : Option (List Int) → Prop
  | some l => ∃ k, k < 22 ∧ l = sgL k ∧ e = .returned (.tuple #[.string (sgB k), .int .i64 0]) ∧ St W b s w' (i + l.length)
  | none => e = .returned (.tuple #[.string ⟨#[]⟩, .int .i64 151]) ∧ Gr (fun k => k = b) W w'

theorem mts_step (s : ByteArray) (i m : Nat) (l : List Int) (hm : m < l.length) : mts s (i + m) (l.drop m) = ((pk s (i + m) == l.getD m 0) && mts s (i + (m + 1)) (l.drop (m + 1))) := by
  rw [List.drop_eq_getElem_cons hm, mts, List.getD_eq_getElem?_getD, List.getElem?_eq_getElem hm]
  rfl

set_option maxRecDepth 100000 in
set_option maxHeartbeats 4000000 in
theorem sign_c (W : World) (b : Nat) (s : ByteArray) (i : Nat) (h : Rd W b s i) (hs : s.size ≤ 65536) (hi : i ≤ s.size) (hS : Sg W) (hb : b ≠ 0) :
    Calls Tryz.prog 33 #[pt b] W fun e w' => EndG W b s i e w' (sgn s i) := by
  have hsI : (s.size : Int) ≤ 65536 := by omega
  have hiI : (i : Int) ≤ 65536 := by omega
  clear hs
  obtain ⟨r, hr⟩ : ∃ r, r = sgn s i := ⟨_, rfl⟩
  rw [← hr]
  have Hr := Lib.hid hr
  clear hr
  have hl0 := hS.lt
  obtain ⟨t0, f0, hg⟩ := hS
  have hi68 := i68
  have hxA := ixS
  generalize sgC = cs at hg hi68 hxA
  replace hg := Lib.hid hg
  replace hxA := Lib.hid hxA
  replace hi68 := Lib.hid hi68
  have hmm : Hid (∀ k, k < 22 → (sgB k).size = (sgL k).length ∧ 1 ≤ (sgL k).length ∧ (sgL k).length ≤ 2 ∧ ∀ m : Fin 2, m.val < (sgL k).length → bt (sgB k) m = (sgL k).getD m 0 ∧ (sgL k).getD m 0 ≠ 0) := fun k hk => sg_all ⟨k, hk⟩
  go_enter Tryz.func33, Tryz.ntmps33
  go_wp2_with fail
  refine wp_scope_straight ?_
  go_wp2_with fail
  refine wp_label ?_
  go_wp2_with (first | (refine wpList_load_row rfl 80 _ rfl 0 rfl t0 cs f0 _ hg.out Tryz.underlying80 rfl hi68.out ?_))
  go_loopw [8] (fun u wr => ∃ k : Nat, k ≤ 22 ∧ u = .int .i64 (k : Int) ∧ Hid (r = (signs.drop k).find? (mts s i)) ∧ St W b s wr i) (fun u _ => 22 - (intOf u).toNat)
  case atStart => exact ⟨0, by omega, rfl, Hr.out, h, Gr.refl _ _⟩
  case round =>
    obtain ⟨k, hk, rfl, Hk, hst⟩ := hrel
    by_cases hk2 : k = 22
    · subst hk2
      have e : r = none := by rw [Hk.out]; rfl
      subst e
      go_wp2_with fail
      rw [Exit.noGoto_ret]
      go_ret2
      exact ⟨rfl, hst.2⟩
    · have hk3 : k < 22 := by omega
      have hkI : (k : Int) < 22 := by omega
      have hx := hxA.out k hk3
      obtain ⟨z1, z2, z3, z4⟩ := hmm.out k hk3
      obtain ⟨n, hn⟩ : ∃ n, (sgL k).length = n := ⟨_, rfl⟩
      rw [hn] at z1 z2 z3 z4
      have Hn := Lib.hid hn
      replace z4 := Lib.hid z4
      clear hn
      have hnI : (n : Int) ≤ 2 := by omega
      have Hc : Hid (r = if mts s i (sgL k) = true then some (sgL k) else (signs.drop (k + 1)).find? (mts s i)) := by
        show r = _
        rw [Hk.out, signs_drop k hk3, List.find?_cons]
        cases mts s i (sgL k) <;> rfl
      obtain ⟨B, hB⟩ : ∃ B, sgB k = B := ⟨_, rfl⟩
      rw [hB] at hx z1 z4
      have HB := Lib.hid hB
      clear hB
      go_wp2_with fail
      go_loopw [13] (fun v wq => ∃ m : Nat, m ≤ n ∧ i + m ≤ s.size ∧ v = .int .i64 (m : Int) ∧ Hid (mts s i (sgL k) = mts s (i + m) ((sgL k).drop m)) ∧ St W b s wq i) (fun v _ => n - (intOf v).toNat)
      case atStart => exact ⟨0, by omega, by omega, rfl, rfl, hst⟩
      case round =>
        obtain ⟨m, hm, him, rfl, Hm, hsq⟩ := hrel
        obtain ⟨c0, c1, f0, f1⟩ := hsq.1.facts
        by_cases hm2 : m = n
        · subst hm2
          have e : r = some (sgL k) := by
            rw [Hc.out, if_pos]
            rw [Hm.out, List.drop_eq_nil_of_le (by rw [Hn.out]; exact Nat.le_refl _)]; rfl
          subst e
          have hr' := hsq.set (i + m)
          go_wp2_with fail
          rw [Exit.noGoto_ret]
          go_ret2
          exact ⟨k, hk3, rfl, by rw [HB.out]; rfl, by rw [Hn.out]; exact hr'⟩
        · have hm3 : m < n := by omega
          have hmI : (m : Int) < (n : Int) := by omega
          obtain ⟨y1, y2⟩ := z4.out ⟨m, by omega⟩ hm3
          have hy := ix B m (by omega)
          obtain ⟨c, hc⟩ : ∃ c, (sgL k).getD m 0 = c := ⟨_, rfl⟩
          have hstep := mts_step s i m (sgL k) (by rw [Hn.out]; exact hm3)
          change bt B m = (sgL k).getD m 0 at y1
          change (sgL k).getD m 0 ≠ 0 at y2
          rw [hc] at y1 y2 hstep
          rw [y1] at hy
          clear hc y1
          by_cases he : i + m = s.size
          · have hbad : Hid (r = (signs.drop (k + 1)).find? (mts s i)) := by
              show r = _
              rw [Hc.out, if_neg]
              rw [Hm.out, hstep, show pk s (i + m) = 0 by rw [pk, if_neg (by omega)]]
              have : ((0 : Int) == c) = false := by simpa using fun e => y2 e.symm
              rw [this]; simp
            have he1 : ((i : Int) + m == (s.size : Int)) = true := by simp; omega
            clear hstep
            go_wp2_with fail
            go_quiet (fail)
            go_wp2_with fail
            exact ⟨⟨k + 1, by omega, rfl, hbad, hsq.1.drewN _, hsq.2.trans (Gr.drewN _ _ _)⟩, by simp [intOf]; omega⟩
          · have he2 : i + m < s.size := by omega
            have he1 : ((i : Int) + m == (s.size : Int)) = false := by simp; omega
            have hz : ∀ w, (Instr.index 9 (.string s) (.int .i64 ((i : Int) + m))).run Tryz.prog w = .ok (.int .u8 (bt s (i + m))) w := fun w => by
              rw [show ((i : Int) + m) = ((i + m : Nat) : Int) by omega]; exact ix s (i + m) he2 w
            obtain ⟨x, hx2⟩ : ∃ x, bt s (i + m) = x := ⟨_, rfl⟩
            rw [show pk s (i + m) = bt s (i + m) by rw [pk, if_pos he2], hx2] at hstep
            rw [hx2] at hz
            clear hx2
            by_cases h4 : x = c
            · subst h4
              have hnx : Hid (mts s i (sgL k) = mts s (i + (m + 1)) ((sgL k).drop (m + 1))) := by
                show _ = _
                rw [Hm.out, hstep]; simp
              clear hstep
              go_wp2_with fail
              go_quiet (fail)
              go_wp2_with fail
              exact ⟨⟨m + 1, by omega, by omega, rfl, hnx, hsq.1.drewN _, hsq.2.trans (Gr.drewN _ _ _)⟩, by simp [intOf]; omega⟩
            · have hbad : Hid (r = (signs.drop (k + 1)).find? (mts s i)) := by
                show r = _
                rw [Hc.out, if_neg]
                rw [Hm.out, hstep]
                have : (x == c) = false := by simpa using h4
                rw [this]; simp
              have h4' : (x != c) = true := by rw [bne_iff_ne]; exact h4
              clear hstep h4
              go_wp2_with fail
              go_quiet (fail)
              go_wp2_with fail
              exact ⟨⟨k + 1, by omega, rfl, hbad, hsq.1.drewN _, hsq.2.trans (Gr.drewN _ _ _)⟩, by simp [intOf]; omega⟩
end Go.Proofs.YtggkjkkbkpnkiaaGreatDoor



