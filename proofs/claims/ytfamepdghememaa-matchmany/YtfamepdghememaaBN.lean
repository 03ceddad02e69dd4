/-
  Carried over from another seat of ours (BN).
-/
import Derived.Test.YtfamepdghememaaBH
import Derived.Test.YtfamepdghememaaBC
import Derived.Test.YtfamepdghememaaAS
import Derived.Test.YtfamepdghememaaBM
set_option linter.unusedVariables false
set_option linter.unusedSimpArgs false
namespace Go.Proofs.Ytfamepdghememaa
open Go.RowKit Go.Maps
variable {S S' : Nat → Prop} {W W1 W' : World}

theorem Loc.nil {W W' : World} {v' : Value} (h : Loc (.slice none 0 0) W v' W') : Gr (fun _ => False) W W' := h.gr.mono (fun i _ e => by simp [Value.ownBlock] at e)
end Go.Proofs.Ytfamepdghememaa
/-
  The chapter's examples come out: the first text.
-/
namespace Go.Proofs.Ytfamepdghememaa
open Go.RowKit Go.Maps
variable {S S' : Nat → Prop} {W W1 W' : World}

set_option maxRecDepth 20000 in
set_option maxHeartbeats 1600000 in
theorem nameMay_g (t : ByteArray) (h1 : 1 ≤ t.size) (h3 : t.size ≤ 32) (h0 : low (bt t 0) = true) (hall : ∀ j, j < t.size → inN (bt t j) = true) (a1 : Option Addr) (n1 c1 : Nat) (a2 : Option Addr) (n2 c2 : Nat) (w : World) :
    Calls Try.prog 47 #[ts 3 0 0 0 t 0 0 0 a1 n1 c1 a2 n2 c2] w fun e w' => e = .returned (.bool true) ∧ Gr (fun _ => False) w w' := by
  have hx : ∀ w, (Instr.index 9 (.string t) (.int .i64 0)).run Try.prog w = .ok (.int .u8 (bt t 0)) w := fun w => ix t 0 h1 w
  obtain ⟨c, hc⟩ : ∃ c, bt t 0 = c := ⟨_, rfl⟩
  rw [hc] at hx h0
  clear hc
  replace hall := Lib.hid hall
  have q1 : (1 : Int) ≤ (t.size : Int) := by omega
  have q2 : (t.size : Int) ≤ 32 := by omega
  go_enter Try.func47, Try.ntmps47
  go_wp2_with (first | (go_at_call 69; refine (tlower_c _ _).mono ?_; rintro e w' ⟨rfl, rfl⟩))
  have hcell := heap_alloc_new w (.cells #[.int .i64 3, .int .i64 0, .complex .f64 0 0, .string t, .int .i64 0, .int .u32 0, .int .u64 0, .slice a1 n1 c1, .slice a2 n2 c2] 31)
  go_loopw [24] (fun i wr => ∃ j : Nat, j ≤ t.size ∧ i = .int .i64 j ∧ wr = w.alloc (.cells #[.int .i64 3, .int .i64 0, .complex .f64 0 0, .string t, .int .i64 0, .int .u32 0, .int .u64 0, .slice a1 n1 c1, .slice a2 n2 c2] 31)) (fun i _ => t.size - (intOf i).toNat)
  case atStart => exact ⟨0, Nat.zero_le _, rfl, rfl⟩
  case round =>
    obtain ⟨j, hj, rfl, rfl⟩ := hrel
    by_cases hlt : j < t.size
    · have hk0 := ix t j hlt
      have hn := hall.out j hlt
      generalize bt t j = x at hk0 hn
      go_wp2_with (first | (go_at_call 70; refine (tinName_c _ _).mono ?_; rintro e w' ⟨rfl, rfl⟩))
      exact ⟨⟨j + 1, by omega, by go_num, trivial⟩, by simp [intOf]; omega⟩
    · obtain rfl : j = t.size := by omega
      go_wp2_with fail
      go_ret
      exact ⟨rfl, Gr.alloc _ _ _⟩
theorem ok_atom (t : ByteArray) (h1 : 1 ≤ t.size) (h3 : t.size ≤ 32) (h0 : low (bt t 0) = true) (hall : ∀ j, j < t.size → inN (bt t j) = true) : FaultOk (.mk { k := 3, s := t } [] []) := by
  intro A W kb g o v d z hK hrep hns hd hz
  obtain ⟨a1, c1, a2, c2, rfl⟩ := len0 hrep
  exact fault_at3 W kb g o 0 0 0 t 0 0 0 a1 0 c1 a2 0 c2 hK hns _ (fun w => withoutS_g 3 t a1 0 c1 a2 0 c2 w) (fun w => blank_g 3 a1 c1 a2 c2 w) (fun w => nameMay_g t h1 h3 h0 hall a1 0 c1 a2 0 c2 w) (by decide) d z hd hz
end Go.Proofs.Ytfamepdghememaa



