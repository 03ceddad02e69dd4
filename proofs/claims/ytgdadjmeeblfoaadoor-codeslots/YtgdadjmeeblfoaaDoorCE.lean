/-
  The checks at the examples' instructions: targets, what is taken, heads.
-/
import Derived.Test.YtgdadjmeeblfoaaDoorCD
set_option linter.unusedVariables false
set_option linter.unusedSimpArgs false
namespace Go.Proofs.YtgdadjmeeblfoaaDoor
open Go.RowKit Go.Maps
variable {W W' : World}
set_option maxRecDepth 100000 in
set_option maxHeartbeats 1600000 in
theorem target12 (W : World) (lv : Value) (fb ib m o : Nat) (hm : 0 < m) (hF : FnAt W fb ib m) (hI : InAt W ib o 12 0 0) (hO : Ot W) : Calls Tryd.prog 22 #[lv, ptx fb 0, ptx ib o] W fun e w' => e = .returned (.bool true) ∧ Gr (fun _ => False) W w' := by
  have hfl := hF.lt
  have hil := hI.lt
  have h0l := hO.lt
  obtain ⟨⟨o0, o1, o2, o3⟩, o4, o5, o6, o7⟩ := hO.2.2
  obtain ⟨f0, f1, f2, f3⟩ := hF
  obtain ⟨⟨i0, i1, i2⟩, hT⟩ := hI
  have hmI : decide ((0 : Int) < (m : Int)) = true := by simp; omega
  clear hT hO
  go_enter Tryd.func22, Tryd.ntmps22
  go_wp2_with fail
  go_ret
  exact ⟨rfl, Gr.refl _ _⟩
set_option maxRecDepth 100000 in
set_option maxHeartbeats 1600000 in
theorem taken12 (W : World) (ib o : Nat) (hI : InAt W ib o 12 0 0) (hO : Ot W) : Calls Tryd.prog 25 #[ptx ib o] W fun e w' => e = .returned (.int .i64 1) ∧ w' = W := by
  have hil := hI.lt
  have h0l := hO.lt
  obtain ⟨⟨o0, o1, o2, o3⟩, o4, o5, o6, o7⟩ := hO.2.2
  obtain ⟨⟨i0, i1, i2⟩, hT⟩ := hI
  clear hT hO
  go_enter Tryd.func25, Tryd.ntmps25
  go_wp2_with fail
  go_ret
  exact ⟨rfl, rfl⟩
set_option maxRecDepth 100000 in
set_option maxHeartbeats 1600000 in
theorem ins12 (W : World) (lv : Value) (fb ib m o : Nat) (hm : 0 < m) (hF : FnAt W fb ib m) (hI : InAt W ib o 12 0 0) (hO : Ot W) : Calls Tryd.prog 15 #[lv, ptx fb 0, ptx ib o] W fun e w' => e = .returned (.int .i64 0) ∧ Gr (fun _ => False) W w' := by
  have hil := hI.lt
  have h1 := Lib.hid (fields12 W fb ib m o hF hI hO)
  have h2 := Lib.hid (fun w (gw : Gr (fun _ => False) W w) => target12 w lv fb ib m o hm (hF.gr gw (fun e => e)) (hI.gr gw (fun e => e)) (hO.gr gw (fun e => e)))
  obtain ⟨⟨i0, i1, i2⟩, hT⟩ := hI
  clear hT hO hF
  go_enter Tryd.func15, Tryd.ntmps15
  go_wp2_with fail
  refine h1.out.mono ?_
  rintro e w1 ⟨rfl, g1⟩
  go_wp2_with fail
  refine (h2.out w1 g1).mono ?_
  rintro e w2 ⟨rfl, g2⟩
  go_wp2_with fail
  go_ret
  exact ⟨rfl, g1.trans g2⟩
set_option maxRecDepth 100000 in
set_option maxHeartbeats 1600000 in
theorem target1 (W : World) (lv : Value) (fb ib m o : Nat) (hm : 0 < m) (hF : FnAt W fb ib m) (hI : InAt W ib o 1 1 1) (hO : Ot W) : Calls Tryd.prog 22 #[lv, ptx fb 0, ptx ib o] W fun e w' => e = .returned (.bool true) ∧ Gr (fun _ => False) W w' := by
  have hfl := hF.lt
  have hil := hI.lt
  have h0l := hO.lt
  obtain ⟨⟨o0, o1, o2, o3⟩, o4, o5, o6, o7⟩ := hO.1
  obtain ⟨f0, f1, f2, f3⟩ := hF
  obtain ⟨⟨i0, i1, i2⟩, hT⟩ := hI
  have hmI : decide ((0 : Int) < (m : Int)) = true := by simp; omega
  clear hT hO
  go_enter Tryd.func22, Tryd.ntmps22
  go_wp2_with fail
  go_ret
  exact ⟨rfl, Gr.refl _ _⟩
set_option maxRecDepth 100000 in
set_option maxHeartbeats 1600000 in
theorem taken1 (W : World) (ib o : Nat) (hI : InAt W ib o 1 1 1) (hO : Ot W) : Calls Tryd.prog 25 #[ptx ib o] W fun e w' => e = .returned (.int .i64 0) ∧ w' = W := by
  have hil := hI.lt
  have h0l := hO.lt
  obtain ⟨⟨o0, o1, o2, o3⟩, o4, o5, o6, o7⟩ := hO.1
  obtain ⟨⟨i0, i1, i2⟩, hT⟩ := hI
  clear hT hO
  go_enter Tryd.func25, Tryd.ntmps25
  go_wp2_with fail
  go_ret
  exact ⟨rfl, rfl⟩
set_option maxRecDepth 100000 in
set_option maxHeartbeats 1600000 in
theorem ins1 (W : World) (lv : Value) (fb ib m o : Nat) (hm : 0 < m) (hF : FnAt W fb ib m) (hI : InAt W ib o 1 1 1) (hO : Ot W) : Calls Tryd.prog 15 #[lv, ptx fb 0, ptx ib o] W fun e w' => e = .returned (.int .i64 0) ∧ Gr (fun _ => False) W w' := by
  have hil := hI.lt
  have h1 := Lib.hid (fields1 W fb ib m o hF hI hO)
  have h2 := Lib.hid (fun w (gw : Gr (fun _ => False) W w) => target1 w lv fb ib m o hm (hF.gr gw (fun e => e)) (hI.gr gw (fun e => e)) (hO.gr gw (fun e => e)))
  obtain ⟨⟨i0, i1, i2⟩, hT⟩ := hI
  clear hT hO hF
  go_enter Tryd.func15, Tryd.ntmps15
  go_wp2_with fail
  refine h1.out.mono ?_
  rintro e w1 ⟨rfl, g1⟩
  go_wp2_with fail
  refine (h2.out w1 g1).mono ?_
  rintro e w2 ⟨rfl, g2⟩
  go_wp2_with fail
  go_ret
  exact ⟨rfl, g1.trans g2⟩
set_option maxRecDepth 100000 in
set_option maxHeartbeats 1600000 in
theorem target9 (W : World) (lv : Value) (fb ib m o : Nat) (hm : 0 < m) (hF : FnAt W fb ib m) (hI : InAt W ib o 9 0 0) (hO : Ot W) : Calls Tryd.prog 22 #[lv, ptx fb 0, ptx ib o] W fun e w' => e = .returned (.bool true) ∧ Gr (fun _ => False) W w' := by
  have hfl := hF.lt
  have hil := hI.lt
  have h0l := hO.lt
  obtain ⟨⟨o0, o1, o2, o3⟩, o4, o5, o6, o7⟩ := hO.2.1
  obtain ⟨f0, f1, f2, f3⟩ := hF
  obtain ⟨⟨i0, i1, i2⟩, hT⟩ := hI
  have hmI : decide ((0 : Int) < (m : Int)) = true := by simp; omega
  clear hT hO
  go_enter Tryd.func22, Tryd.ntmps22
  go_wp2_with fail
  go_quiet (fail)
  go_wp2_with fail
  go_ret
  exact ⟨rfl, Gr.drewN _ _ _⟩
set_option maxRecDepth 100000 in
set_option maxHeartbeats 1600000 in
theorem taken9 (W : World) (ib o : Nat) (hI : InAt W ib o 9 0 0) (hO : Ot W) : Calls Tryd.prog 25 #[ptx ib o] W fun e w' => e = .returned (.int .i64 0) ∧ w' = W := by
  have hil := hI.lt
  have h0l := hO.lt
  obtain ⟨⟨o0, o1, o2, o3⟩, o4, o5, o6, o7⟩ := hO.2.1
  obtain ⟨⟨i0, i1, i2⟩, hT⟩ := hI
  clear hT hO
  go_enter Tryd.func25, Tryd.ntmps25
  go_wp2_with fail
  go_ret
  exact ⟨rfl, rfl⟩
set_option maxRecDepth 100000 in
set_option maxHeartbeats 1600000 in
theorem ins9 (W : World) (lv : Value) (fb ib m o : Nat) (hm : 0 < m) (hF : FnAt W fb ib m) (hI : InAt W ib o 9 0 0) (hO : Ot W) : Calls Tryd.prog 15 #[lv, ptx fb 0, ptx ib o] W fun e w' => e = .returned (.int .i64 0) ∧ Gr (fun _ => False) W w' := by
  have hil := hI.lt
  have h1 := Lib.hid (fields9 W fb ib m o hF hI hO)
  have h2 := Lib.hid (fun w (gw : Gr (fun _ => False) W w) => target9 w lv fb ib m o hm (hF.gr gw (fun e => e)) (hI.gr gw (fun e => e)) (hO.gr gw (fun e => e)))
  obtain ⟨⟨i0, i1, i2⟩, hT⟩ := hI
  clear hT hO hF
  go_enter Tryd.func15, Tryd.ntmps15
  go_wp2_with fail
  refine h1.out.mono ?_
  rintro e w1 ⟨rfl, g1⟩
  go_wp2_with fail
  refine (h2.out w1 g1).mono ?_
  rintro e w2 ⟨rfl, g2⟩
  go_wp2_with fail
  go_ret
  exact ⟨rfl, g1.trans g2⟩
set_option maxRecDepth 100000 in
set_option maxHeartbeats 1600000 in
theorem find_c (W : World) (fb ib m : Nat) (hF : FnAt W fb ib m) : Calls Tryd.prog 10 #[.slice (some ⟨fb, 0, none⟩) 1 1, .string fB, .int .i64 0] W fun e w' => e = .returned (.int .i64 0) ∧ w' = W := by
  have hfl := hF.lt
  obtain ⟨f0, f1, f2, f3⟩ := hF
  go_enter Tryd.func10, Tryd.ntmps10
  go_wp2_with fail
  go_loopw [10] (fun u wr => u = .int .i64 0 ∧ wr = W) (fun u _ => 0)
  case atStart => exact ⟨rfl, rfl⟩
  case round =>
    obtain ⟨rfl, rfl⟩ := hrel
    go_wp2_with fail
    go_ret
    exact ⟨rfl, rfl⟩
theorem quiet_same2 {P : Program} {f : FuncId} {args : Array Value} {w : World} {k n : Nat} {v : Value}
    (h : Calls P f args (w.drewN (k + n)) fun e w' => e = .returned v ∧ w' = w.drewN (k + n)) : Calls P f args (w.drewN (k + n)) fun e w'' => e = .returned v ∧ ∃ m, w'' = w.drewN (k + m) :=
  h.mono fun _ _ ⟨he, hm⟩ => ⟨he, n, hm⟩
set_option maxRecDepth 100000 in
set_option maxHeartbeats 1600000 in
theorem head_c (W : World) (fb ib m : Nat) (hm : 0 < m) (hm2 : m ≤ 4000) (hF : FnAt W fb ib m) : Calls Tryd.prog 14 #[.slice (some ⟨fb, 0, none⟩) 1 1, .int .i64 0] W fun e w' => e = .returned (.int .i64 0) ∧ Gr (fun _ => False) W w' := by
  have hfl := hF.lt
  have hr : Hid (∀ w, Calls Tryd.prog 20 #[.string fB] w fun e w' => e = .returned (.bool true) ∧ w = w') := fun w => by
    have := zaright_c fB w
    rw [show zisName fB = true by decide +kernel] at this
    exact this
  have hfi := Lib.hid (fun w (gw : Gr (fun _ => False) W w) => find_c w fb ib m (hF.gr gw (fun e => e)))
  obtain ⟨f0, f1, f2, f3⟩ := hF
  have q1 : ((m : Int) == 0) = false := by simp; omega
  have q2 : decide ((4000 : Int) < (m : Int)) = false := by simp; omega
  have S0 : W.drew.cell? ⟨fb, 0, none⟩ = some (.string fB) := f0
  go_enter Tryd.func14, Tryd.ntmps14
  go_wp2_with fail
  refine (hr.out _).mono ?_
  rintro e w1 ⟨rfl, rfl⟩
  go_wp2_with fail
  go_quiet (fail)
  go_wp2_with fail
  go_quiet (first | (go_at_call 10; exact quiet_same2 (hfi.out _ (Gr.drewN _ _ _))) | fail)
  go_wp2_with fail
  go_ret
  exact ⟨rfl, Gr.drewN _ _ _⟩
end Go.Proofs.YtgdadjmeeblfoaaDoor
