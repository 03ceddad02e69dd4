/-
  Values of parts; which parts are not as they ought to be.
-/
import Derived.Test.YtjedbfbolifjjaaGreatDoorKH
import Derived.Test.YtjedbfbolifjjaaGreatDoorKB
set_option linter.unusedVariables false
set_option linter.unusedSimpArgs false
namespace Go.Proofs.YtjedbfbolifjjaaGreatDoor
open Go.RowKit Go.Maps
variable {W W' : World}
def valV : Tr → Bool
  | .mk k s n b _ =>
    if k = 1 then decide (0 ≤ n) && decide (n ≤ 4611686018427387903)
    else if k = 2 ∨ k = 11 ∨ k = 17 then isName s && !wrd s
    else if k = 3 then (s.toList == [95]) || isVarN s
    else if k = 4 then decide ((b.length : Int) ≤ 4096)
    else if k = 8 then binS s
    else true
def ValOk (N : Nat) (T : Tr) : Prop := ∀ (W : World) (g o : Nat), TAtG N W g o T → g < N → Calls Tryz.prog 69 #[ptr g o] W fun e w' => e = .returned (.bool (valV T)) ∧ Gr (fun _ => False) W w'
set_option maxRecDepth 100000 in
set_option maxHeartbeats 1600000 in
theorem val1 (N : Nat) (s : ByteArray) (n : Int) (b : List Int) (l : List Tr) : ValOk N (.mk 1 s n b l) := by
  intro W g o hT hg
  obtain ⟨ba, bc, la, lc, ⟨x0, x1, x2, x3, x4⟩, hrow, hgl⟩ := hT.parts
  clear hrow hT
  show Calls Tryz.prog 69 #[ptr g o] W fun e w' => e = .returned (.bool (decide (0 ≤ n) && decide (n ≤ 4611686018427387903))) ∧ Gr (fun _ => False) W w'
  cases d1 : decide (0 ≤ n) <;> cases d2 : decide (n ≤ 4611686018427387903)
  all_goals
    go_enter Tryz.func69, Tryz.ntmps69
    go_wp2_with fail
    go_ret
    exact ⟨rfl, Gr.refl _ _⟩
set_option maxRecDepth 100000 in
set_option maxHeartbeats 1600000 in
theorem val2 (N : Nat) (s : ByteArray) (n : Int) (b : List Int) (l : List Tr) : ValOk N (.mk 2 s n b l) := by
  intro W g o hT hg
  obtain ⟨ba, bc, la, lc, ⟨x0, x1, x2, x3, x4⟩, hrow, hgl⟩ := hT.parts
  clear hrow hT
  show Calls Tryz.prog 69 #[ptr g o] W fun e w' => e = .returned (.bool (isName s && !wrd s)) ∧ Gr (fun _ => False) W w'
  have h1 := aright_c s W
  have h2 := word_c s W
  cases q1 : isName s with
  | false =>
    rw [q1] at h1
    go_enter Tryz.func69, Tryz.ntmps69
    go_wp2_with fail
    refine h1.mono ?_
    rintro e w1 ⟨rfl, rfl⟩
    go_wp2_with fail
    go_ret
    exact ⟨rfl, Gr.refl _ _⟩
  | true =>
    rw [q1] at h1
    cases q2 : wrd s
    all_goals
      rw [q2] at h2
      go_enter Tryz.func69, Tryz.ntmps69
      go_wp2_with fail
      refine h1.mono ?_
      rintro e w1 ⟨rfl, rfl⟩
      go_wp2_with fail
      refine h2.mono ?_
      rintro e w1 ⟨rfl, rfl⟩
      go_wp2_with fail
      go_ret
      exact ⟨rfl, Gr.refl _ _⟩
set_option maxRecDepth 100000 in
set_option maxHeartbeats 1600000 in
theorem val11 (N : Nat) (s : ByteArray) (n : Int) (b : List Int) (l : List Tr) : ValOk N (.mk 11 s n b l) := by
  intro W g o hT hg
  obtain ⟨ba, bc, la, lc, ⟨x0, x1, x2, x3, x4⟩, hrow, hgl⟩ := hT.parts
  clear hrow hT
  show Calls Tryz.prog 69 #[ptr g o] W fun e w' => e = .returned (.bool (isName s && !wrd s)) ∧ Gr (fun _ => False) W w'
  have h1 := aright_c s W
  have h2 := word_c s W
  cases q1 : isName s with
  | false =>
    rw [q1] at h1
    go_enter Tryz.func69, Tryz.ntmps69
    go_wp2_with fail
    refine h1.mono ?_
    rintro e w1 ⟨rfl, rfl⟩
    go_wp2_with fail
    go_ret
    exact ⟨rfl, Gr.refl _ _⟩
  | true =>
    rw [q1] at h1
    cases q2 : wrd s
    all_goals
      rw [q2] at h2
      go_enter Tryz.func69, Tryz.ntmps69
      go_wp2_with fail
      refine h1.mono ?_
      rintro e w1 ⟨rfl, rfl⟩
      go_wp2_with fail
      refine h2.mono ?_
      rintro e w1 ⟨rfl, rfl⟩
      go_wp2_with fail
      go_ret
      exact ⟨rfl, Gr.refl _ _⟩
set_option maxRecDepth 100000 in
set_option maxHeartbeats 1600000 in
theorem val17 (N : Nat) (s : ByteArray) (n : Int) (b : List Int) (l : List Tr) : ValOk N (.mk 17 s n b l) := by
  intro W g o hT hg
  obtain ⟨ba, bc, la, lc, ⟨x0, x1, x2, x3, x4⟩, hrow, hgl⟩ := hT.parts
  clear hrow hT
  show Calls Tryz.prog 69 #[ptr g o] W fun e w' => e = .returned (.bool (isName s && !wrd s)) ∧ Gr (fun _ => False) W w'
  have h1 := aright_c s W
  have h2 := word_c s W
  cases q1 : isName s with
  | false =>
    rw [q1] at h1
    go_enter Tryz.func69, Tryz.ntmps69
    go_wp2_with fail
    refine h1.mono ?_
    rintro e w1 ⟨rfl, rfl⟩
    go_wp2_with fail
    go_ret
    exact ⟨rfl, Gr.refl _ _⟩
  | true =>
    rw [q1] at h1
    cases q2 : wrd s
    all_goals
      rw [q2] at h2
      go_enter Tryz.func69, Tryz.ntmps69
      go_wp2_with fail
      refine h1.mono ?_
      rintro e w1 ⟨rfl, rfl⟩
      go_wp2_with fail
      refine h2.mono ?_
      rintro e w1 ⟨rfl, rfl⟩
      go_wp2_with fail
      go_ret
      exact ⟨rfl, Gr.refl _ _⟩
set_option maxRecDepth 100000 in
set_option maxHeartbeats 1600000 in
theorem val3 (N : Nat) (s : ByteArray) (n : Int) (b : List Int) (l : List Tr) : ValOk N (.mk 3 s n b l) := by
  intro W g o hT hg
  obtain ⟨ba, bc, la, lc, ⟨x0, x1, x2, x3, x4⟩, hrow, hgl⟩ := hT.parts
  clear hrow hT
  show Calls Tryz.prog 69 #[ptr g o] W fun e w' => e = .returned (.bool ((s.toList == [95]) || isVarN s)) ∧ Gr (fun _ => False) W w'
  have h1 := mname_c s W
  cases q1 : (s.toList == [95]) with
  | true =>
    go_enter Tryz.func69, Tryz.ntmps69
    go_wp2_with fail
    go_ret
    exact ⟨rfl, Gr.refl _ _⟩
  | false =>
    go_enter Tryz.func69, Tryz.ntmps69
    go_wp2_with fail
    refine h1.mono ?_
    rintro e w1 ⟨rfl, rfl⟩
    go_wp2_with fail
    go_ret
    exact ⟨by rw [Bool.false_or]; rfl, Gr.refl _ _⟩
set_option maxRecDepth 100000 in
set_option maxHeartbeats 1600000 in
theorem val4 (N : Nat) (s : ByteArray) (n : Int) (b : List Int) (l : List Tr) : ValOk N (.mk 4 s n b l) := by
  intro W g o hT hg
  obtain ⟨ba, bc, la, lc, ⟨x0, x1, x2, x3, x4⟩, hrow, hgl⟩ := hT.parts
  clear hrow hT
  show Calls Tryz.prog 69 #[ptr g o] W fun e w' => e = .returned (.bool (decide ((b.length : Int) ≤ 4096))) ∧ Gr (fun _ => False) W w'
  go_enter Tryz.func69, Tryz.ntmps69
  go_wp2_with fail
  go_ret
  exact ⟨rfl, Gr.refl _ _⟩
set_option maxRecDepth 100000 in
set_option maxHeartbeats 1600000 in
theorem val8 (N : Nat) (s : ByteArray) (n : Int) (b : List Int) (l : List Tr) : ValOk N (.mk 8 s n b l) := by
  intro W g o hT hg
  obtain ⟨ba, bc, la, lc, ⟨x0, x1, x2, x3, x4⟩, hrow, hgl⟩ := hT.parts
  clear hrow hT
  show Calls Tryz.prog 69 #[ptr g o] W fun e w' => e = .returned (.bool (binS s)) ∧ Gr (fun _ => False) W w'
  have h1 := joins_c s W
  go_enter Tryz.func69, Tryz.ntmps69
  go_wp2_with fail
  refine h1.mono ?_
  rintro e w1 ⟨rfl, rfl⟩
  go_wp2_with fail
  go_ret
  exact ⟨rfl, Gr.refl _ _⟩
set_option maxRecDepth 100000 in
set_option maxHeartbeats 1600000 in
theorem valE (N : Nat) (k : Int) (s : ByteArray) (n : Int) (b : List Int) (l : List Tr) (h1 : k ≠ 1) (h2 : k ≠ 2) (h3 : k ≠ 3) (h4 : k ≠ 4) (h8 : k ≠ 8) (h11 : k ≠ 11) (h17 : k ≠ 17) : ValOk N (.mk k s n b l) := by
  intro W g o hT hg
  obtain ⟨ba, bc, la, lc, ⟨x0, x1, x2, x3, x4⟩, hrow, hgl⟩ := hT.parts
  clear hrow hT
  have e : valV (.mk k s n b l) = true := by
    simp only [valV]
    rw [if_neg h1, if_neg (by omega), if_neg h3, if_neg h4, if_neg h8]
  rw [e]
  have q1 : (k == 1) = false := by simpa using h1
  have q2 : (k == 2) = false := by simpa using h2
  have q3 : (k == 3) = false := by simpa using h3
  have q4 : (k == 4) = false := by simpa using h4
  have q8 : (k == 8) = false := by simpa using h8
  have q11 : (k == 11) = false := by simpa using h11
  have q17 : (k == 17) = false := by simpa using h17
  clear e h1 h2 h3 h4 h8 h11 h17
  go_enter Tryz.func69, Tryz.ntmps69
  go_wp2_with fail
  go_ret
  exact ⟨rfl, Gr.refl _ _⟩
theorem val_c (N : Nat) (T : Tr) : ValOk N T := by
  obtain ⟨k, s, n, b, l⟩ := T
  by_cases h1 : k = 1
  · subst h1; exact val1 N s n b l
  by_cases h2 : k = 2
  · subst h2; exact val2 N s n b l
  by_cases h3 : k = 3
  · subst h3; exact val3 N s n b l
  by_cases h4 : k = 4
  · subst h4; exact val4 N s n b l
  by_cases h8 : k = 8
  · subst h8; exact val8 N s n b l
  by_cases h11 : k = 11
  · subst h11; exact val11 N s n b l
  by_cases h17 : k = 17
  · subst h17; exact val17 N s n b l
  exact valE N k s n b l h1 h2 h3 h4 h8 h11 h17
/-- Is a part none that chapter 16 has? -/
def misV (T : Tr) : Bool := !bareV T || !partsV T || !valV T
set_option maxRecDepth 100000 in
set_option maxHeartbeats 1600000 in
theorem mis_c (N : Nat) : So N 46 #[] (fun _ => True) szT misV := by
  refine ⟨ent_of Tryz.func46 (by kernel_rfl) rfl, fun _ _ _ _ => trivial, fun W g o T _ hs hT hg hN => ?_⟩
  have hpa := Lib.hid (fun w (gw : Gr (fun _ => False) W w) => parts_c N T hs w g o (hT.g0 gw hg) hg (Nat.le_trans hN gw.size))
  have hva := Lib.hid (fun w (gw : Gr (fun _ => False) W w) => val_c N T w g o (hT.g0 gw hg) hg)
  obtain ⟨k, s, n, b, l⟩ := T
  obtain ⟨ba, bc, la, lc, ⟨x0, x1, x2, x3, x4⟩, hrow, hgl⟩ := hT.parts
  have hba := bare_c W k s n b l ba bc la lc
  show Calls Tryz.prog 46 #[ptr g o] W fun e w' => e = .returned (.bool (!bareV (.mk k s n b l) || !partsV (.mk k s n b l) || !valV (.mk k s n b l))) ∧ Gr (fun _ => False) W w'
  generalize bareV (.mk k s n b l) = B1 at hba ⊢
  generalize partsV (.mk k s n b l) = B2 at hpa ⊢
  generalize valV (.mk k s n b l) = B3 at hva ⊢
  replace hba := Lib.hid hba
  clear hrow hT hs
  cases B1 with
  | false =>
    go_enter Tryz.func46, Tryz.ntmps46
    go_wp2_with fail
    refine hba.out.mono ?_
    rintro e w1 ⟨rfl, g1⟩
    go_wp2_with fail
    go_ret
    exact ⟨rfl, g1⟩
  | true =>
    cases B2 with
    | false =>
      go_enter Tryz.func46, Tryz.ntmps46
      go_wp2_with fail
      refine hba.out.mono ?_
      rintro e w1 ⟨rfl, g1⟩
      go_wp2_with fail
      refine (hpa.out w1 g1).mono ?_
      rintro e w2 ⟨rfl, g2⟩
      go_wp2_with fail
      go_ret
      exact ⟨rfl, g1.trans g2⟩
    | true =>
      cases B3
      all_goals
        go_enter Tryz.func46, Tryz.ntmps46
        go_wp2_with fail
        refine hba.out.mono ?_
        rintro e w1 ⟨rfl, g1⟩
        go_wp2_with fail
        refine (hpa.out w1 g1).mono ?_
        rintro e w2 ⟨rfl, g2⟩
        go_wp2_with fail
        refine (hva.out w2 (g1.trans g2)).mono ?_
        rintro e w3 ⟨rfl, g3⟩
        go_wp2_with fail
        go_ret
        exact ⟨rfl, (g1.trans g2).trans g3⟩
end Go.Proofs.YtjedbfbolifjjaaGreatDoor
