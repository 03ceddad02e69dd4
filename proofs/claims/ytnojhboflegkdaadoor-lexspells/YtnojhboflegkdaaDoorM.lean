/-
  Spell: any token's text.
-/
import Derived.Test.YtnojhboflegkdaaDoorL
set_option linter.unusedVariables false
set_option linter.unusedSimpArgs false
namespace Go.Proofs.YtnojhboflegkdaaDoor
open Go.RowKit Go.Maps

/-- A token's text. -/
def spV (k : Int) (s : ByteArray) (n : Int) (b : List Int) : ByteArray :=
  if k = 1 then (if 0 ≤ n then ⟨(Lib.decDigits n.toNat).toArray⟩ else e0)
  else if k = 2 ∨ k = 3 ∨ k = 5 ∨ k = 6 then s else if k = 4 then sb (quo b) else e0

set_option maxRecDepth 20000 in
set_option maxHeartbeats 2000000 in
theorem spell_c (W : World) (k : Int) (s : ByteArray) (n : Int) (sv : Value) (a : Int) (b : List Int) (hs : Sb W sv b) (hb : ∀ c ∈ b, 0 ≤ c ∧ c < 256) (hl : b.length ≤ 70000) (hz : s.size ≤ 140737488351232) (hn : n ≤ 9223372036854775807) (hT : Tb W) :
    Calls Tryd.prog 13 #[.agg #[.int .i64 k, .string s, .int .i64 n, sv, .int .i64 a]] W fun e w' => e = .returned (.string (spV k s n b)) ∧ Gr (fun _ => False) W w' := by
  have gA := fun o : Obj => Gr.alloc W o (fun _ => False)
  replace gA := Lib.hid gA
  obtain ⟨sa, sc, rfl, _⟩ := hs.sv
  by_cases h1 : k = 1
  · by_cases h2 : 0 ≤ n
    · rw [show spV k s n b = ⟨(Lib.decDigits n.toNat).toArray⟩ by rw [spV, if_pos h1, if_pos h2]]
      have hf := fun w (g : Gr (fun _ => False) W w) => format_c w n h2 hn (hT.gr g (fun e => e))
      generalize (⟨(Lib.decDigits n.toNat).toArray⟩ : ByteArray) = r at hf ⊢
      subst h1
      clear hz hn hl hb hs hT
      go_enter Tryd.func13, Tryd.ntmps13
      go_wp2_with fail
      refine (hf _ (gA.out _)).mono ?_
      rintro e w2 ⟨rfl, g2⟩
      go_wp2_with fail
      go_ret
      exact ⟨rfl, (gA.out _).trans g2⟩
    · rw [show spV k s n b = e0 by rw [spV, if_pos h1, if_neg h2]]
      have h2' : decide (0 ≤ n) = false := decide_eq_false h2
      subst h1
      clear hz hn hl hb hs hT h2
      go_enter Tryd.func13, Tryd.ntmps13
      go_wp2_with fail
      go_ret
      exact ⟨rfl, gA.out _⟩
  by_cases h3 : k = 2 ∨ k = 3 ∨ k = 5 ∨ k = 6
  · rw [show spV k s n b = s by rw [spV, if_neg h1, if_pos h3]]
    have hc := fun w => clone_g s w hz
    clear hz hn hl hb hs hT h1
    rcases h3 with rfl | rfl | rfl | rfl
    all_goals
      go_enter Tryd.func13, Tryd.ntmps13
      go_wp2_with fail
      refine (hc _).mono ?_
      rintro e w2 ⟨rfl, g2⟩
      go_wp2_with fail
      go_ret
      exact ⟨rfl, (gA.out _).trans g2⟩
  by_cases h4 : k = 4
  · rw [show spV k s n b = sb (quo b) by rw [spV, if_neg h1, if_neg h3, if_pos h4]]
    have hq := fun w (g : Gr (fun _ => False) W w) => quote_c w _ b (hs.gr g) hb hl
    obtain ⟨r, hr⟩ : ∃ r, sb (quo b) = r := ⟨_, rfl⟩
    rw [hr]
    have Hr := Lib.hid hr
    clear hr
    subst h4
    clear hz hn hl hb hs hT h1 h3
    go_enter Tryd.func13, Tryd.ntmps13
    go_wp2_with fail
    refine (hq _ (gA.out _)).mono ?_
    rintro e w2 ⟨v', rfl, o2, g2⟩
    have hcv := conv_sb o2.sb
    rw [Hr.out] at hcv
    go_wp2_with fail
    go_ret
    exact ⟨rfl, (gA.out _).trans g2⟩
  · rw [show spV k s n b = e0 by rw [spV, if_neg h1, if_neg h3, if_neg h4]]
    have q1 : (k == 1) = false := by simpa using h1
    have q2 : (k == 2) = false := by simp; omega
    have q3 : (k == 3) = false := by simp; omega
    have q5 : (k == 5) = false := by simp; omega
    have q6 : (k == 6) = false := by simp; omega
    have q4 : (k == 4) = false := by simpa using h4
    clear hz hn hl hb hs hT h1 h3 h4
    go_enter Tryd.func13, Tryd.ntmps13
    go_wp2_with fail
    go_ret
    exact ⟨rfl, gA.out _⟩
end Go.Proofs.YtnojhboflegkdaaDoor
