/-
  The reference's Formed: joins.
  The reference's Formed of any part.
-/
import Derived.Test.YtjedbfbolifjjaaGreatDoorPAd
import Derived.Test.YtjedbfbolifjjaaGreatDoorPAf
import Derived.Test.YtjedbfbolifjjaaGreatDoorPAa
import Derived.Test.YtjedbfbolifjjaaGreatDoorPE
set_option linter.unusedVariables false
set_option linter.unusedSimpArgs false
namespace Go.Proofs.YtjedbfbolifjjaaGreatDoor
open Go.RowKit Go.Maps
variable {W W' : World}
theorem fm8 (s : ByteArray) (n : Int) (b : List Int) (l : List Tr) (hl : l.length ≤ 4611686018427387904) : FmIs 8 s n b l (!(n != 0) && !decide (0 < (b.length : Int)) && (binS s && ((l.length : Int) == 2) && smV 1 13 (0) (2) l)) := by
 by_cases hno : (n != 0) = true ∨ 0 < b.length
 ·
  have e : (!(n != 0) && !decide (0 < (b.length : Int)) && (binS s && ((l.length : Int) == 2) && smV 1 13 (0) (2) l)) = false := by
   rcases hno with h | h
   · rw [h]; rfl
   · have : decide (0 < (b.length : Int)) = true := by simp; omega
     rw [this]; simp
  rw [e]
  exact fm8_n s n b l hno hl
 have hn : (n != 0) = false := by cases h : (n != 0) with
  | true => exact absurd (.inl h) hno
  | false => rfl
 have hb : ¬ 0 < b.length := fun h => hno (.inr h)
 have hn0 : n = 0 := by simpa using hn
 subst hn0
 have hd : decide (0 < (b.length : Int)) = false := by rw [decide_eq_false_iff_not]; omega
 rw [hn, hd]
 show FmIs 8 s 0 b l (binS s && ((l.length : Int) == 2) && smV 1 13 (0) (2) l)
 cases q0 : (s.toList == [43]) with
 | true =>
  rw [show binS s = true by unfold binS; rw [q0]; simp, Bool.true_and]
  exact fm8_0 s q0 b hb l hl
 | false =>
  cases q1 : (s.toList == [45]) with
  | true =>
   rw [show binS s = true by unfold binS; rw [q1]; simp, Bool.true_and]
   exact fm8_1 s q0 q1 b hb l hl
  | false =>
   cases q2 : (s.toList == [42]) with
   | true =>
    rw [show binS s = true by unfold binS; rw [q2]; simp, Bool.true_and]
    exact fm8_2 s q0 q1 q2 b hb l hl
   | false =>
    cases q3 : (s.toList == [47]) with
    | true =>
     rw [show binS s = true by unfold binS; rw [q3]; simp, Bool.true_and]
     exact fm8_3 s q0 q1 q2 q3 b hb l hl
    | false =>
     cases q4 : (s.toList == [114, 101, 109]) with
     | true =>
      rw [show binS s = true by unfold binS; rw [q4]; simp, Bool.true_and]
      exact fm8_4 s q0 q1 q2 q3 q4 b hb l hl
     | false =>
      cases q5 : (s.toList == [61, 61]) with
      | true =>
       rw [show binS s = true by unfold binS; rw [q5]; simp, Bool.true_and]
       exact fm8_5 s q0 q1 q2 q3 q4 q5 b hb l hl
      | false =>
       cases q6 : (s.toList == [47, 61]) with
       | true =>
        rw [show binS s = true by unfold binS; rw [q6]; simp, Bool.true_and]
        exact fm8_6 s q0 q1 q2 q3 q4 q5 q6 b hb l hl
       | false =>
        cases q7 : (s.toList == [60]) with
        | true =>
         rw [show binS s = true by unfold binS; rw [q7]; simp, Bool.true_and]
         exact fm8_7 s q0 q1 q2 q3 q4 q5 q6 q7 b hb l hl
        | false =>
         cases q8 : (s.toList == [62]) with
         | true =>
          rw [show binS s = true by unfold binS; rw [q8]; simp, Bool.true_and]
          exact fm8_8 s q0 q1 q2 q3 q4 q5 q6 q7 q8 b hb l hl
         | false =>
          cases q9 : (s.toList == [61, 60]) with
          | true =>
           rw [show binS s = true by unfold binS; rw [q9]; simp, Bool.true_and]
           exact fm8_9 s q0 q1 q2 q3 q4 q5 q6 q7 q8 q9 b hb l hl
          | false =>
           cases q10 : (s.toList == [62, 61]) with
           | true =>
            rw [show binS s = true by unfold binS; rw [q10]; simp, Bool.true_and]
            exact fm8_10 s q0 q1 q2 q3 q4 q5 q6 q7 q8 q9 q10 b hb l hl
           | false =>
            rw [show binS s = false by unfold binS; rw [q5, q6, q7, q8, q9, q10, q0, q1, q2, q3, q4]; rfl, Bool.false_and, Bool.false_and]
            exact fm8_11 s q0 q1 q2 q3 q4 q5 q6 q7 q8 q9 q10 b hb l hl
end Go.Proofs.YtjedbfbolifjjaaGreatDoor

namespace Go.Proofs.YtjedbfbolifjjaaGreatDoor
open Go.RowKit Go.Maps
variable {W W' : World}
theorem fm_all (k : Int) (s : ByteArray) (n : Int) (b : List Int) (l : List Tr) (hl : l.length ≤ 4611686018427387904) : FmIs k s n b l (!misV (.mk k s n b l)) := by
 by_cases e1 : k = 1
 · subst e1; rw [← fq1]; exact fm1 s n b l hl
 by_cases e2 : k = 2
 · subst e2; rw [← fq2]; exact fm2 s n b l hl
 by_cases e3 : k = 3
 · subst e3; rw [← fq3]; exact fm3 s n b l hl
 by_cases e4 : k = 4
 · subst e4; rw [← fq4]; exact fm4 s n b l hl
 by_cases e5 : k = 5
 · subst e5; rw [← fq5]; exact fm5 s n b l hl
 by_cases e6 : k = 6
 · subst e6; rw [← fq6]; exact fm6 s n b l hl
 by_cases e7 : k = 7
 · subst e7; rw [← fq7]; exact fm7 s n b l hl
 by_cases e8 : k = 8
 · subst e8; rw [← fq8]; exact fm8 s n b l hl
 by_cases e9 : k = 9
 · subst e9; rw [← fq9]; exact fm9 s n b l hl
 by_cases e10 : k = 10
 · subst e10; rw [← fq10]; exact fm10 s n b l hl
 by_cases e11 : k = 11
 · subst e11; rw [← fq11]; exact fm11 s n b l hl
 by_cases e12 : k = 12
 · subst e12; rw [← fq12]; exact fm12 s n b l hl
 by_cases e13 : k = 13
 · subst e13; rw [← fq13]; exact fm13 s n b l hl
 by_cases e14 : k = 14
 · subst e14; rw [← fq14]; exact fm14 s n b l hl
 by_cases e15 : k = 15
 · subst e15; rw [← fq15]; exact fm15 s n b l hl
 by_cases e16 : k = 16
 · subst e16; rw [← fq16]; exact fm16 s n b l hl
 by_cases e17 : k = 17
 · subst e17; rw [← fq17]; exact fm17 s n b l hl
 by_cases e18 : k = 18
 · subst e18; rw [← fq18]; exact fm18 s n b l hl
 have hm : misV (.mk k s n b l) = true := by
  have : partsV (.mk k s n b l) = false := by
   simp only [partsV]
   repeat rw [if_neg (by omega)]
  unfold misV; rw [this]; simp
 rw [hm]
 exact fmE k (by omega) s n b l
theorem rform_c (W : World) (T : Tr) (v : Value) (hR : RepG (fun z => z < W.heap.size) W T v) (hs : Szs [T]) : Calls Tryz.prog 27 #[v] W fun e w' => e = .returned (.bool (!misV T)) ∧ Gr (fun _ => False) W w' := by
 obtain ⟨k, s, n, b, l⟩ := T
 obtain ⟨ba, bc, la, lc, rfl, hrow⟩ := rep_row hR
 exact fm_all k s n b l (hs _ (self_pre _)).2 W.heap.size W ba bc la lc hrow (Nat.le_refl _)
end Go.Proofs.YtjedbfbolifjjaaGreatDoor
