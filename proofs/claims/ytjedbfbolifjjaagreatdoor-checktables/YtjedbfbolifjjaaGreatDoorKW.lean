/-
  Questions that keep a state, asked of all elements: every.
-/
import Derived.Test.YtjedbfbolifjjaaGreatDoorKR
set_option linter.unusedVariables false
set_option linter.unusedSimpArgs false
namespace Go.Proofs.YtjedbfbolifjjaaGreatDoor
open Go.RowKit Go.Maps
variable {W W' : World} {α : Type}
/-- A question whose yes is 'go on'. -/
def SoE (N n : Nat) (caps : Array Value) (S : Nat → Prop) (In : α → World → Prop) (Q : α → Tr → Prop) (step : α → Tr → Bool × α) : Prop :=
  Ent n ∧ (∀ k, k < N → ¬ S k) ∧ ∀ (W : World) (s : α) (g o : Nat) (T : Tr), In s W → Q s T → TAtG N W g o T → g < N → N ≤ W.heap.size → Calls Tryz.prog n (#[ptr g o] ++ caps) W fun e w' => e = .returned (.bool (!(step s T).1)) ∧ ((step s T).1 = false → In (step s T).2 w') ∧ Gr S W w'
set_option maxRecDepth 100000 in
set_option maxHeartbeats 1600000 in
theorem everys_c {N n : Nat} {caps : Array Value} {S : Nat → Prop} {In : α → World → Prop} {Q : α → Tr → Prop} {step : α → Tr → Bool × α} (hSo : SoE N n caps S In Q step) (l : List Tr) (hl : l.length ≤ 4611686018427387904) (W : World) (a : α) (la : Option Addr) (lc : Nat) (hI : In a W) (hok : okA Q step a l) (hrow : RowAt N W la l) (hN : N ≤ W.heap.size) :
    Calls Tryz.prog 89 #[.slice la l.length lc, .func (.func n) #[] caps] W fun e w' => e = .returned (.bool (!(goA step a l).1)) ∧ ((goA step a l).1 = false → In (goA step a l).2 w') ∧ Gr S W w' := by
  obtain ⟨hE, hSN, hcall⟩ := hSo
  have hlI : (l.length : Int) ≤ 4611686018427387904 := by omega
  have hst : Hid (∀ (i : Nat) (U : Tr), l[i]? = some U → (goA step a (l.take i)).1 = false → goA step a (l.take (i + 1)) = step (goA step a (l.take i)).2 U) := fun i U hU h0 => by
    show _ = _
    rw [List.take_add_one, hU, goA_app, h0]
    show (if (step (goA step a (l.take i)).2 U).1 = true then (true, (step (goA step a (l.take i)).2 U).2) else (false, (step (goA step a (l.take i)).2 U).2)) = _
    cases h : step (goA step a (l.take i)).2 U with
    | mk b s => cases b <;> rfl
  have hsp : Hid (∀ i, goA step a l = if (goA step a (l.take i)).1 then (true, (goA step a (l.take i)).2) else goA step (goA step a (l.take i)).2 (l.drop i)) := fun i => by
    show _ = _
    rw [← goA_app, List.take_append_drop]
  have hoq : Hid (∀ (i : Nat) (U : Tr), l[i]? = some U → (goA step a (l.take i)).1 = false → Q (goA step a (l.take i)).2 U) := fun i U hU h0 => by
    have e : l = l.take i ++ (U :: l.drop (i + 1)) := by
      have h1 := (List.getElem?_eq_some_iff.1 hU)
      obtain ⟨h2, rfl⟩ := h1
      rw [List.getElem_cons_drop, List.take_append_drop]
    have h1 := hok
    rw [e] at h1
    exact ((okA_app Q step _ _ _ h1).2 h0).1
  replace hrow := Lib.hid hrow
  replace hSN := Lib.hid hSN
  replace hI := Lib.hid hI
  replace hcall := Lib.hid hcall
  clear hok
  go_enter Tryz.func89, Tryz.ntmps89
  go_wp2_with fail
  go_loopw [8] (fun u wr => ∃ i : Nat, i ≤ l.length ∧ u = .int .i64 (i : Int) ∧ Hid ((goA step a (l.take i)).1 = false) ∧ Hid (In (goA step a (l.take i)).2 wr) ∧ Gr S W wr) (fun u _ => l.length - (intOf u).toNat)
  case atStart => exact ⟨0, Nat.zero_le _, rfl, by show _ = _; rw [List.take_zero]; rfl, by show In _ _; rw [List.take_zero]; exact hI.out, Gr.refl _ _⟩
  case round =>
    obtain ⟨i, hi, rfl, hno, hIi, hG⟩ := hrel
    by_cases hlt : i < l.length
    · have hd : decide ((i : Int) < (l.length : Int)) = true := by simp; omega
      have hTi : l[i]? = some l[i] := List.getElem?_eq_getElem hlt
      obtain ⟨g', o', rfl, hg', hTA⟩ := hrow.out i _ hTi
      have hst' := hst.out i _ hTi hno.out
      have hci := hcall.out wr _ g' (o' + i * 5) l[i] hIi.out (hoq.out i _ hTi hno.out) (hTA.gr hG hSN.out hg') hg' (Nat.le_trans hN hG.size)
      rw [← hst'] at hci
      have hsp' := Lib.hid (hsp.out (i + 1))
      have hsz := hG.size
      have hgw' : g' < wr.heap.size := by
        obtain ⟨v, h1, h2⟩ := hTA.gr hG hSN.out hg'
        obtain ⟨tk, tt, tn, a1, n1, c1, a2, n2, c2, rfl⟩ := h1.agg
        exact World.block_lt_of_cell? _ _ (h2 0 _ rfl)
      cases hU : goA step a (l.take (i + 1)) with
      | mk bu a2 =>
      rw [hU] at hci
      replace hci := Lib.hid hci
      replace hU := Lib.hid hU
      clear hTA hTi hst'
      cases bu with
      | true =>
        go_wp2_with fail
        rw [hE, Oper.upon_enter]
        refine hci.out.mono ?_
        rintro e w4 ⟨rfl, hI4, g4⟩
        clear hI4
        go_wp2_with fail
        go_ret
        have e2 := hsp'.out
        rw [hU.out] at e2
        refine ⟨?_, ?_, hG.trans g4⟩
        · rw [e2]; rfl
        · rw [e2]; intro h; cases h
      | false =>
        go_wp2_with fail
        rw [hE, Oper.upon_enter]
        refine hci.out.mono ?_
        rintro e w4 ⟨rfl, hI4, g4⟩
        replace hI4 := Lib.hid hI4
        go_wp2_with fail
        exact ⟨⟨i + 1, hlt, by go_num, by show _ = _; rw [hU.out], by show In _ _; rw [hU.out]; exact hI4.out (by first | rfl | trivial), hG.trans g4⟩, by simp [intOf]; omega⟩
    · have hd : decide ((i : Int) < (l.length : Int)) = false := by simp; omega
      obtain rfl : i = l.length := by omega
      go_wp2_with fail
      go_ret
      have h1 := hno.out
      have h2 := hIi.out
      rw [List.take_length] at h1 h2
      exact ⟨by rw [h1]; rfl, fun _ => h2, hG⟩
end Go.Proofs.YtjedbfbolifjjaaGreatDoor
