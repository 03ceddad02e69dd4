/-
  The reader's ints and ids.
-/
import Derived.Test.YtdmichjhmfinpaaGreatDoorG
set_option linter.unusedVariables false
set_option linter.unusedSimpArgs false
namespace Go.Proofs.YtdmichjhmfinpaaGreatDoor
open Go.RowKit

/-- The number that the digits from i to j make. -/
def dvx (s : ByteArray) (i j : Nat) : Int := dva (s.extract i j) (s.extract i j).size
def itg (s : ByteArray) (i : Nat) : Except Nat (Int × Nat) :=
  if pk s i = 45 then (if pk s (i + 1) = 48 then .error (i + 1) else match dgs s (i + 1) with
    | .error j => .error j
    | .ok j => .ok (negV (dvx s (i + 1) j), j))
  else match dgs s i with
    | .error j => .error j
    | .ok j => .ok (posV (dvx s i j), j)
/-- How a step ends that reads an int. -/
def EndI (W : World) (b : Nat) (s : ByteArray) (n : Nat) (e : Ending) (w' : World) : Except Nat (Int × Nat) → Prop
  | .ok (c, j) => e = .returned (.int .i64 c) ∧ St W b s w' j n
  | .error j => e = gives j 41 ∧ Gr (fun k => k = b) W w'

theorem ext_ext (s : ByteArray) (i j : Nat) (hj : j ≤ s.size) : (s.extract i j).extract 1 (s.extract i j).size = s.extract (i + 1) j := by
  rw [size_ext s i j hj]
  apply ByteArray.ext
  simp only [ByteArray.data_extract, Array.extract_extract]
  congr 1
  omega

set_option maxRecDepth 20000 in
set_option maxHeartbeats 1600000 in
theorem integer_c (W : World) (b : Nat) (s : ByteArray) (i n : Nat) (h : Rd W b s i n) (hs : s.size ≤ 65536) (hi : i ≤ s.size) (hE : Er W) (hb4 : b ≠ 4) :
    Calls Tryz.prog 92 #[pt b] W fun e w' => EndI W b s n e w' (itg s i) := by
  have hi2 : (i : Int) ≤ 65536 := by omega
  obtain ⟨c0, c1, c2, f0, f1, f2⟩ := h.facts
  obtain ⟨c, hc⟩ : ∃ c, pk s i = c := ⟨_, rfl⟩
  have Hc := Lib.hid hc
  have hp := fun W h => peek_c W b s i n h hi
  rw [hc] at hp
  by_cases h1 : c = 45
  · have hlt : i < s.size := lt_of_pk (by rw [hc, h1]; decide)
    have hp2 := fun W h => peek_c W b s (i + 1) n h (by omega)
    obtain ⟨x, hx⟩ : ∃ x, pk s (i + 1) = x := ⟨_, rfl⟩
    rw [hx] at hp2
    by_cases h2 : x = 48
    · have e0 : itg s i = .error (i + 1) := by rw [itg, if_pos (by rw [hc, h1]), if_pos (by rw [hx, h2])]
      rw [e0]
      clear hc hx e0
      subst h1 h2
      go_enter Tryz.func92, Tryz.ntmps92
      go_wp2_with fail
      refine (hp _ h).mono ?_
      rintro e w1 ⟨rfl, hs1⟩
      obtain ⟨k0, k1, k2, l0, l1, l2⟩ := hs1.1.facts
      have hs2 := hs1.1.setAt (i + 1)
      have hg2 := hs1.2.trans (Gr.set (S := fun k => k = b) w1 ⟨b, 1, none⟩ (.int .i64 ((i + 1 : Nat) : Int)) rfl)
      go_wp2_with fail
      refine (hp2 _ hs2).mono ?_
      rintro e w3 ⟨rfl, hs3⟩
      go_wp2_with fail
      refine (misplaced_c _ b s (i + 1) n hs3.1).mono ?_
      rintro e w4 ⟨rfl, hs4⟩
      go_wp2_with fail
      exact ⟨rfl, rfl, (hg2.trans hs3.2).trans hs4.2⟩
    · have h2' : (x == 48) = false := by simpa using h2
      have e0 : itg s i = match dgs s (i + 1) with | .error j => .error j | .ok j => .ok (negV (dvx s (i + 1) j), j) := by
        rw [itg, if_pos (by rw [hc, h1]), if_neg (by rw [hx]; exact h2)]
      rw [e0]
      have hu0 : Hid (bt s i = 45) := by rw [pk, if_pos hlt] at hc; exact hc.trans h1
      clear hc hx e0 h2
      subst h1
      have hdg := fun W h => digits_c W b s (i + 1) n h hs (by omega)
      have hok := @dgs_dig s (i + 1)
      have hok2 := @dgs_ok s (i + 1)
      generalize dgs s (i + 1) = r at hdg hok hok2 ⊢
      rcases r with j | j
      · clear hok hok2
        simp only [EndS, EndI] at hdg ⊢
        go_enter Tryz.func92, Tryz.ntmps92
        go_wp2_with fail
        refine (hp _ h).mono ?_
        rintro e w1 ⟨rfl, hs1⟩
        obtain ⟨k0, k1, k2, l0, l1, l2⟩ := hs1.1.facts
        have hs2 := hs1.1.setAt (i + 1)
        have hg2 := hs1.2.trans (Gr.set (S := fun k => k = b) w1 ⟨b, 1, none⟩ (.int .i64 ((i + 1 : Nat) : Int)) rfl)
        go_wp2_with fail
        refine (hp2 _ hs2).mono ?_
        rintro e w3 ⟨rfl, hs3⟩
        go_wp2_with fail
        refine (hdg _ hs3.1).mono ?_
        rintro e w4 ⟨rfl, hg4⟩
        exact ⟨rfl, rfl, (hg2.trans hs3.2).trans hg4⟩
      · obtain ⟨d1, d2, d3⟩ := hok (by omega) rfl
        obtain ⟨g1, g2, g3, g4⟩ := hok2 (by omega) rfl
        have hpi : Hid (∀ W, Er W → Calls Tryz.prog 113 #[.string (s.extract i j), .int .i64 10, .int .i64 64] W fun e w' => (∃ x, e = .returned (tup (negV (dvx s (i + 1) j)) x)) ∧ Gr (fun _ => False) W w') := fun W hE =>
          pi_neg W (s.extract i j) (s.extract (i + 1) j) (by rw [size_ext s i j g3]; omega) (by rw [size_ext s i j g3]; omega) (by rw [bt_ext s i j 0 g3 (by omega)]; exact hu0.out) (ext_ext s i j g3) d1 d2 d3 hE
        have hsl := sl s i j (by omega) g3
        clear hok hok2 d1 d2 d3 g4
        simp only [EndS, EndI] at hdg ⊢
        go_enter Tryz.func92, Tryz.ntmps92
        go_wp2_with fail
        refine (hp _ h).mono ?_
        rintro e w1 ⟨rfl, hs1⟩
        obtain ⟨k0, k1, k2, l0, l1, l2⟩ := hs1.1.facts
        have hs2 := hs1.1.setAt (i + 1)
        have hg2 := hs1.2.trans (Gr.set (S := fun k => k = b) w1 ⟨b, 1, none⟩ (.int .i64 ((i + 1 : Nat) : Int)) rfl)
        go_wp2_with fail
        refine (hp2 _ hs2).mono ?_
        rintro e w3 ⟨rfl, hs3⟩
        go_wp2_with fail
        refine (hdg _ hs3.1).mono ?_
        rintro e w4 ⟨rfl, hs4⟩
        obtain ⟨m0, m1, m2, o0, o1, o2⟩ := hs4.1.facts
        have hg4 := (hg2.trans hs3.2).trans hs4.2
        have hE4 := (hE.gr hg4 (Ne.symm hb4)).gr (Gr.drew w4 (fun _ => False)) (fun e => e)
        go_wp2_with fail
        go_region_with (first | (go_at_call 113; refine (hpi.out _ hE4).mono ?_; rintro e w5 ⟨⟨x5, rfl⟩, hg5⟩))
        all_goals (go_wp2_with fail; go_ret; exact ⟨rfl, hs4.1.gr ((Gr.drew w4 (fun _ => False)).trans hg5) (fun e => e), hg4.trans (((Gr.drew w4 (fun _ => False)).trans hg5).mono (fun _ _ e => e.elim))⟩)
  · have h1' : (c == 45) = false := by simpa using h1
    have e0 : itg s i = match dgs s i with | .error j => .error j | .ok j => .ok (posV (dvx s i j), j) := by
      rw [itg, if_neg (by rw [hc]; exact h1)]
    rw [e0]
    clear hc e0 h1
    have hdg := fun W h => digits_c W b s i n h hs (by omega)
    have hok := @dgs_dig s i
    have hok2 := @dgs_ok s i
    generalize dgs s i = r at hdg hok hok2 ⊢
    rcases r with j | j
    · clear hok hok2
      simp only [EndS, EndI] at hdg ⊢
      go_enter Tryz.func92, Tryz.ntmps92
      go_wp2_with fail
      refine (hp _ h).mono ?_
      rintro e w1 ⟨rfl, hs1⟩
      go_wp2_with fail
      refine (hdg _ hs1.1).mono ?_
      rintro e w4 ⟨rfl, hg4⟩
      exact ⟨rfl, rfl, hs1.2.trans hg4⟩
    · obtain ⟨d1, d2, d3⟩ := hok (by omega) rfl
      obtain ⟨g1, g2, g3, g4⟩ := hok2 (by omega) rfl
      have hpi : Hid (∀ W, Er W → Calls Tryz.prog 113 #[.string (s.extract i j), .int .i64 10, .int .i64 64] W fun e w' => (∃ x, e = .returned (tup (posV (dvx s i j)) x)) ∧ Gr (fun _ => False) W w') := fun W hE =>
        pi_pos W (s.extract i j) d1 d2 d3 hE
      have hsl := sl s i j (by omega) g3
      clear hok hok2 d1 d2 d3 g4
      simp only [EndS, EndI] at hdg ⊢
      go_enter Tryz.func92, Tryz.ntmps92
      go_wp2_with fail
      refine (hp _ h).mono ?_
      rintro e w1 ⟨rfl, hs1⟩
      go_wp2_with fail
      refine (hdg _ hs1.1).mono ?_
      rintro e w4 ⟨rfl, hs4⟩
      obtain ⟨m0, m1, m2, o0, o1, o2⟩ := hs4.1.facts
      have hg4 := hs1.2.trans hs4.2
      have hE4 := (hE.gr hg4 (Ne.symm hb4)).gr (Gr.drew w4 (fun _ => False)) (fun e => e)
      go_wp2_with fail
      go_region_with (first | (go_at_call 113; refine (hpi.out _ hE4).mono ?_; rintro e w5 ⟨⟨x5, rfl⟩, hg5⟩))
      all_goals (go_wp2_with fail; go_ret; exact ⟨rfl, hs4.1.gr ((Gr.drew w4 (fun _ => False)).trans hg5) (fun e => e), hg4.trans (((Gr.drew w4 (fun _ => False)).trans hg5).mono (fun _ _ e => e.elim))⟩)
end Go.Proofs.YtdmichjhmfinpaaGreatDoor
