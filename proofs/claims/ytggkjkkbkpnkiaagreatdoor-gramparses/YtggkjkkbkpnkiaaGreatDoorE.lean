/-
  Carried over from another seat of ours (E).
-/
import Derived.Test.YtggkjkkbkpnkiaaGreatDoorD
set_option linter.unusedVariables false
set_option linter.unusedSimpArgs false
namespace Go.Proofs.YtggkjkkbkpnkiaaGreatDoor
open Go.RowKit

/-- How a name ends: the place behind it, if it is no longer than 32 bytes. -/
def EndN (W : World) (b : Nat) (s : ByteArray) (i j : Nat) (e : Ending) (w' : World) : Prop :=
  if 32 < j - i then e = .returned (.tuple #[.string ⟨#[]⟩, .int .i64 153]) ∧ Gr (fun k => k = b) W w'
  else e = .returned (.tuple #[.string (s.extract i j), .int .i64 0]) ∧ St W b s w' j

set_option maxRecDepth 20000 in
set_option maxHeartbeats 1600000 in
theorem name_c (W : World) (b : Nat) (s : ByteArray) (i : Nat) (h : Rd W b s i) (hs : s.size ≤ 65536) (hlo : inN (pk s i) = true) :
    Calls Tryz.prog 31 #[pt b] W fun e w' => EndN W b s i (span inN s i) e w' := by
  have hsI : (s.size : Int) ≤ 65536 := by omega
  obtain ⟨c0, c1, f0, f1⟩ := h.facts
  have hy := span_yes (p := inN) hlo rfl
  have hi : i ≤ s.size := by omega
  have hj1 : Hid (i + 1 ≤ span inN s i) := by
    show _ ≤ _
    rw [hy.2]; exact span_ge inN s (i + 1)
  have hj2 : Hid (span inN s i ≤ s.size) := span_le hi
  clear hlo hs hy
  obtain ⟨j, hj⟩ : ∃ j, span inN s i = j := ⟨_, rfl⟩
  rw [hj] at hj1 hj2 ⊢
  have Hj := Lib.hid hj
  clear hj
  go_enter Tryz.func31, Tryz.ntmps31
  go_wp2_with fail
  go_loopw [9] (fun _ wr => ∃ k : Nat, i + k ≤ s.size ∧ Hid (j = span inN s (i + k)) ∧ St W b s wr (i + k)) (fun _ wr => s.size - atOf wr b)
  case atStart => exact ⟨0, by omega, Hj.out.symm, h, Gr.refl _ _⟩
  case round =>
    obtain ⟨k, hik, Hsp, hst⟩ := hrel
    have Hat := Lib.hid hst.1.atOf
    clear c0 c1 f0 f1
    have hp2 := fun W h => peek_c W b s (i + k) h
    obtain ⟨x, hx⟩ : ∃ x, pk s (i + k) = x := ⟨_, rfl⟩
    rw [hx] at hp2
    have Hx := Lib.hid hx
    clear hx
    by_cases h3 : inN x = false
    · have he : j = i + k := by rw [Hsp.out]; exact span_no (by rw [Hx.out]; exact h3)
      subst he
      have hes : (s.extract i (i + k)).size = k := by rw [ByteArray.size_extract]; omega
      have hcl := fun w => clone_c (s.extract i (i + k)) w (by rw [hes]; have := hj1.out; omega) (by rw [hes]; omega)
      have hik2 : ((i : Int) + k) ≤ 65536 := by omega
      clear hes
      by_cases h4 : 32 < k
      · have h4' : decide (32 < ((i : Int) + k) - i) = true := by simp; omega
        replace h4 := Lib.hid h4
        go_wp2_with fail
        refine (hp2 _ hst.1).mono ?_
        rintro e w3 ⟨rfl, hs3⟩
        obtain ⟨k0, k1, l0, l1⟩ := hs3.1.facts
        go_wp2_with (first | (go_at_call 42; refine (inName_c _ _).mono ?_; rintro e w4 ⟨rfl, rfl⟩))
        go_ret2
        rw [EndN, if_pos (by have := h4.out; omega)]
        exact ⟨rfl, hst.2.trans hs3.2⟩
      · have h4' : decide (32 < ((i : Int) + k) - i) = false := by simp; omega
        replace h4 := Lib.hid h4
        have hsl := sl s i (i + k) (by omega) hik
        go_wp2_with fail
        refine (hp2 _ hst.1).mono ?_
        rintro e w3 ⟨rfl, hs3⟩
        obtain ⟨k0, k1, l0, l1⟩ := hs3.1.facts
        go_wp2_with (first | (go_at_call 42; refine (inName_c _ _).mono ?_; rintro e w4 ⟨rfl, rfl⟩))
        go_region_with (first | (go_at_call 44; refine (hcl _).mono ?_; rintro e w5 ⟨rfl, hg5⟩))
        all_goals (go_wp2_with fail; go_ret2; rw [EndN, if_neg (by have := h4.out; omega)]; exact ⟨rfl, hs3.1.gr ((Gr.drew w3 (fun _ => False)).trans hg5) (fun e => e), hst.2.trans (hs3.2.trans (((Gr.drew w3 (fun _ => False)).trans hg5).any _))⟩)
    · have h3' : inN x = true := by simpa using h3
      clear h3
      have hlt3 := (span_yes (p := inN) (s := s) (i := i + k) (by rw [Hx.out]; exact h3') rfl).1
      have hsp3 : Hid (span inN s (i + k) = span inN s (i + k + 1)) := (span_yes (p := inN) (s := s) (i := i + k) (by rw [Hx.out]; exact h3') rfl).2
      have h5 : ((i : Int) + k) < 65536 := by omega
      go_wp2_with fail
      refine (hp2 _ hst.1).mono ?_
      rintro e w3 ⟨rfl, hs3⟩
      obtain ⟨k0, k1, l0, l1⟩ := hs3.1.facts
      go_wp2_with (first | (go_at_call 42; refine (inName_c _ _).mono ?_; rintro e w4 ⟨rfl, rfl⟩))
      have h7 : Rd (w3.setCell ⟨b, 1, none⟩ (.int .i64 ((i : Int) + k + 1))) b s (i + (k + 1)) := hs3.1.setAt (i + (k + 1))
      exact ⟨⟨k + 1, by omega, by show _ = _; rw [Hsp.out]; exact hsp3.out, h7, (hst.2.trans hs3.2).trans (Gr.set _ _ _ rfl)⟩, by rw [h7.atOf, Hat.out]; omega⟩

/-- The number that the digits from i up to j make. -/
def dvx (s : ByteArray) (i j : Nat) : Int := dva (s.extract i j) (s.extract i j).size
/-- How an int ends whose digits end at j. -/
def EndI (W : World) (b : Nat) (s : ByteArray) (i j : Nat) (e : Ending) (w' : World) : Prop :=
  if 4611686018427387903 < dvx s i j ∨ inN (pk s j) = true then e = .returned (.tuple #[.int .i64 0, .int .i64 152]) ∧ Gr (fun k => k = b) W w'
  else e = .returned (.tuple #[.int .i64 (dvx s i j), .int .i64 0]) ∧ St W b s w' j

set_option maxRecDepth 20000 in
set_option maxHeartbeats 1600000 in
theorem integer_c (W : World) (b : Nat) (s : ByteArray) (i : Nat) (h : Rd W b s i) (hs : s.size ≤ 65536) (hlo : dig (pk s i) = true) (hE : Er W) (hb4 : b ≠ 3) :
    Calls Tryz.prog 27 #[pt b] W fun e w' => EndI W b s i (span dig s i) e w' := by
  have hsI : (s.size : Int) ≤ 65536 := by omega
  obtain ⟨c0, c1, f0, f1⟩ := h.facts
  have hy := span_yes (p := dig) hlo rfl
  have hi : i ≤ s.size := by omega
  have hj1 : Hid (i + 1 ≤ span dig s i) := by
    show _ ≤ _
    rw [hy.2]; exact span_ge dig s (i + 1)
  have hj2 : Hid (span dig s i ≤ s.size) := span_le hi
  have hja : Hid (∀ k, i ≤ k → k < span dig s i → dig (bt s k) = true) := span_all
  clear hlo hs hy
  obtain ⟨j, hj⟩ : ∃ j, span dig s i = j := ⟨_, rfl⟩
  rw [hj] at hj1 hj2 hja ⊢
  have Hj := Lib.hid hj
  clear hj
  go_enter Tryz.func27, Tryz.ntmps27
  go_wp2_with fail
  go_loopw [11] (fun _ wr => ∃ k : Nat, i + k ≤ s.size ∧ Hid (j = span dig s (i + k)) ∧ St W b s wr (i + k)) (fun _ wr => s.size - atOf wr b)
  case atStart => exact ⟨0, by omega, Hj.out.symm, h, Gr.refl _ _⟩
  case round =>
    obtain ⟨k, hik, Hsp, hst⟩ := hrel
    have Hat := Lib.hid hst.1.atOf
    clear c0 c1 f0 f1
    have hp2 := fun W h => peek_c W b s (i + k) h
    obtain ⟨x, hx⟩ : ∃ x, pk s (i + k) = x := ⟨_, rfl⟩
    rw [hx] at hp2
    have Hx := Lib.hid hx
    by_cases h3 : dig x = false
    · have he : j = i + k := by rw [Hsp.out]; exact span_no (by rw [Hx.out]; exact h3)
      subst he
      have hes : (s.extract i (i + k)).size = k := by rw [ByteArray.size_extract]; omega
      have hD : ∀ m, m < (s.extract i (i + k)).size → dig (bt (s.extract i (i + k)) m) = true := fun m hm => by
        rw [hes] at hm
        rw [bt_ext s i (i + k) m hik (by omega)]
        exact hja.out (i + m) (by omega) (by omega)
      have hcl := fun w (hE : Er w) => pi_pos w (s.extract i (i + k)) (by rw [hes]; have := hj1.out; omega) (by rw [hes]; omega) hD hE
      have hv0 := dva_nonneg hD _ (Nat.le_refl _)
      have hE3 : ∀ w, St W b s w (i + k) → Er w := fun w hw => hE.gr hw.2 (fun e => hb4 e.symm)
      change 0 ≤ dvx s i (i + k) at hv0
      change ∀ w, Er w → Calls Tryz.prog 41 _ w fun e w' => (∃ x, e = .returned (tup (posV (dvx s i (i + k))) x)) ∧ _ at hcl
      obtain ⟨v, hv⟩ : ∃ v, dvx s i (i + k) = v := ⟨_, rfl⟩
      rw [hv] at hcl hv0
      have Hv := Lib.hid hv
      clear hv
      have hsl := sl s i (i + k) (by omega) hik
      have hik2 : ((i : Int) + k) ≤ 65536 := by omega
      have hin := fun w => inName_c x w
      obtain ⟨z, hz⟩ : ∃ z, posV v = z := ⟨_, rfl⟩
      rw [hz] at hcl
      clear hes hx hD
      replace hE3 := Lib.hid hE3
      by_cases h4 : 4611686018427387903 < v
      · have hq : Hid (4611686018427387903 < v ∨ inN x = true) := .inl h4
        have h4z : 4611686018427387903 < z := by rw [← hz, posV]; split <;> omega
        clear hz h4
        go_wp2_with fail
        refine (hp2 _ hst.1).mono ?_
        rintro e w3 ⟨rfl, hs3⟩
        obtain ⟨k0, k1, l0, l1⟩ := hs3.1.facts
        have hE4 := hE3.out _ (hst.trans hs3)
        go_wp2_with (first | (go_at_call 26; refine (digit_c _ _).mono ?_; rintro e w4 ⟨rfl, rfl⟩))
        go_region_with (first | (go_at_call 41; refine (hcl _ (hE4.gr (Gr.drew w3 (fun _ => False)) (fun e => e))).mono ?_; rintro e w5 ⟨⟨q, rfl⟩, hg5⟩))
        all_goals (go_wp2_with fail; go_ret2; rw [EndI, Hv.out, Hx.out, if_pos hq.out]; exact ⟨rfl, hst.2.trans (hs3.2.trans (((Gr.drew w3 (fun _ => False)).trans hg5).any _))⟩)
      · have hzv : z = v := by rw [← hz, posV]; split <;> omega
        subst hzv
        have h4z : decide (4611686018427387903 < z) = false := by simp; omega
        cases h5 : inN x
        · have hq : Hid (¬ (4611686018427387903 < z ∨ inN x = true)) := fun e => by rcases e with e | e; exact h4 e; rw [h5] at e; cases e
          rw [h5] at hin
          clear hz h4 h5
          go_wp2_with fail
          refine (hp2 _ hst.1).mono ?_
          rintro e w3 ⟨rfl, hs3⟩
          obtain ⟨k0, k1, l0, l1⟩ := hs3.1.facts
          have hE4 := hE3.out _ (hst.trans hs3)
          go_wp2_with (first | (go_at_call 26; refine (digit_c _ _).mono ?_; rintro e w4 ⟨rfl, rfl⟩))
          go_region_with (first | (go_at_call 41; refine (hcl _ (hE4.gr (Gr.drew w3 (fun _ => False)) (fun e => e))).mono ?_; rintro e w5 ⟨⟨q, rfl⟩, hg5⟩))
          all_goals
            have hs5 : St W b s w5 (i + k) := ⟨hs3.1.gr ((Gr.drew w3 (fun _ => False)).trans hg5) (fun e => e), hst.2.trans (hs3.2.trans (((Gr.drew w3 (fun _ => False)).trans hg5).any _))⟩
            go_wp2_with fail
            refine (hp2 _ hs5.1).mono ?_
            rintro e w6 ⟨rfl, hs6⟩
            go_wp2_with fail
            refine (hin _).mono ?_
            rintro e w7 ⟨rfl, rfl⟩
            go_wp2_with fail
            go_ret2
            rw [EndI, Hv.out, Hx.out, if_neg hq.out]
            exact ⟨rfl, hs5.trans hs6⟩
        · have hq : Hid (4611686018427387903 < z ∨ inN x = true) := .inr h5
          rw [h5] at hin
          clear hz h4 h5
          go_wp2_with fail
          refine (hp2 _ hst.1).mono ?_
          rintro e w3 ⟨rfl, hs3⟩
          obtain ⟨k0, k1, l0, l1⟩ := hs3.1.facts
          have hE4 := hE3.out _ (hst.trans hs3)
          go_wp2_with (first | (go_at_call 26; refine (digit_c _ _).mono ?_; rintro e w4 ⟨rfl, rfl⟩))
          go_region_with (first | (go_at_call 41; refine (hcl _ (hE4.gr (Gr.drew w3 (fun _ => False)) (fun e => e))).mono ?_; rintro e w5 ⟨⟨q, rfl⟩, hg5⟩))
          all_goals
            have hs5 : St W b s w5 (i + k) := ⟨hs3.1.gr ((Gr.drew w3 (fun _ => False)).trans hg5) (fun e => e), hst.2.trans (hs3.2.trans (((Gr.drew w3 (fun _ => False)).trans hg5).any _))⟩
            go_wp2_with fail
            refine (hp2 _ hs5.1).mono ?_
            rintro e w6 ⟨rfl, hs6⟩
            go_wp2_with fail
            refine (hin _).mono ?_
            rintro e w7 ⟨rfl, rfl⟩
            go_wp2_with fail
            go_ret2
            rw [EndI, Hv.out, Hx.out, if_pos hq.out]
            exact ⟨rfl, hs5.2.trans hs6.2⟩
    · have h3' : dig x = true := by simpa using h3
      clear h3 hx
      have hlt3 := (span_yes (p := dig) (s := s) (i := i + k) (by rw [Hx.out]; exact h3') rfl).1
      have hsp3 : Hid (span dig s (i + k) = span dig s (i + k + 1)) := (span_yes (p := dig) (s := s) (i := i + k) (by rw [Hx.out]; exact h3') rfl).2
      have h5 : ((i : Int) + k) < 65536 := by omega
      go_wp2_with fail
      refine (hp2 _ hst.1).mono ?_
      rintro e w3 ⟨rfl, hs3⟩
      obtain ⟨k0, k1, l0, l1⟩ := hs3.1.facts
      go_wp2_with (first | (go_at_call 26; refine (digit_c _ _).mono ?_; rintro e w4 ⟨rfl, rfl⟩))
      have h7 : Rd (w3.setCell ⟨b, 1, none⟩ (.int .i64 ((i : Int) + k + 1))) b s (i + (k + 1)) := hs3.1.setAt (i + (k + 1))
      exact ⟨⟨k + 1, by omega, by show _ = _; rw [Hsp.out]; exact hsp3.out, h7, (hst.2.trans hs3.2).trans (Gr.set _ _ _ rfl)⟩, by rw [h7.atOf, Hat.out]; omega⟩
end Go.Proofs.YtggkjkkbkpnkiaaGreatDoor



