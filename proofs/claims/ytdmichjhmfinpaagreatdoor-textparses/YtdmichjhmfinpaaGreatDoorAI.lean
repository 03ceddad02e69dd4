/-
  The reference's reader: a number.
-/
import Derived.Test.YtdmichjhmfinpaaGreatDoorAH
set_option linter.unusedVariables false
set_option linter.unusedSimpArgs false
namespace Go.Proofs.YtdmichjhmfinpaaGreatDoor
open Go.RowKit Go.Maps

/-- The number that k digits from i on make. -/
def dvs (s : ByteArray) (i : Nat) : Nat → Int
  | 0 => 0
  | k + 1 => dvs s i k * 10 + (bt s (i + k) - 48)
theorem dva_ext (s : ByteArray) (i j : Nat) (hj : j ≤ s.size) : ∀ k, k ≤ j - i → dva (s.extract i j) k = dvs s i k
  | 0, _ => rfl
  | k + 1, h => by rw [dva, dvs, dva_ext s i j hj k (by omega), bt_ext s i j k hj (by omega)]
theorem dvx_eq (s : ByteArray) (i j : Nat) (hj : j ≤ s.size) : dvx s i j = dvs s i (j - i) := by
  rw [dvx, size_ext s i j hj, dva_ext s i j hj _ (Nat.le_refl _)]

/-- What the reference knows behind k digits: the number, where 64 bits hold it. -/
def NumI (s : ByteArray) (i k : Nat) (b : Int) (t : Bool) : Prop := t = decide (dvs s i k ≤ 18446744073709551615) ∧ (t = true → b = dvs s i k) ∧ 0 ≤ dvs s i k
/-- One digit more. -/
def StepI (b x : Int) (t : Bool) (b' : Int) (t' : Bool) : Prop := (t = false → t' = false) ∧ (t = true → t' = decide (b * 10 + (x - 48) ≤ 18446744073709551615) ∧ (t' = true → b' = b * 10 + (x - 48)))
theorem numI_step {s : ByteArray} {i k : Nat} {b x b' : Int} {t t' : Bool} (hx : bt s (i + k) = x) (h1 : 48 ≤ x) (h2 : x ≤ 57) (h : NumI s i k b t) (hs : StepI b x t b' t') : NumI s i (k + 1) b' t' := by
  obtain ⟨a1, a2, a3⟩ := h
  obtain ⟨b1, b2⟩ := hs
  unfold NumI
  rw [dvs, hx]
  cases t with
  | false =>
    have e := b1 rfl
    subst e
    have : ¬ dvs s i k ≤ 18446744073709551615 := by simpa using a1.symm
    exact ⟨(by symm; simp; omega), fun h => (by cases h), by omega⟩
  | true =>
    have e := a2 rfl
    obtain ⟨b3, b4⟩ := b2 rfl
    rw [← e]
    rw [← e] at a3
    exact ⟨b3, b4, by omega⟩

set_option maxRecDepth 200000 in
set_option maxHeartbeats 1600000 in
theorem number_c (s : ByteArray) (hs : s.size ≤ 65536) (i n : Nat) (a : Int) (hi : i ≤ s.size) (W : World) :
    Calls Tryz.prog 66 #[sv s i n 0 a] W fun e w' => (match dgs s i with
      | .ok j => ∃ v, e = .returned (.tuple #[sv s j n 0 a, .int .u64 v, .bool (decide (dvx s i j ≤ 18446744073709551615))]) ∧ (dvx s i j ≤ 18446744073709551615 → v = dvx s i j)
      | .error j => e = .returned (.tuple #[sv s j n 41 (j : Int), .int .u64 0, .bool true])) ∧ Gr (fun _ => False) W w' := by
  have hI : (i : Int) ≤ 65536 := by omega
  obtain ⟨c, hc⟩ : ∃ c, pk s i = c := ⟨_, rfl⟩
  have hi1 := fun W => is_c s i n a 48 (by decide) W
  have hb1 := fun W => between_c s i n a 49 57 (by decide) W
  rw [hc] at hi1 hb1
  have Hc := Lib.hid hc
  clear hc
  replace hs := Lib.hid hs
  by_cases h1 : c = 48
  · have hlt : i < s.size := lt_of_pk (by rw [Hc.out, h1]; decide)
    have hI2 : (i : Int) < 65536 := by have := hs.out; omega
    have e : dgs s i = .ok (i + 1) := by
      have hp := Hc.out
      rw [h1] at hp
      rw [dgs, if_neg (by rw [hp]; decide), if_pos hp]
    have hv : dvx s i (i + 1) = 0 := by
      rw [dvx_eq s i (i + 1) hlt, show i + 1 - i = 1 by omega, dvs, dvs]
      have hp := Hc.out
      rw [pk, if_pos hlt, h1] at hp
      show 0 * 10 + (bt s i - 48) = 0
      omega
    rw [e]
    simp only [hv]
    rw [show (c == 48) = true by simp [h1]] at hi1
    clear e hv hlt
    go_enter Tryz.func66, Tryz.ntmps66
    go_wp2_with fail
    generalize hW1 : World.alloc (World.alloc W _) _ = W1
    have hx1 : Sx W W.heap.size s i n 0 a W1 := by
      subst hW1
      refine ⟨?_, ?_, (Gr.alloc _ _ _).trans (Gr.alloc _ _ _)⟩ <;> (simp only [al, World.size_alloc]; repeat (first | rw [if_pos trivial] | rw [if_pos (by omega)] | rw [if_neg (by omega)]))
    clear hW1
    refine (hi1 _).mono ?_
    rintro e w2 ⟨rfl, hg2⟩
    have hst2 := hx1.turn hg2
    obtain ⟨⟨x0, x1, x2, x3, x4⟩, xf⟩ := five hst2.st
    obtain ⟨⟨y0, y1, y2, y3, y4⟩, yf⟩ := five hst2.out
    go_wp2_with fail
    exact bodyPost_ret (v := .tuple #[sv s (i + 1) n 0 a, .int .u64 0, .bool true]) (by simp [results, Tryz.results66, go_sem, y0, y1, y2, y3, y4]) rfl ⟨⟨0, rfl, fun _ => rfl⟩, (hst2.gr.setNew (p := ⟨W.heap.size, 1, none⟩) (Nat.le_refl _)).set5 (Nat.le_succ _) _ _ _ _ _⟩
  have h1' : (c == 48) = false := by simpa using h1
  rw [h1'] at hi1
  by_cases h2 : dig c = true
  · have Hd : Hid (dgs s i = if i + 20 < span dig s i then .error (i + 20) else .ok (span dig s i)) := by
      show dgs s i = _
      rw [dgs, if_neg (by rw [Hc.out, h2]; decide), if_neg (by rw [Hc.out]; exact h1)]
    obtain ⟨r, hr⟩ : ∃ r, r = dgs s i := ⟨_, rfl⟩
    rw [← hr] at Hd ⊢
    have hle := span_le (p := dig) hi
    rw [show btw c 49 57 = true by simp [btw, dig] at h2 ⊢; omega] at hb1
    clear hr h2 h1
    replace hle := Lib.hid hle
    go_enter Tryz.func66, Tryz.ntmps66
    go_wp2_with fail
    generalize hW1 : World.alloc (World.alloc W _) _ = W1
    have hx1 : Sx W W.heap.size s i n 0 a W1 := by
      subst hW1
      refine ⟨?_, ?_, (Gr.alloc _ _ _).trans (Gr.alloc _ _ _)⟩ <;> (simp only [al, World.size_alloc]; repeat (first | rw [if_pos trivial] | rw [if_pos (by omega)] | rw [if_neg (by omega)]))
    clear hW1
    refine (hi1 _).mono ?_
    rintro e w2 ⟨rfl, hg2⟩
    have hst2 := hx1.turn hg2
    obtain ⟨⟨x0, x1, x2, x3, x4⟩, xf⟩ := five hst2.st
    go_wp2_with fail
    refine (hb1 _).mono ?_
    rintro e w3 ⟨rfl, hg3⟩
    have hst3 := hst2.turn hg3
    go_wp2_with fail
    go_loopw [5, 6, 7] (fun u f v wr => ∃ (k : Nat) (b : Int) (t : Bool), k ≤ 20 ∧ u = .int .u64 b ∧ f = .bool t ∧ v = .int .i64 (k : Int) ∧ 0 ≤ b ∧ b ≤ 18446744073709551615 ∧ Hid (NumI s i k b t) ∧ Hid (span dig s i = span dig s (i + k) ∧ i + k ≤ s.size) ∧ Sx W W.heap.size s (i + k) n 0 a wr) (fun _ _ v _ => 21 - (intOf v).toNat)
    case atStart => exact ⟨0, 0, true, by omega, rfl, rfl, rfl, by decide, by decide, ⟨by simp [dvs], fun _ => rfl, by simp [dvs]⟩, ⟨rfl, hi⟩, hst3⟩
    case round =>
      obtain ⟨k, b, t, hk, rfl, rfl, rfl, hb0, hbM, Hn, Hsp, hst⟩ := hrel
      obtain ⟨j, hj⟩ : ∃ j, i + k = j := ⟨_, rfl⟩
      rw [hj] at Hsp hst
      have Hj := Lib.hid hj
      clear hj x0 x1 x2 x3 x4 xf
      have hjI : (j : Int) ≤ 65536 := by have := Hsp.out.2; have := hs.out; omega
      obtain ⟨x, hx⟩ : ∃ x, pk s j = x := ⟨_, rfl⟩
      have hb2 := fun W => between_c s j n a 48 57 (by decide) W
      rw [hx] at hb2
      rw [show btw x 48 57 = dig x from rfl] at hb2
      have Hx := Lib.hid hx
      clear hx
      obtain ⟨⟨x0, x1, x2, x3, x4⟩, xf⟩ := five hst.st
      cases h3 : dig x with
      | false =>
        rw [h3] at hb2
        have hsp : span dig s i = j := by rw [Hsp.out.1]; exact span_no (by rw [Hx.out]; exact h3)
        have e : r = .ok j := by rw [Hd.out, hsp, if_neg (by have := Hj.out; omega)]
        have hdv : dvx s i j = dvs s i k := by rw [dvx_eq s i j Hsp.out.2]; congr 1; have := Hj.out; omega
        have h11 := Hn.out.1
        have h12 := Hn.out.2.1
        rw [← hdv] at h11 h12
        subst e
        have h13 : Hid (dvx s i j ≤ 18446744073709551615 → b = dvx s i j) := fun h => h12 (by rw [h11]; simp [h])
        clear h12
        subst h11
        clear hdv hsp h3
        go_wp2_with fail
        refine (hb2 _).mono ?_
        rintro e w4 ⟨rfl, hg4⟩
        have hst4 := hst.turn hg4
        obtain ⟨⟨x0, x1, x2, x3, x4⟩, xf⟩ := five hst4.st
        obtain ⟨⟨y0, y1, y2, y3, y4⟩, yf⟩ := five hst4.out
        go_wp2_with fail
        exact bodyPost_ret (v := .tuple #[sv s j n 0 a, .int .u64 b, .bool (decide (dvx s i j ≤ 18446744073709551615))]) (by simp [results, Tryz.results66, go_sem, y0, y1, y2, y3, y4]) rfl ⟨⟨b, rfl, h13.out⟩, hst4.gr.set5 (g := W.heap.size + 1) (Nat.le_succ _) _ _ _ _ _⟩
      | true =>
        rw [h3] at hb2
        have hy := span_yes (p := dig) (s := s) (i := j) (by rw [Hx.out]; exact h3) rfl
        by_cases h4 : k = 20
        · subst h4
          have e : r = .error j := by
            have h5 := span_ge dig s (j + 1)
            rw [Hd.out, if_pos (by rw [Hsp.out.1, hy.2]; have := Hj.out; omega)]
            rw [Hj.out]
          subst e
          clear hy h3
          go_wp2_with fail
          refine (hb2 _).mono ?_
          rintro e w4 ⟨rfl, hg4⟩
          have hst4 := hst.turn hg4
          obtain ⟨⟨x0, x1, x2, x3, x4⟩, xf⟩ := five hst4.st
          go_wp2_with fail
          refine (fail_new s j n a (j : Int) 41 _).mono ?_
          rintro e w5 ⟨rfl, hg5⟩
          have hst5 := hst4.turn hg5
          obtain ⟨⟨y0, y1, y2, y3, y4⟩, yf⟩ := five hst5.out
          go_wp2_with fail
          exact bodyPost_ret (v := .tuple #[sv s j n 41 (j : Int), .int .u64 0, .bool true]) (by simp [results, Tryz.results66, go_sem, y0, y1, y2, y3, y4]) rfl ⟨rfl, hst5.gr.set5 (g := W.heap.size + 1) (Nat.le_succ _) _ _ _ _ _⟩
        · have h4' : ((k : Int) == 20) = false := by simp; omega
          have hjI2 : (j : Int) < 65536 := by have := hy.1; have := hs.out; omega
          have hix := ix s j hy.1
          have hxb : bt s j = x := by have := Hx.out; rw [pk, if_pos hy.1] at this; exact this
          rw [hxb] at hix
          have hd1 : 48 ≤ x := by simp [dig] at h3; exact h3.1
          have hd2 : x ≤ 57 := by simp [dig] at h3; exact h3.2
          have hnext : ∀ b' t', NumI s i k b t → StepI b x t b' t' → NumI s i (k + 1) b' t' := fun b' t' h1 h2 => numI_step (by rw [Hj.out]; exact hxb) hd1 hd2 h1 h2
          replace hnext := Lib.hid hnext
          have Hsp2 : Hid (span dig s i = span dig s (i + (k + 1)) ∧ i + (k + 1) ≤ s.size) := by
            have e : i + (k + 1) = j + 1 := by have := Hj.out; omega
            show _ ∧ _
            rw [e]; exact ⟨Hsp.out.1.trans hy.2, hy.1⟩
          clear hy h3 hxb
          go_wp2_with fail
          refine (hb2 _).mono ?_
          rintro e w4 ⟨rfl, hg4⟩
          have hst4 := hst.turn hg4
          obtain ⟨⟨x0, x1, x2, x3, x4⟩, xf⟩ := five hst4.st
          have hst5 : Sx W W.heap.size s (j + 1) n 0 a (w4.setCell ⟨W.heap.size, 1, none⟩ (.int .i64 ((j : Int) + 1))) :=
            ⟨heap_setCell_same w4 _ 1 _ 53 _ hst4.st, (own1 w4 W.heap.size 1 _).keep hst4.out (by omega), hst4.gr.setNew (Nat.le_refl _)⟩
          have hfin : ∀ b' t', 0 ≤ b' → b' ≤ 18446744073709551615 → StepI b x t b' t' → ∃ (k' : Nat) (c' : Int) (q : Bool), k' ≤ 20 ∧ Value.int .u64 b' = .int .u64 c' ∧ Value.bool t' = .bool q ∧ Value.int .i64 ((k : Int) + 1) = .int .i64 (k' : Int) ∧ 0 ≤ c' ∧ c' ≤ 18446744073709551615 ∧ Hid (NumI s i k' c' q) ∧ Hid (span dig s i = span dig s (i + k') ∧ i + k' ≤ s.size) ∧ Sx W W.heap.size s (i + k') n 0 a (w4.setCell ⟨W.heap.size, 1, none⟩ (.int .i64 ((j : Int) + 1))) := fun b' t' q1 q2 q3 =>
            ⟨k + 1, b', t', by omega, rfl, rfl, rfl, q1, q2, hnext.out b' t' Hn.out q3, Hsp2, by have e : i + (k + 1) = j + 1 := (by have := Hj.out; omega); rw [e]; exact hst5⟩
          replace hfin := Lib.hid hfin
          have hms : 21 - (intOf (Value.int .i64 ((k : Int) + 1))).toNat < 21 - (intOf (Value.int .i64 (k : Int))).toNat := by simp [intOf]; omega
          replace hms := Lib.hid hms
          have hwr : ∀ z : Int, 0 ≤ IntKind.u64.wrap z ∧ IntKind.u64.wrap z ≤ 18446744073709551615 := fun z => by rw [IntKind.wrap_u64]; omega
          replace hwr := Lib.hid hwr
          cases t
          · go_wp2_with fail
            exact ⟨hfin.out _ false (hwr.out _).1 (hwr.out _).2 ⟨fun _ => rfl, fun h => (by cases h)⟩, hms.out⟩
          by_cases g1 : b < 1844674407370955161
          · go_wp2_with fail
            exact ⟨hfin.out _ true (by omega) (by omega) ⟨fun h => (by cases h), fun _ => ⟨(by symm; simp; omega), fun _ => rfl⟩⟩, hms.out⟩
          by_cases g2 : b = 1844674407370955161
          · subst g2
            by_cases g3 : x ≤ 53
            · have g3' : decide (x - 48 ≤ 5) = true := by simp; omega
              go_wp2_with fail
              exact ⟨hfin.out _ true (by omega) (by omega) ⟨fun h => (by cases h), fun _ => ⟨(by symm; simp; omega), fun _ => rfl⟩⟩, hms.out⟩
            · have g3' : decide (x - 48 ≤ 5) = false := by simp; omega
              go_wp2_with fail
              exact ⟨hfin.out _ false (hwr.out _).1 (hwr.out _).2 ⟨fun _ => rfl, fun _ => ⟨(by symm; simp; omega), fun h => (by cases h)⟩⟩, hms.out⟩
          · have g4 : (b == 1844674407370955161) = false := by simpa using g2
            have g5 : decide (b < 1844674407370955161) = false := by simpa using g1
            go_wp2_with fail
            exact ⟨hfin.out _ false (hwr.out _).1 (hwr.out _).2 ⟨fun _ => rfl, fun _ => ⟨(by symm; simp; omega), fun h => (by cases h)⟩⟩, hms.out⟩
  · have e : dgs s i = .error i := by rw [dgs, if_pos (by rw [Hc.out]; simpa using h2)]
    rw [e]
    simp only []
    rw [show btw c 49 57 = false by simp [btw, dig] at h2 ⊢; omega] at hb1
    clear e h2 h1
    go_enter Tryz.func66, Tryz.ntmps66
    go_wp2_with fail
    generalize hW1 : World.alloc (World.alloc W _) _ = W1
    have hx1 : Sx W W.heap.size s i n 0 a W1 := by
      subst hW1
      refine ⟨?_, ?_, (Gr.alloc _ _ _).trans (Gr.alloc _ _ _)⟩ <;> (simp only [al, World.size_alloc]; repeat (first | rw [if_pos trivial] | rw [if_pos (by omega)] | rw [if_neg (by omega)]))
    clear hW1
    refine (hi1 _).mono ?_
    rintro e w2 ⟨rfl, hg2⟩
    have hst2 := hx1.turn hg2
    obtain ⟨⟨x0, x1, x2, x3, x4⟩, xf⟩ := five hst2.st
    go_wp2_with fail
    refine (hb1 _).mono ?_
    rintro e w3 ⟨rfl, hg3⟩
    have hst3 := hst2.turn hg3
    obtain ⟨⟨x0, x1, x2, x3, x4⟩, xf⟩ := five hst3.st
    go_wp2_with fail
    refine (fail_new s i n a (i : Int) 41 _).mono ?_
    rintro e w4 ⟨rfl, hg4⟩
    have hst4 := hst3.turn hg4
    obtain ⟨⟨y0, y1, y2, y3, y4⟩, yf⟩ := five hst4.out
    go_wp2_with fail
    exact bodyPost_ret (v := .tuple #[sv s i n 41 (i : Int), .int .u64 0, .bool true]) (by simp [results, Tryz.results66, go_sem, y0, y1, y2, y3, y4]) rfl ⟨rfl, hst4.gr.set5 (g := W.heap.size + 1) (Nat.le_succ _) _ _ _ _ _⟩
end Go.Proofs.YtdmichjhmfinpaaGreatDoor
