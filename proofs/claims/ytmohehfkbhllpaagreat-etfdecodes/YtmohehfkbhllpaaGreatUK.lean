/-
  The reference's reader: a new name with too few bytes.
  The reference's reader: a new name that is none, or is known already.
-/
import Derived.Test.YtmohehfkbhllpaaGreatUG
import Derived.Deep.RegionHeld3
set_option linter.unusedVariables false
set_option linter.unusedSimpArgs false
namespace Go.Proofs.YtmohehfkbhllpaaGreat
open Go.RowKit Go.Maps
variable {S S' Z : Nat → Prop} {W W1 W' : World}
set_option maxRecDepth 20000 in
set_option maxHeartbeats 1600000 in
theorem name_C2b (ba : Option Addr) (bc : Nat) (na : Option Addr) (nc : Nat) (m : List Int) (l : List ByteArray) (i n : Nat) (hi : i ≤ m.length) (hl96 : l.length < 4096) (W : World) (hq : Sq Z W (.slice ba m.length bc) m) (hs : Snap W (.slice na l.length nc) l) (q : Nat) (r : List Int) (hb : nmb 10 0 0 (m.drop i) = .ok (l.length, (q : Int) :: r)) (hq1 : 1 ≤ q) (hq2 : q ≤ 32) (hsh : r.length < q) : Calls Tryz.prog 36 #[sv (.slice ba m.length bc) i n (.slice na l.length nc) 0] W fun e w' => (∃ (j : Nat) (s : ByteArray), e = .returned (.tuple #[sv (.slice ba m.length bc) j n (.slice na l.length nc) 72, .string s])) ∧ Gr (fun _ => False) W w' := by
  have hx := Lib.hid (Sx.new W (.slice ba m.length bc) (.slice na l.length nc) i n 0)
  have Hq := Lib.hid (fun w (g : Gr (fun _ => False) W w) => hq.gr g (fun _ _ e => e))
  have Hs := Lib.hid (fun w (g : Gr (fun _ => False) W w) => hs.gr g (fun _ _ e => e))
  have hml : (m.length : Int) ≤ 9223372036854775807 := by obtain ⟨_, _, e, h1, h2, _⟩ := hq; cases e; omega
  have hml0 : (0 : Int) ≤ (m.length : Int) := by omega
  have hll : (l.length : Int) < 4096 := by omega
  have hll0 : (0 : Int) ≤ (l.length : Int) := by omega
  have hw := Lib.hid (fun w g => wide_c ba bc na l.length nc m i n hi w (Hq.out w g))
  rw [hb] at hw
  have hby := Lib.hid hq.byte
  clear hq hs hl96 hi hb
  go_enter Tryz.func36, Tryz.ntmps36
  go_wp2_with fail
  generalize hW1 : World.alloc (World.alloc W _) _ = W1
  have H0 : Hid (Sx W W.heap.size (.slice ba m.length bc) (.slice na l.length nc) i n 0 W1) := Lib.hid (hW1 ▸ hx.out)
  clear hW1 hx
  refine (hw.out _ H0.out.gr).mono ?_
  rintro e w1 ⟨he, g1⟩
  have s1 := H0.out.turn g1
  obtain ⟨j, hj, hjr, hu, rfl⟩ := he
  have Hj := Lib.hid hj
  have Hjr := Lib.hid hjr
  have hu0 : (0 : Int) ≤ (l.length : Int) := by omega
  have huI : (l.length : Int) < 18446744073709551616 := by omega
  clear hj hjr hu
  have hle : decide (l.length ≤ l.length) = true := by simp
  have hltb : decide (l.length < l.length) = false := by simp
  have hjl : j < m.length := by have h1 := Hj.out; have h2 := congrArg List.length Hjr.out; simp at h2; omega
  have hmx : m[j]? = some (q : Int) := by have h2 := congrArg (fun y => y[0]?) Hjr.out; simpa [List.getElem?_drop] using h2
  have hmr : Hid (m.drop (j + 1) = r) := Lib.hid (by have h2 := congrArg List.tail Hjr.out; simpa [List.tail_drop] using h2)
  have hbx := hby.out (q : Int) (List.mem_of_getElem? hmx)
  have hj1 : Hid (j + 1 ≤ m.length) := Lib.hid hjl
  have h1j := Lib.hid (fun w g => rone_ok ba bc na l.length nc j n m (q : Int) hmx w (Hq.out w g))
  clear hmx hjl
  have hq1I : (1 : Int) ≤ (q : Int) := by omega
  have hq2I : (q : Int) ≤ 32 := by omega
  have h5 := Lib.hid (fun w g => (some_c ba bc na l.length nc m (j + 1) n q hj1.out (by omega) w (Hq.out w g)).mono (R' := fun e w' => (∃ (jz : Nat) (ua : Option Addr) (uc : Nat) (lz : List Int), e = .returned (.tuple #[sv (.slice ba m.length bc) jz n (.slice na l.length nc) 72, .slice ua lz.length uc]) ∧ Ob (w.heap.size + 2) w' (.slice ua lz.length uc) lz) ∧ Gr (fun _ => False) w w') (fun e w' h => by
    obtain ⟨h1, h2⟩ := h
    unfold EndS at h1
    rw [if_neg (by have := hmr.out; have h3 := congrArg List.length this; simp at h3; omega)] at h1
    obtain ⟨jz, u, lz, he, hob⟩ := h1
    obtain ⟨ua, uc, rfl⟩ := hob.sv
    exact ⟨⟨jz, ua, uc, lz, he, hob⟩, h2⟩))
  clear hsh hq1 hq2
  obtain ⟨⟨p0, p1, p2, p3, p4⟩, d0, d1, d2, d3, d4⟩ := five s1.st
  obtain ⟨⟨q0, q1, q2, q3, q4⟩, f0, f1, f2, f3, f4⟩ := five s1.out
  have hl := (Array.getElem?_eq_some_iff.1 s1.st).1
  have hlo := (Array.getElem?_eq_some_iff.1 s1.out).1
  have H1 := Lib.hid (s1.setI (Nat.le_refl _) (.slice ba m.length bc) (.slice na l.length nc) j n 0 ((j : Nat) : Int) (by simp))
  clear s1 H0
  go_wp2_with fail
  generalize World.setCell (World.setCell (World.setCell (World.setCell (World.setCell w1 _ _) _ _) _ _) _ _) _ _ = X1 at H1 ⊢
  clear p0 p1 p2 p3 p4 d0 d1 d2 d3 d4 q0 q1 q2 q3 q4 f0 f1 f2 f3 f4 hl hlo
  refine (must_yes ba m.length bc na l.length nc j n 0 _).mono ?_
  rintro e w2 ⟨rfl, g2⟩
  have s2 := H1.out.turn g2
  obtain ⟨⟨p0, p1, p2, p3, p4⟩, d0, d1, d2, d3, d4⟩ := five s2.st
  obtain ⟨⟨q0, q1, q2, q3, q4⟩, f0, f1, f2, f3, f4⟩ := five s2.out
  have hl := (Array.getElem?_eq_some_iff.1 s2.st).1
  have hlo := (Array.getElem?_eq_some_iff.1 s2.out).1
  have H2 := Lib.hid (s2.setI (Nat.le_refl _) (.slice ba m.length bc) (.slice na l.length nc) j n 0 ((j : Nat) : Int) (by simp))
  clear s2 H1
  go_wp2_with fail
  generalize World.setCell (World.setCell (World.setCell (World.setCell (World.setCell w2 _ _) _ _) _ _) _ _) _ _ = X2 at H2 ⊢
  clear p0 p1 p2 p3 p4 d0 d1 d2 d3 d4 q0 q1 q2 q3 q4 f0 f1 f2 f3 f4 hl hlo
  refine (h1j.out _ H2.out.gr).mono ?_
  rintro e w3 ⟨rfl, g3⟩
  have s3 := H2.out.turn g3
  obtain ⟨⟨p0, p1, p2, p3, p4⟩, d0, d1, d2, d3, d4⟩ := five s3.st
  obtain ⟨⟨q0, q1, q2, q3, q4⟩, f0, f1, f2, f3, f4⟩ := five s3.out
  have hl := (Array.getElem?_eq_some_iff.1 s3.st).1
  have hlo := (Array.getElem?_eq_some_iff.1 s3.out).1
  have H3 := Lib.hid (s3.setI (Nat.le_refl _) (.slice ba m.length bc) (.slice na l.length nc) (j + 1) n 0 ((j : Int) + 1) (by simp))
  clear s3 H2
  go_wp2_with fail
  generalize World.setCell (World.setCell (World.setCell (World.setCell (World.setCell w3 _ _) _ _) _ _) _ _) _ _ = X3 at H3 ⊢
  clear p0 p1 p2 p3 p4 d0 d1 d2 d3 d4 q0 q1 q2 q3 q4 f0 f1 f2 f3 f4 hl hlo
  refine (must_yes ba m.length bc na l.length nc (j + 1) n 0 _).mono ?_
  rintro e w4 ⟨rfl, g4⟩
  have s4 := H3.out.turn g4
  obtain ⟨⟨p0, p1, p2, p3, p4⟩, d0, d1, d2, d3, d4⟩ := five s4.st
  obtain ⟨⟨q0, q1, q2, q3, q4⟩, f0, f1, f2, f3, f4⟩ := five s4.out
  have hl := (Array.getElem?_eq_some_iff.1 s4.st).1
  have hlo := (Array.getElem?_eq_some_iff.1 s4.out).1
  have H4 := Lib.hid (s4.setI (Nat.le_refl _) (.slice ba m.length bc) (.slice na l.length nc) (j + 1) n 0 ((j : Int) + 1) (by simp))
  clear s4 H3
  go_wp2_with fail
  generalize World.setCell (World.setCell (World.setCell (World.setCell (World.setCell w4 _ _) _ _) _ _) _ _) _ _ = X4 at H4 ⊢
  clear p0 p1 p2 p3 p4 d0 d1 d2 d3 d4 q0 q1 q2 q3 q4 f0 f1 f2 f3 f4 hl hlo
  have hXl := (Array.getElem?_eq_some_iff.1 H4.out.st).1
  refine (h5.out _ H4.out.gr).mono ?_
  rintro e w5 ⟨⟨jz, ua, uc, lz, rfl, hob⟩, g5⟩
  have s5 := H4.out.turn g5
  have hcv : (convert 22 9 (.slice ua lz.length uc)).run Tryz.prog ((((((w5).setCell ⟨W.heap.size, 0, none⟩ (.slice ba m.length bc)).setCell ⟨W.heap.size, 1, none⟩ (.int .i64 ((jz : Nat) : Int))).setCell ⟨W.heap.size, 2, none⟩ (.int .i64 (n : Int))).setCell ⟨W.heap.size, 3, none⟩ (.slice na l.length nc)).setCell ⟨W.heap.size, 4, none⟩ (.int .i64 72)) = .ok (.string (sb lz)) ((((((w5).setCell ⟨W.heap.size, 0, none⟩ (.slice ba m.length bc)).setCell ⟨W.heap.size, 1, none⟩ (.int .i64 ((jz : Nat) : Int))).setCell ⟨W.heap.size, 2, none⟩ (.int .i64 (n : Int))).setCell ⟨W.heap.size, 3, none⟩ (.slice na l.length nc)).setCell ⟨W.heap.size, 4, none⟩ (.int .i64 72)) := conv_sb ((hob.gr (Gr.own5 w5 W.heap.size _ _ _ _ _) (fun k h1 _ e => by omega)).sb)
  have Hob := Lib.hid hob
  clear hob hXl
  obtain ⟨⟨p0, p1, p2, p3, p4⟩, d0, d1, d2, d3, d4⟩ := five s5.st
  obtain ⟨⟨q0, q1, q2, q3, q4⟩, f0, f1, f2, f3, f4⟩ := five s5.out
  have hl := (Array.getElem?_eq_some_iff.1 s5.st).1
  have hlo := (Array.getElem?_eq_some_iff.1 s5.out).1
  have H5 := Lib.hid (s5.setI (Nat.le_refl _) (.slice ba m.length bc) (.slice na l.length nc) jz n 72 ((jz : Nat) : Int) (by simp))
  clear s5 H4
  cases hnb : isName (sb lz) with
  | false =>
    have hN := Lib.hid (fun w => show Calls Tryz.prog 59 #[.string (sb lz)] w fun e w' => e = .returned (.bool false) ∧ w = w' by have h := refName_c (sb lz) w; rw [hnb] at h; exact h)
    clear hnb
    go_wp2_with fail
    generalize World.setCell (World.setCell (World.setCell (World.setCell (World.setCell w5 _ _) _ _) _ _) _ _) _ _ = X5 at H5 ⊢
    clear p0 p1 p2 p3 p4 d0 d1 d2 d3 d4 q0 q1 q2 q3 q4 f0 f1 f2 f3 f4 hl hlo
    have Hd := Lib.hid (H5.out.turn (Gr.drew _ (fun _ => False)))
    obtain ⟨⟨p0, p1, p2, p3, p4⟩, d0, d1, d2, d3, d4⟩ := five H5.out.st
    obtain ⟨⟨q0, q1, q2, q3, q4⟩, f0, f1, f2, f3, f4⟩ := five H5.out.out
    have hl := (Array.getElem?_eq_some_iff.1 H5.out.st).1
    have hlo := (Array.getElem?_eq_some_iff.1 H5.out.out).1
    have s11 : S11 W.heap.size (.slice ba m.length bc) (.int .i64 ((jz : Nat) : Int)) (.int .i64 (n : Int)) (.slice na l.length nc) (.int .i64 72) X5.drew := s11_at Hd.out (by simp)
    refine wp_region_L (L := 14) (T := S11 W.heap.size (.slice ba m.length bc) (.int .i64 ((jz : Nat) : Int)) (.int .i64 (n : Int)) (.slice na l.length nc) (.int .i64 72)) (by kernel_rfl) ?_
    refine wpAnyL_at (i := 0) (v := sv (.slice ba m.length bc) jz n (.slice na l.length nc) 72) (some 59) rfl rfl (by kernel_rfl) (by kernel_rfl) (by kernel_rfl) (by kernel_rfl) (by decide) (fun _ _ _ h => h) (Or.inl ⟨by rfl, ?_⟩) s11 ?_
    · intro w hSw
      go_simp
    try simp only [Act.put, List.setIfInBounds_toArray, List.set_cons_zero, List.set_cons_succ]
    refine wpAnyL_at (i := 1) (v := .string (sb lz)) (some 60) rfl rfl (by kernel_rfl) (by kernel_rfl) (by kernel_rfl) (by kernel_rfl) (by decide) (fun _ _ _ h => h) (Or.inl ⟨by rfl, ?_⟩) s11 ?_
    · intro w hSw
      go_simp
    try simp only [Act.put, List.setIfInBounds_toArray, List.set_cons_zero, List.set_cons_succ]
    refine wpAnyL_one (i := 2) (by kernel_rfl) rfl (fun K hK => ?_)
    go_simp
    refine (hN.out _).mono ?_
    rintro e wn ⟨rfl, rfl⟩
    refine hK.out _ _ (fun _ => s11) ?_
    clear hK K
    try simp only [Act.put, List.setIfInBounds_toArray, List.set_cons_zero, List.set_cons_succ]
    refine wpAnyL_at (i := 3) (v := .bool false) (some 62) rfl rfl (by kernel_rfl) (by kernel_rfl) (by kernel_rfl) (by kernel_rfl) (by decide) (fun _ _ _ h => h) (Or.inl ⟨by rfl, ?_⟩) s11 ?_
    · intro w hSw
      go_simp
    try simp only [Act.put, List.setIfInBounds_toArray, List.set_cons_zero, List.set_cons_succ]
    refine wpAnyL_at (i := 4) (v := undef) (some 63) rfl rfl (by kernel_rfl) (by kernel_rfl) (by kernel_rfl) (by kernel_rfl) (by decide) (fun _ _ _ h => h) (Or.inr ⟨by rfl, rfl⟩) s11 ?_
    try simp only [Act.put, List.setIfInBounds_toArray, List.set_cons_zero, List.set_cons_succ]
    refine wpAnyL_at (i := 5) (v := undef) (some 64) rfl rfl (by kernel_rfl) (by kernel_rfl) (by kernel_rfl) (by kernel_rfl) (by decide) (fun _ _ _ h => h) (Or.inr ⟨by rfl, rfl⟩) s11 ?_
    try simp only [Act.put, List.setIfInBounds_toArray, List.set_cons_zero, List.set_cons_succ]
    refine wpAnyL_at (i := 6) (v := undef) (some 65) rfl rfl (by kernel_rfl) (by kernel_rfl) (by kernel_rfl) (by kernel_rfl) (by decide) (fun _ _ _ h => h) (Or.inr ⟨by rfl, rfl⟩) s11 ?_
    try simp only [Act.put, List.setIfInBounds_toArray, List.set_cons_zero, List.set_cons_succ]
    refine wpAnyL_at (i := 7) (v := undef) (some 66) rfl rfl (by kernel_rfl) (by kernel_rfl) (by kernel_rfl) (by kernel_rfl) (by decide) (fun _ _ _ h => h) (Or.inr ⟨by rfl, rfl⟩) s11 ?_
    try simp only [Act.put, List.setIfInBounds_toArray, List.set_cons_zero, List.set_cons_succ]
    refine wpAnyL_at (i := 8) (v := undef) (some 67) rfl rfl (by kernel_rfl) (by kernel_rfl) (by kernel_rfl) (by kernel_rfl) (by decide) (fun _ _ _ h => h) (Or.inr ⟨by rfl, rfl⟩) s11 ?_
    try simp only [Act.put, List.setIfInBounds_toArray, List.set_cons_zero, List.set_cons_succ]
    refine wpAnyL_at (i := 9) (v := undef) (some 68) rfl rfl (by kernel_rfl) (by kernel_rfl) (by kernel_rfl) (by kernel_rfl) (by decide) (fun _ _ _ h => h) (Or.inr ⟨by rfl, rfl⟩) s11 ?_
    try simp only [Act.put, List.setIfInBounds_toArray, List.set_cons_zero, List.set_cons_succ]
    refine wpAnyL_at (i := 10) (v := undef) (some 69) rfl rfl (by kernel_rfl) (by kernel_rfl) (by kernel_rfl) (by kernel_rfl) (by decide) (fun _ _ _ h => h) (Or.inr ⟨by rfl, rfl⟩) s11 ?_
    try simp only [Act.put, List.setIfInBounds_toArray, List.set_cons_zero, List.set_cons_succ]
    refine wpAnyL_at (i := 11) (v := undef) (some 70) rfl rfl (by kernel_rfl) (by kernel_rfl) (by kernel_rfl) (by kernel_rfl) (by decide) (fun _ _ _ h => h) (Or.inr ⟨by rfl, rfl⟩) s11 ?_
    try simp only [Act.put, List.setIfInBounds_toArray, List.set_cons_zero, List.set_cons_succ]
    refine wpAnyL_at (i := 12) (v := .bool false) (some 71) rfl rfl (by kernel_rfl) (by kernel_rfl) (by kernel_rfl) (by kernel_rfl) (by decide) (fun _ _ _ h => h) (Or.inl ⟨by rfl, ?_⟩) s11 ?_
    · intro w hSw
      go_simp
    try simp only [Act.put, List.setIfInBounds_toArray, List.set_cons_zero, List.set_cons_succ]
    refine wpAnyL_one (i := 13) (by kernel_rfl) rfl (fun K hK => ?_)
    go_simp
    refine (must_old ba m.length bc na l.length nc jz n 72 (by decide) _ _).mono ?_
    rintro e w6 ⟨rfl, g6⟩
    have s6 := Hd.out.turn g6
    have s12 : S11 W.heap.size (.slice ba m.length bc) (.int .i64 ((jz : Nat) : Int)) (.int .i64 (n : Int)) (.slice na l.length nc) (.int .i64 72) w6 := s11_at s6 (by simp)
    clear p0 p1 p2 p3 p4 d0 d1 d2 d3 d4 q0 q1 q2 q3 q4 f0 f1 f2 f3 f4 hl hlo
    obtain ⟨⟨p0, p1, p2, p3, p4⟩, d0, d1, d2, d3, d4⟩ := five s6.st
    obtain ⟨⟨q0, q1, q2, q3, q4⟩, f0, f1, f2, f3, f4⟩ := five s6.out
    have hl := (Array.getElem?_eq_some_iff.1 s6.st).1
    have hlo := (Array.getElem?_eq_some_iff.1 s6.out).1
    have H6 := Lib.hid (s6.setI (Nat.le_refl _) (.slice ba m.length bc) (.slice na l.length nc) jz n 72 ((jz : Nat) : Int) (by simp))
    clear s6
    refine hK.out _ _ (fun _ => s12) ?_
    clear hK K
    try simp only [Act.put, List.setIfInBounds_toArray, List.set_cons_zero, List.set_cons_succ]
    refine wpAnyL_one (i := 14) (by kernel_rfl) rfl (fun K hK => ?_)
    go_simp
    refine hK.out _ _ (fun h => absurd rfl h) ?_
    clear hK K
    try simp only [Act.put, List.setIfInBounds_toArray, List.set_cons_zero, List.set_cons_succ]
    refine wpAnyL_done (by kernel_rfl) ?_ _
    refine NoPanic.normal ?_
    clear s11 s12
    have P5 := Lib.hid (H6.out.put (Nat.le_refl _) (.slice ba m.length bc) (.slice na l.length nc) jz n 72 ((jz : Nat) : Int) (by simp))
    go_wp2_with fail
    generalize World.setCell (World.setCell (World.setCell (World.setCell (World.setCell _ _ _) _ _) _ _) _ _) _ _ = wa at P5 ⊢
    obtain ⟨E5, G5⟩ := P5.out
    obtain ⟨⟨r0, r1, r2, r3, r4⟩, -⟩ := five E5
    exact bodyPost_ret (v := .tuple #[sv (.slice ba m.length bc) jz n (.slice na l.length nc) 72, .string (sb lz)]) (by simp [results, Tryz.results36, go_sem, r0, r1, r2, r3, r4]) rfl ⟨⟨_, _, rfl⟩, G5⟩
  | true =>
    have hN := Lib.hid (fun w => show Calls Tryz.prog 59 #[.string (sb lz)] w fun e w' => e = .returned (.bool true) ∧ w = w' by have h := refName_c (sb lz) w; rw [hnb] at h; exact h)
    clear hnb
    cases hfe : (fv7 l (sb lz) == (l.length : Int)) with
    | false =>
      have HF := Lib.hid (fun w (g : Gr (fun _ => False) W w) => show Calls Tryz.prog 60 #[(.slice na l.length nc), .string (sb lz)] w fun e w' => e = .returned (.int .i64 (fv7 l (sb lz))) ∧ w = w' from refFind_c w _ l (sb lz) (Hs.out w g))
      generalize fv7 l (sb lz) = fz at hfe HF
      go_wp2_with fail
      generalize World.setCell (World.setCell (World.setCell (World.setCell (World.setCell w5 _ _) _ _) _ _) _ _) _ _ = X5 at H5 ⊢
      clear p0 p1 p2 p3 p4 d0 d1 d2 d3 d4 q0 q1 q2 q3 q4 f0 f1 f2 f3 f4 hl hlo
      have Hd := Lib.hid (H5.out.turn (Gr.drew _ (fun _ => False)))
      obtain ⟨⟨p0, p1, p2, p3, p4⟩, d0, d1, d2, d3, d4⟩ := five H5.out.st
      obtain ⟨⟨q0, q1, q2, q3, q4⟩, f0, f1, f2, f3, f4⟩ := five H5.out.out
      have hl := (Array.getElem?_eq_some_iff.1 H5.out.st).1
      have hlo := (Array.getElem?_eq_some_iff.1 H5.out.out).1
      have s11 : S11 W.heap.size (.slice ba m.length bc) (.int .i64 ((jz : Nat) : Int)) (.int .i64 (n : Int)) (.slice na l.length nc) (.int .i64 72) X5.drew := s11_at Hd.out (by simp)
      refine wp_region_L (L := 14) (T := S11 W.heap.size (.slice ba m.length bc) (.int .i64 ((jz : Nat) : Int)) (.int .i64 (n : Int)) (.slice na l.length nc) (.int .i64 72)) (by kernel_rfl) ?_
      refine wpAnyL_at (i := 0) (v := sv (.slice ba m.length bc) jz n (.slice na l.length nc) 72) (some 59) rfl rfl (by kernel_rfl) (by kernel_rfl) (by kernel_rfl) (by kernel_rfl) (by decide) (fun _ _ _ h => h) (Or.inl ⟨by rfl, ?_⟩) s11 ?_
      · intro w hSw
        go_simp
      try simp only [Act.put, List.setIfInBounds_toArray, List.set_cons_zero, List.set_cons_succ]
      refine wpAnyL_at (i := 1) (v := .string (sb lz)) (some 60) rfl rfl (by kernel_rfl) (by kernel_rfl) (by kernel_rfl) (by kernel_rfl) (by decide) (fun _ _ _ h => h) (Or.inl ⟨by rfl, ?_⟩) s11 ?_
      · intro w hSw
        go_simp
      try simp only [Act.put, List.setIfInBounds_toArray, List.set_cons_zero, List.set_cons_succ]
      refine wpAnyL_one (i := 2) (by kernel_rfl) rfl (fun K hK => ?_)
      go_simp
      refine (hN.out _).mono ?_
      rintro e wn ⟨rfl, rfl⟩
      refine hK.out _ _ (fun _ => s11) ?_
      clear hK K
      try simp only [Act.put, List.setIfInBounds_toArray, List.set_cons_zero, List.set_cons_succ]
      refine wpAnyL_at (i := 3) (v := .bool true) (some 62) rfl rfl (by kernel_rfl) (by kernel_rfl) (by kernel_rfl) (by kernel_rfl) (by decide) (fun _ _ _ h => h) (Or.inl ⟨by rfl, ?_⟩) s11 ?_
      · intro w hSw
        go_simp
      try simp only [Act.put, List.setIfInBounds_toArray, List.set_cons_zero, List.set_cons_succ]
      refine wpAnyL_at (i := 4) (v := (.pointer (some ⟨W.heap.size, 3, none⟩))) (some 63) rfl rfl (by kernel_rfl) (by kernel_rfl) (by kernel_rfl) (by kernel_rfl) (by decide) (fun _ _ _ h => h) (Or.inl ⟨by rfl, ?_⟩) s11 ?_
      · intro w hSw
        go_simp
      try simp only [Act.put, List.setIfInBounds_toArray, List.set_cons_zero, List.set_cons_succ]
      refine wpAnyL_at (i := 5) (v := (.slice na l.length nc)) (some 64) rfl rfl (by kernel_rfl) (by kernel_rfl) (by kernel_rfl) (by kernel_rfl) (by decide) (fun _ _ _ h => h) (Or.inl ⟨by rfl, ?_⟩) s11 ?_
      · intro w hSw
        go_simp
      try simp only [Act.put, List.setIfInBounds_toArray, List.set_cons_zero, List.set_cons_succ]
      refine wpAnyL_at (i := 6) (v := .string (sb lz)) (some 65) rfl rfl (by kernel_rfl) (by kernel_rfl) (by kernel_rfl) (by kernel_rfl) (by decide) (fun _ _ _ h => h) (Or.inl ⟨by rfl, ?_⟩) s11 ?_
      · intro w hSw
        go_simp
      try simp only [Act.put, List.setIfInBounds_toArray, List.set_cons_zero, List.set_cons_succ]
      refine wpAnyL_at (i := 8) (v := (.pointer (some ⟨W.heap.size, 3, none⟩))) (some 67) rfl rfl (by kernel_rfl) (by kernel_rfl) (by kernel_rfl) (by kernel_rfl) (by decide) (fun _ _ _ h => h) (Or.inl ⟨by rfl, ?_⟩) s11 ?_
      · intro w hSw
        go_simp
      try simp only [Act.put, List.setIfInBounds_toArray, List.set_cons_zero, List.set_cons_succ]
      refine wpAnyL_at (i := 9) (v := (.slice na l.length nc)) (some 68) rfl rfl (by kernel_rfl) (by kernel_rfl) (by kernel_rfl) (by kernel_rfl) (by decide) (fun _ _ _ h => h) (Or.inl ⟨by rfl, ?_⟩) s11 ?_
      · intro w hSw
        go_simp
      try simp only [Act.put, List.setIfInBounds_toArray, List.set_cons_zero, List.set_cons_succ]
      refine wpAnyL_at (i := 10) (v := (.int .i64 (l.length : Int))) (some 69) rfl rfl (by kernel_rfl) (by kernel_rfl) (by kernel_rfl) (by kernel_rfl) (by decide) (fun _ _ _ h => h) (Or.inl ⟨by rfl, ?_⟩) s11 ?_
      · intro w hSw
        go_simp
      try simp only [Act.put, List.setIfInBounds_toArray, List.set_cons_zero, List.set_cons_succ]
      refine wpAnyL_one (i := 7) (by kernel_rfl) rfl (fun K hK => ?_)
      go_simp
      refine (HF.out _ Hd.out.gr).mono ?_
      rintro e wn ⟨rfl, rfl⟩
      refine hK.out _ _ (fun _ => s11) ?_
      clear hK K
      try simp only [Act.put, List.setIfInBounds_toArray, List.set_cons_zero, List.set_cons_succ]
      refine wpAnyL_at (i := 11) (v := .bool false) (some 70) rfl rfl (by kernel_rfl) (by kernel_rfl) (by kernel_rfl) (by kernel_rfl) (by decide) (fun _ _ _ h => h) (Or.inl ⟨by rfl, ?_⟩) s11 ?_
      · intro w hSw
        go_simp
      try simp only [Act.put, List.setIfInBounds_toArray, List.set_cons_zero, List.set_cons_succ]
      refine wpAnyL_at (i := 12) (v := .bool false) (some 71) rfl rfl (by kernel_rfl) (by kernel_rfl) (by kernel_rfl) (by kernel_rfl) (by decide) (fun _ _ _ h => h) (Or.inl ⟨by rfl, ?_⟩) s11 ?_
      · intro w hSw
        go_simp
      try simp only [Act.put, List.setIfInBounds_toArray, List.set_cons_zero, List.set_cons_succ]
      refine wpAnyL_one (i := 13) (by kernel_rfl) rfl (fun K hK => ?_)
      go_simp
      refine (must_old ba m.length bc na l.length nc jz n 72 (by decide) _ _).mono ?_
      rintro e w6 ⟨rfl, g6⟩
      have s6 := Hd.out.turn g6
      have s12 : S11 W.heap.size (.slice ba m.length bc) (.int .i64 ((jz : Nat) : Int)) (.int .i64 (n : Int)) (.slice na l.length nc) (.int .i64 72) w6 := s11_at s6 (by simp)
      clear p0 p1 p2 p3 p4 d0 d1 d2 d3 d4 q0 q1 q2 q3 q4 f0 f1 f2 f3 f4 hl hlo
      obtain ⟨⟨p0, p1, p2, p3, p4⟩, d0, d1, d2, d3, d4⟩ := five s6.st
      obtain ⟨⟨q0, q1, q2, q3, q4⟩, f0, f1, f2, f3, f4⟩ := five s6.out
      have hl := (Array.getElem?_eq_some_iff.1 s6.st).1
      have hlo := (Array.getElem?_eq_some_iff.1 s6.out).1
      have H6 := Lib.hid (s6.setI (Nat.le_refl _) (.slice ba m.length bc) (.slice na l.length nc) jz n 72 ((jz : Nat) : Int) (by simp))
      clear s6
      refine hK.out _ _ (fun _ => s12) ?_
      clear hK K
      try simp only [Act.put, List.setIfInBounds_toArray, List.set_cons_zero, List.set_cons_succ]
      refine wpAnyL_one (i := 14) (by kernel_rfl) rfl (fun K hK => ?_)
      go_simp
      refine hK.out _ _ (fun h => absurd rfl h) ?_
      clear hK K
      try simp only [Act.put, List.setIfInBounds_toArray, List.set_cons_zero, List.set_cons_succ]
      refine wpAnyL_done (by kernel_rfl) ?_ _
      refine NoPanic.normal ?_
      clear s11 s12
      have P5 := Lib.hid (H6.out.put (Nat.le_refl _) (.slice ba m.length bc) (.slice na l.length nc) jz n 72 ((jz : Nat) : Int) (by simp))
      go_wp2_with fail
      generalize World.setCell (World.setCell (World.setCell (World.setCell (World.setCell _ _ _) _ _) _ _) _ _) _ _ = wa at P5 ⊢
      obtain ⟨E5, G5⟩ := P5.out
      obtain ⟨⟨r0, r1, r2, r3, r4⟩, -⟩ := five E5
      exact bodyPost_ret (v := .tuple #[sv (.slice ba m.length bc) jz n (.slice na l.length nc) 72, .string (sb lz)]) (by simp [results, Tryz.results36, go_sem, r0, r1, r2, r3, r4]) rfl ⟨⟨_, _, rfl⟩, G5⟩
    | true =>
      have HF := Lib.hid (fun w (g : Gr (fun _ => False) W w) => show Calls Tryz.prog 60 #[(.slice na l.length nc), .string (sb lz)] w fun e w' => e = .returned (.int .i64 (fv7 l (sb lz))) ∧ w = w' from refFind_c w _ l (sb lz) (Hs.out w g))
      generalize fv7 l (sb lz) = fz at hfe HF
      go_wp2_with fail
      generalize World.setCell (World.setCell (World.setCell (World.setCell (World.setCell w5 _ _) _ _) _ _) _ _) _ _ = X5 at H5 ⊢
      clear p0 p1 p2 p3 p4 d0 d1 d2 d3 d4 q0 q1 q2 q3 q4 f0 f1 f2 f3 f4 hl hlo
      have Hd := Lib.hid (H5.out.turn (Gr.drew _ (fun _ => False)))
      obtain ⟨⟨p0, p1, p2, p3, p4⟩, d0, d1, d2, d3, d4⟩ := five H5.out.st
      obtain ⟨⟨q0, q1, q2, q3, q4⟩, f0, f1, f2, f3, f4⟩ := five H5.out.out
      have hl := (Array.getElem?_eq_some_iff.1 H5.out.st).1
      have hlo := (Array.getElem?_eq_some_iff.1 H5.out.out).1
      have s11 : S11 W.heap.size (.slice ba m.length bc) (.int .i64 ((jz : Nat) : Int)) (.int .i64 (n : Int)) (.slice na l.length nc) (.int .i64 72) X5.drew := s11_at Hd.out (by simp)
      refine wp_region_L (L := 14) (T := S11 W.heap.size (.slice ba m.length bc) (.int .i64 ((jz : Nat) : Int)) (.int .i64 (n : Int)) (.slice na l.length nc) (.int .i64 72)) (by kernel_rfl) ?_
      refine wpAnyL_at (i := 0) (v := sv (.slice ba m.length bc) jz n (.slice na l.length nc) 72) (some 59) rfl rfl (by kernel_rfl) (by kernel_rfl) (by kernel_rfl) (by kernel_rfl) (by decide) (fun _ _ _ h => h) (Or.inl ⟨by rfl, ?_⟩) s11 ?_
      · intro w hSw
        go_simp
      try simp only [Act.put, List.setIfInBounds_toArray, List.set_cons_zero, List.set_cons_succ]
      refine wpAnyL_at (i := 1) (v := .string (sb lz)) (some 60) rfl rfl (by kernel_rfl) (by kernel_rfl) (by kernel_rfl) (by kernel_rfl) (by decide) (fun _ _ _ h => h) (Or.inl ⟨by rfl, ?_⟩) s11 ?_
      · intro w hSw
        go_simp
      try simp only [Act.put, List.setIfInBounds_toArray, List.set_cons_zero, List.set_cons_succ]
      refine wpAnyL_one (i := 2) (by kernel_rfl) rfl (fun K hK => ?_)
      go_simp
      refine (hN.out _).mono ?_
      rintro e wn ⟨rfl, rfl⟩
      refine hK.out _ _ (fun _ => s11) ?_
      clear hK K
      try simp only [Act.put, List.setIfInBounds_toArray, List.set_cons_zero, List.set_cons_succ]
      refine wpAnyL_at (i := 3) (v := .bool true) (some 62) rfl rfl (by kernel_rfl) (by kernel_rfl) (by kernel_rfl) (by kernel_rfl) (by decide) (fun _ _ _ h => h) (Or.inl ⟨by rfl, ?_⟩) s11 ?_
      · intro w hSw
        go_simp
      try simp only [Act.put, List.setIfInBounds_toArray, List.set_cons_zero, List.set_cons_succ]
      refine wpAnyL_at (i := 4) (v := (.pointer (some ⟨W.heap.size, 3, none⟩))) (some 63) rfl rfl (by kernel_rfl) (by kernel_rfl) (by kernel_rfl) (by kernel_rfl) (by decide) (fun _ _ _ h => h) (Or.inl ⟨by rfl, ?_⟩) s11 ?_
      · intro w hSw
        go_simp
      try simp only [Act.put, List.setIfInBounds_toArray, List.set_cons_zero, List.set_cons_succ]
      refine wpAnyL_at (i := 5) (v := (.slice na l.length nc)) (some 64) rfl rfl (by kernel_rfl) (by kernel_rfl) (by kernel_rfl) (by kernel_rfl) (by decide) (fun _ _ _ h => h) (Or.inl ⟨by rfl, ?_⟩) s11 ?_
      · intro w hSw
        go_simp
      try simp only [Act.put, List.setIfInBounds_toArray, List.set_cons_zero, List.set_cons_succ]
      refine wpAnyL_at (i := 6) (v := .string (sb lz)) (some 65) rfl rfl (by kernel_rfl) (by kernel_rfl) (by kernel_rfl) (by kernel_rfl) (by decide) (fun _ _ _ h => h) (Or.inl ⟨by rfl, ?_⟩) s11 ?_
      · intro w hSw
        go_simp
      try simp only [Act.put, List.setIfInBounds_toArray, List.set_cons_zero, List.set_cons_succ]
      refine wpAnyL_at (i := 8) (v := (.pointer (some ⟨W.heap.size, 3, none⟩))) (some 67) rfl rfl (by kernel_rfl) (by kernel_rfl) (by kernel_rfl) (by kernel_rfl) (by decide) (fun _ _ _ h => h) (Or.inl ⟨by rfl, ?_⟩) s11 ?_
      · intro w hSw
        go_simp
      try simp only [Act.put, List.setIfInBounds_toArray, List.set_cons_zero, List.set_cons_succ]
      refine wpAnyL_at (i := 9) (v := (.slice na l.length nc)) (some 68) rfl rfl (by kernel_rfl) (by kernel_rfl) (by kernel_rfl) (by kernel_rfl) (by decide) (fun _ _ _ h => h) (Or.inl ⟨by rfl, ?_⟩) s11 ?_
      · intro w hSw
        go_simp
      try simp only [Act.put, List.setIfInBounds_toArray, List.set_cons_zero, List.set_cons_succ]
      refine wpAnyL_at (i := 10) (v := (.int .i64 (l.length : Int))) (some 69) rfl rfl (by kernel_rfl) (by kernel_rfl) (by kernel_rfl) (by kernel_rfl) (by decide) (fun _ _ _ h => h) (Or.inl ⟨by rfl, ?_⟩) s11 ?_
      · intro w hSw
        go_simp
      try simp only [Act.put, List.setIfInBounds_toArray, List.set_cons_zero, List.set_cons_succ]
      refine wpAnyL_one (i := 7) (by kernel_rfl) rfl (fun K hK => ?_)
      go_simp
      refine (HF.out _ Hd.out.gr).mono ?_
      rintro e wn ⟨rfl, rfl⟩
      refine hK.out _ _ (fun _ => s11) ?_
      clear hK K
      try simp only [Act.put, List.setIfInBounds_toArray, List.set_cons_zero, List.set_cons_succ]
      refine wpAnyL_at (i := 11) (v := .bool true) (some 70) rfl rfl (by kernel_rfl) (by kernel_rfl) (by kernel_rfl) (by kernel_rfl) (by decide) (fun _ _ _ h => h) (Or.inl ⟨by rfl, ?_⟩) s11 ?_
      · intro w hSw
        go_simp
      try simp only [Act.put, List.setIfInBounds_toArray, List.set_cons_zero, List.set_cons_succ]
      refine wpAnyL_at (i := 12) (v := .bool true) (some 71) rfl rfl (by kernel_rfl) (by kernel_rfl) (by kernel_rfl) (by kernel_rfl) (by decide) (fun _ _ _ h => h) (Or.inl ⟨by rfl, ?_⟩) s11 ?_
      · intro w hSw
        go_simp
      try simp only [Act.put, List.setIfInBounds_toArray, List.set_cons_zero, List.set_cons_succ]
      refine wpAnyL_one (i := 13) (by kernel_rfl) rfl (fun K hK => ?_)
      go_simp
      refine (must_old ba m.length bc na l.length nc jz n 72 (by decide) _ _).mono ?_
      rintro e w6 ⟨rfl, g6⟩
      have s6 := Hd.out.turn g6
      have s12 : S11 W.heap.size (.slice ba m.length bc) (.int .i64 ((jz : Nat) : Int)) (.int .i64 (n : Int)) (.slice na l.length nc) (.int .i64 72) w6 := s11_at s6 (by simp)
      clear p0 p1 p2 p3 p4 d0 d1 d2 d3 d4 q0 q1 q2 q3 q4 f0 f1 f2 f3 f4 hl hlo
      obtain ⟨⟨p0, p1, p2, p3, p4⟩, d0, d1, d2, d3, d4⟩ := five s6.st
      obtain ⟨⟨q0, q1, q2, q3, q4⟩, f0, f1, f2, f3, f4⟩ := five s6.out
      have hl := (Array.getElem?_eq_some_iff.1 s6.st).1
      have hlo := (Array.getElem?_eq_some_iff.1 s6.out).1
      have H6 := Lib.hid (s6.setI (Nat.le_refl _) (.slice ba m.length bc) (.slice na l.length nc) jz n 72 ((jz : Nat) : Int) (by simp))
      clear s6
      refine hK.out _ _ (fun _ => s12) ?_
      clear hK K
      try simp only [Act.put, List.setIfInBounds_toArray, List.set_cons_zero, List.set_cons_succ]
      refine wpAnyL_one (i := 14) (by kernel_rfl) rfl (fun K hK => ?_)
      go_simp
      refine hK.out _ _ (fun h => absurd rfl h) ?_
      clear hK K
      try simp only [Act.put, List.setIfInBounds_toArray, List.set_cons_zero, List.set_cons_succ]
      refine wpAnyL_done (by kernel_rfl) ?_ _
      refine NoPanic.normal ?_
      clear s11 s12
      have P5 := Lib.hid (H6.out.put (Nat.le_refl _) (.slice ba m.length bc) (.slice na l.length nc) jz n 72 ((jz : Nat) : Int) (by simp))
      go_wp2_with fail
      generalize World.setCell (World.setCell (World.setCell (World.setCell (World.setCell _ _ _) _ _) _ _) _ _) _ _ = wa at P5 ⊢
      obtain ⟨E5, G5⟩ := P5.out
      obtain ⟨⟨r0, r1, r2, r3, r4⟩, -⟩ := five E5
      exact bodyPost_ret (v := .tuple #[sv (.slice ba m.length bc) jz n (.slice na l.length nc) 72, .string (sb lz)]) (by simp [results, Tryz.results36, go_sem, r0, r1, r2, r3, r4]) rfl ⟨⟨_, _, rfl⟩, G5⟩
end Go.Proofs.YtmohehfkbhllpaaGreat

namespace Go.Proofs.YtmohehfkbhllpaaGreat
open Go.RowKit Go.Maps
variable {S S' Z : Nat → Prop} {W W1 W' : World}
set_option maxRecDepth 20000 in
set_option maxHeartbeats 1600000 in
theorem name_C2c1 (ba : Option Addr) (bc : Nat) (na : Option Addr) (nc : Nat) (m : List Int) (l : List ByteArray) (i n : Nat) (hi : i ≤ m.length) (hl96 : l.length < 4096) (W : World) (hq : Sq Z W (.slice ba m.length bc) m) (hs : Snap W (.slice na l.length nc) l) (q : Nat) (r : List Int) (hb : nmb 10 0 0 (m.drop i) = .ok (l.length, (q : Int) :: r)) (hq1 : 1 ≤ q) (hq2 : q ≤ 32) (hsh : q ≤ r.length) (hnm : isName (sb (r.take q)) = false) : Calls Tryz.prog 36 #[sv (.slice ba m.length bc) i n (.slice na l.length nc) 0] W fun e w' => (∃ (j : Nat) (s : ByteArray), e = .returned (.tuple #[sv (.slice ba m.length bc) j n (.slice na l.length nc) 73, .string s])) ∧ Gr (fun _ => False) W w' := by
  have hx := Lib.hid (Sx.new W (.slice ba m.length bc) (.slice na l.length nc) i n 0)
  have Hq := Lib.hid (fun w (g : Gr (fun _ => False) W w) => hq.gr g (fun _ _ e => e))
  have Hs := Lib.hid (fun w (g : Gr (fun _ => False) W w) => hs.gr g (fun _ _ e => e))
  have hml : (m.length : Int) ≤ 9223372036854775807 := by obtain ⟨_, _, e, h1, h2, _⟩ := hq; cases e; omega
  have hml0 : (0 : Int) ≤ (m.length : Int) := by omega
  have hll : (l.length : Int) < 4096 := by omega
  have hll0 : (0 : Int) ≤ (l.length : Int) := by omega
  have hw := Lib.hid (fun w g => wide_c ba bc na l.length nc m i n hi w (Hq.out w g))
  rw [hb] at hw
  have hby := Lib.hid hq.byte
  clear hq hs hl96 hi hb
  go_enter Tryz.func36, Tryz.ntmps36
  go_wp2_with fail
  generalize hW1 : World.alloc (World.alloc W _) _ = W1
  have H0 : Hid (Sx W W.heap.size (.slice ba m.length bc) (.slice na l.length nc) i n 0 W1) := Lib.hid (hW1 ▸ hx.out)
  clear hW1 hx
  refine (hw.out _ H0.out.gr).mono ?_
  rintro e w1 ⟨he, g1⟩
  have s1 := H0.out.turn g1
  obtain ⟨j, hj, hjr, hu, rfl⟩ := he
  have Hj := Lib.hid hj
  have Hjr := Lib.hid hjr
  have hu0 : (0 : Int) ≤ (l.length : Int) := by omega
  have huI : (l.length : Int) < 18446744073709551616 := by omega
  clear hj hjr hu
  have hle : decide (l.length ≤ l.length) = true := by simp
  have hltb : decide (l.length < l.length) = false := by simp
  have hjl : j < m.length := by have h1 := Hj.out; have h2 := congrArg List.length Hjr.out; simp at h2; omega
  have hmx : m[j]? = some (q : Int) := by have h2 := congrArg (fun y => y[0]?) Hjr.out; simpa [List.getElem?_drop] using h2
  have hmr : Hid (m.drop (j + 1) = r) := Lib.hid (by have h2 := congrArg List.tail Hjr.out; simpa [List.tail_drop] using h2)
  have hbx := hby.out (q : Int) (List.mem_of_getElem? hmx)
  have hj1 : Hid (j + 1 ≤ m.length) := Lib.hid hjl
  have h1j := Lib.hid (fun w g => rone_ok ba bc na l.length nc j n m (q : Int) hmx w (Hq.out w g))
  clear hmx hjl
  have hq1I : (1 : Int) ≤ (q : Int) := by omega
  have hq2I : (q : Int) ≤ 32 := by omega
  have h5 := Lib.hid (fun w g => (some_c ba bc na l.length nc m (j + 1) n q hj1.out (by omega) w (Hq.out w g)).mono (R' := fun e w' => (∃ (jz : Nat) (ua : Option Addr) (uc : Nat) (lz : List Int), Hid (jz = j + 1 + q ∧ lz = r.take q) ∧ e = .returned (.tuple #[sv (.slice ba m.length bc) jz n (.slice na l.length nc) 0, .slice ua lz.length uc]) ∧ Ob (w.heap.size + 2) w' (.slice ua lz.length uc) lz) ∧ Gr (fun _ => False) w w') (fun e w' h => by
    obtain ⟨h1, h2⟩ := h
    unfold EndS at h1
    rw [if_pos (by have := hmr.out; have h3 := congrArg List.length this; simp at h3; omega)] at h1
    obtain ⟨u, he, hob⟩ := h1
    rw [hmr.out] at hob
    obtain ⟨ua, uc, rfl⟩ := hob.sv
    exact ⟨⟨_, ua, uc, _, Lib.hid ⟨rfl, rfl⟩, he, hob⟩, h2⟩))
  have Hsh := Lib.hid hsh
  have Hjl : Hid (j + 1 + q ≤ m.length) := Lib.hid (by have := hmr.out; have h3 := congrArg List.length this; have := hj1.out; simp at h3; omega)
  clear hsh hq1 hq2
  obtain ⟨⟨p0, p1, p2, p3, p4⟩, d0, d1, d2, d3, d4⟩ := five s1.st
  obtain ⟨⟨q0, q1, q2, q3, q4⟩, f0, f1, f2, f3, f4⟩ := five s1.out
  have hl := (Array.getElem?_eq_some_iff.1 s1.st).1
  have hlo := (Array.getElem?_eq_some_iff.1 s1.out).1
  have H1 := Lib.hid (s1.setI (Nat.le_refl _) (.slice ba m.length bc) (.slice na l.length nc) j n 0 ((j : Nat) : Int) (by simp))
  clear s1 H0
  go_wp2_with fail
  generalize World.setCell (World.setCell (World.setCell (World.setCell (World.setCell w1 _ _) _ _) _ _) _ _) _ _ = X1 at H1 ⊢
  clear p0 p1 p2 p3 p4 d0 d1 d2 d3 d4 q0 q1 q2 q3 q4 f0 f1 f2 f3 f4 hl hlo
  refine (must_yes ba m.length bc na l.length nc j n 0 _).mono ?_
  rintro e w2 ⟨rfl, g2⟩
  have s2 := H1.out.turn g2
  obtain ⟨⟨p0, p1, p2, p3, p4⟩, d0, d1, d2, d3, d4⟩ := five s2.st
  obtain ⟨⟨q0, q1, q2, q3, q4⟩, f0, f1, f2, f3, f4⟩ := five s2.out
  have hl := (Array.getElem?_eq_some_iff.1 s2.st).1
  have hlo := (Array.getElem?_eq_some_iff.1 s2.out).1
  have H2 := Lib.hid (s2.setI (Nat.le_refl _) (.slice ba m.length bc) (.slice na l.length nc) j n 0 ((j : Nat) : Int) (by simp))
  clear s2 H1
  go_wp2_with fail
  generalize World.setCell (World.setCell (World.setCell (World.setCell (World.setCell w2 _ _) _ _) _ _) _ _) _ _ = X2 at H2 ⊢
  clear p0 p1 p2 p3 p4 d0 d1 d2 d3 d4 q0 q1 q2 q3 q4 f0 f1 f2 f3 f4 hl hlo
  refine (h1j.out _ H2.out.gr).mono ?_
  rintro e w3 ⟨rfl, g3⟩
  have s3 := H2.out.turn g3
  obtain ⟨⟨p0, p1, p2, p3, p4⟩, d0, d1, d2, d3, d4⟩ := five s3.st
  obtain ⟨⟨q0, q1, q2, q3, q4⟩, f0, f1, f2, f3, f4⟩ := five s3.out
  have hl := (Array.getElem?_eq_some_iff.1 s3.st).1
  have hlo := (Array.getElem?_eq_some_iff.1 s3.out).1
  have H3 := Lib.hid (s3.setI (Nat.le_refl _) (.slice ba m.length bc) (.slice na l.length nc) (j + 1) n 0 ((j : Int) + 1) (by simp))
  clear s3 H2
  go_wp2_with fail
  generalize World.setCell (World.setCell (World.setCell (World.setCell (World.setCell w3 _ _) _ _) _ _) _ _) _ _ = X3 at H3 ⊢
  clear p0 p1 p2 p3 p4 d0 d1 d2 d3 d4 q0 q1 q2 q3 q4 f0 f1 f2 f3 f4 hl hlo
  refine (must_yes ba m.length bc na l.length nc (j + 1) n 0 _).mono ?_
  rintro e w4 ⟨rfl, g4⟩
  have s4 := H3.out.turn g4
  obtain ⟨⟨p0, p1, p2, p3, p4⟩, d0, d1, d2, d3, d4⟩ := five s4.st
  obtain ⟨⟨q0, q1, q2, q3, q4⟩, f0, f1, f2, f3, f4⟩ := five s4.out
  have hl := (Array.getElem?_eq_some_iff.1 s4.st).1
  have hlo := (Array.getElem?_eq_some_iff.1 s4.out).1
  have H4 := Lib.hid (s4.setI (Nat.le_refl _) (.slice ba m.length bc) (.slice na l.length nc) (j + 1) n 0 ((j : Int) + 1) (by simp))
  clear s4 H3
  go_wp2_with fail
  generalize World.setCell (World.setCell (World.setCell (World.setCell (World.setCell w4 _ _) _ _) _ _) _ _) _ _ = X4 at H4 ⊢
  clear p0 p1 p2 p3 p4 d0 d1 d2 d3 d4 q0 q1 q2 q3 q4 f0 f1 f2 f3 f4 hl hlo
  have hXl := (Array.getElem?_eq_some_iff.1 H4.out.st).1
  refine (h5.out _ H4.out.gr).mono ?_
  rintro e w5 ⟨⟨jz, ua, uc, lz, hjz, rfl, hob⟩, g5⟩
  have s5 := H4.out.turn g5
  have hcv : (convert 22 9 (.slice ua lz.length uc)).run Tryz.prog ((((((w5).setCell ⟨W.heap.size, 0, none⟩ (.slice ba m.length bc)).setCell ⟨W.heap.size, 1, none⟩ (.int .i64 ((jz : Nat) : Int))).setCell ⟨W.heap.size, 2, none⟩ (.int .i64 (n : Int))).setCell ⟨W.heap.size, 3, none⟩ (.slice na l.length nc)).setCell ⟨W.heap.size, 4, none⟩ (.int .i64 0)) = .ok (.string (sb lz)) ((((((w5).setCell ⟨W.heap.size, 0, none⟩ (.slice ba m.length bc)).setCell ⟨W.heap.size, 1, none⟩ (.int .i64 ((jz : Nat) : Int))).setCell ⟨W.heap.size, 2, none⟩ (.int .i64 (n : Int))).setCell ⟨W.heap.size, 3, none⟩ (.slice na l.length nc)).setCell ⟨W.heap.size, 4, none⟩ (.int .i64 0)) := conv_sb ((hob.gr (Gr.own5 w5 W.heap.size _ _ _ _ _) (fun k h1 _ e => by omega)).sb)
  have Hob := Lib.hid hob
  clear hob hXl
  obtain ⟨⟨p0, p1, p2, p3, p4⟩, d0, d1, d2, d3, d4⟩ := five s5.st
  obtain ⟨⟨q0, q1, q2, q3, q4⟩, f0, f1, f2, f3, f4⟩ := five s5.out
  have hl := (Array.getElem?_eq_some_iff.1 s5.st).1
  have hlo := (Array.getElem?_eq_some_iff.1 s5.out).1
  have H5 := Lib.hid (s5.setI (Nat.le_refl _) (.slice ba m.length bc) (.slice na l.length nc) jz n 0 ((jz : Nat) : Int) (by simp))
  clear s5 H4
  have hnb : isName (sb lz) = false := by rw [hjz.out.2]; exact hnm
  clear hnm
  have hN := Lib.hid (fun w => show Calls Tryz.prog 59 #[.string (sb lz)] w fun e w' => e = .returned (.bool false) ∧ w = w' by have h := refName_c (sb lz) w; rw [hnb] at h; exact h)
  clear hnb
  go_wp2_with fail
  generalize World.setCell (World.setCell (World.setCell (World.setCell (World.setCell w5 _ _) _ _) _ _) _ _) _ _ = X5 at H5 ⊢
  clear p0 p1 p2 p3 p4 d0 d1 d2 d3 d4 q0 q1 q2 q3 q4 f0 f1 f2 f3 f4 hl hlo
  have Hd := Lib.hid (H5.out.turn (Gr.drew _ (fun _ => False)))
  obtain ⟨⟨p0, p1, p2, p3, p4⟩, d0, d1, d2, d3, d4⟩ := five H5.out.st
  obtain ⟨⟨q0, q1, q2, q3, q4⟩, f0, f1, f2, f3, f4⟩ := five H5.out.out
  have hl := (Array.getElem?_eq_some_iff.1 H5.out.st).1
  have hlo := (Array.getElem?_eq_some_iff.1 H5.out.out).1
  have s11 : S11 W.heap.size (.slice ba m.length bc) (.int .i64 ((jz : Nat) : Int)) (.int .i64 (n : Int)) (.slice na l.length nc) (.int .i64 0) X5.drew := s11_at Hd.out (by simp)
  refine wp_region_L (L := 14) (T := S11 W.heap.size (.slice ba m.length bc) (.int .i64 ((jz : Nat) : Int)) (.int .i64 (n : Int)) (.slice na l.length nc) (.int .i64 0)) (by kernel_rfl) ?_
  refine wpAnyL_at (i := 0) (v := sv (.slice ba m.length bc) jz n (.slice na l.length nc) 0) (some 59) rfl rfl (by kernel_rfl) (by kernel_rfl) (by kernel_rfl) (by kernel_rfl) (by decide) (fun _ _ _ h => h) (Or.inl ⟨by rfl, ?_⟩) s11 ?_
  · intro w hSw
    go_simp
  try simp only [Act.put, List.setIfInBounds_toArray, List.set_cons_zero, List.set_cons_succ]
  refine wpAnyL_at (i := 1) (v := .string (sb lz)) (some 60) rfl rfl (by kernel_rfl) (by kernel_rfl) (by kernel_rfl) (by kernel_rfl) (by decide) (fun _ _ _ h => h) (Or.inl ⟨by rfl, ?_⟩) s11 ?_
  · intro w hSw
    go_simp
  try simp only [Act.put, List.setIfInBounds_toArray, List.set_cons_zero, List.set_cons_succ]
  refine wpAnyL_one (i := 2) (by kernel_rfl) rfl (fun K hK => ?_)
  go_simp
  refine (hN.out _).mono ?_
  rintro e wn ⟨rfl, rfl⟩
  refine hK.out _ _ (fun _ => s11) ?_
  clear hK K
  try simp only [Act.put, List.setIfInBounds_toArray, List.set_cons_zero, List.set_cons_succ]
  refine wpAnyL_at (i := 3) (v := .bool false) (some 62) rfl rfl (by kernel_rfl) (by kernel_rfl) (by kernel_rfl) (by kernel_rfl) (by decide) (fun _ _ _ h => h) (Or.inl ⟨by rfl, ?_⟩) s11 ?_
  · intro w hSw
    go_simp
  try simp only [Act.put, List.setIfInBounds_toArray, List.set_cons_zero, List.set_cons_succ]
  refine wpAnyL_at (i := 4) (v := undef) (some 63) rfl rfl (by kernel_rfl) (by kernel_rfl) (by kernel_rfl) (by kernel_rfl) (by decide) (fun _ _ _ h => h) (Or.inr ⟨by rfl, rfl⟩) s11 ?_
  try simp only [Act.put, List.setIfInBounds_toArray, List.set_cons_zero, List.set_cons_succ]
  refine wpAnyL_at (i := 5) (v := undef) (some 64) rfl rfl (by kernel_rfl) (by kernel_rfl) (by kernel_rfl) (by kernel_rfl) (by decide) (fun _ _ _ h => h) (Or.inr ⟨by rfl, rfl⟩) s11 ?_
  try simp only [Act.put, List.setIfInBounds_toArray, List.set_cons_zero, List.set_cons_succ]
  refine wpAnyL_at (i := 6) (v := undef) (some 65) rfl rfl (by kernel_rfl) (by kernel_rfl) (by kernel_rfl) (by kernel_rfl) (by decide) (fun _ _ _ h => h) (Or.inr ⟨by rfl, rfl⟩) s11 ?_
  try simp only [Act.put, List.setIfInBounds_toArray, List.set_cons_zero, List.set_cons_succ]
  refine wpAnyL_at (i := 7) (v := undef) (some 66) rfl rfl (by kernel_rfl) (by kernel_rfl) (by kernel_rfl) (by kernel_rfl) (by decide) (fun _ _ _ h => h) (Or.inr ⟨by rfl, rfl⟩) s11 ?_
  try simp only [Act.put, List.setIfInBounds_toArray, List.set_cons_zero, List.set_cons_succ]
  refine wpAnyL_at (i := 8) (v := undef) (some 67) rfl rfl (by kernel_rfl) (by kernel_rfl) (by kernel_rfl) (by kernel_rfl) (by decide) (fun _ _ _ h => h) (Or.inr ⟨by rfl, rfl⟩) s11 ?_
  try simp only [Act.put, List.setIfInBounds_toArray, List.set_cons_zero, List.set_cons_succ]
  refine wpAnyL_at (i := 9) (v := undef) (some 68) rfl rfl (by kernel_rfl) (by kernel_rfl) (by kernel_rfl) (by kernel_rfl) (by decide) (fun _ _ _ h => h) (Or.inr ⟨by rfl, rfl⟩) s11 ?_
  try simp only [Act.put, List.setIfInBounds_toArray, List.set_cons_zero, List.set_cons_succ]
  refine wpAnyL_at (i := 10) (v := undef) (some 69) rfl rfl (by kernel_rfl) (by kernel_rfl) (by kernel_rfl) (by kernel_rfl) (by decide) (fun _ _ _ h => h) (Or.inr ⟨by rfl, rfl⟩) s11 ?_
  try simp only [Act.put, List.setIfInBounds_toArray, List.set_cons_zero, List.set_cons_succ]
  refine wpAnyL_at (i := 11) (v := undef) (some 70) rfl rfl (by kernel_rfl) (by kernel_rfl) (by kernel_rfl) (by kernel_rfl) (by decide) (fun _ _ _ h => h) (Or.inr ⟨by rfl, rfl⟩) s11 ?_
  try simp only [Act.put, List.setIfInBounds_toArray, List.set_cons_zero, List.set_cons_succ]
  refine wpAnyL_at (i := 12) (v := .bool false) (some 71) rfl rfl (by kernel_rfl) (by kernel_rfl) (by kernel_rfl) (by kernel_rfl) (by decide) (fun _ _ _ h => h) (Or.inl ⟨by rfl, ?_⟩) s11 ?_
  · intro w hSw
    go_simp
  try simp only [Act.put, List.setIfInBounds_toArray, List.set_cons_zero, List.set_cons_succ]
  refine wpAnyL_one (i := 13) (by kernel_rfl) rfl (fun K hK => ?_)
  go_simp
  refine (must_no ba m.length bc na l.length nc jz n _).mono ?_
  rintro e w6 ⟨rfl, g6⟩
  have s6 := Hd.out.turn g6
  have s12 : S11 W.heap.size (.slice ba m.length bc) (.int .i64 ((jz : Nat) : Int)) (.int .i64 (n : Int)) (.slice na l.length nc) (.int .i64 0) w6 := s11_at s6 (by simp)
  clear p0 p1 p2 p3 p4 d0 d1 d2 d3 d4 q0 q1 q2 q3 q4 f0 f1 f2 f3 f4 hl hlo
  obtain ⟨⟨p0, p1, p2, p3, p4⟩, d0, d1, d2, d3, d4⟩ := five s6.st
  obtain ⟨⟨q0, q1, q2, q3, q4⟩, f0, f1, f2, f3, f4⟩ := five s6.out
  have hl := (Array.getElem?_eq_some_iff.1 s6.st).1
  have hlo := (Array.getElem?_eq_some_iff.1 s6.out).1
  have H6 := Lib.hid (s6.setI (Nat.le_refl _) (.slice ba m.length bc) (.slice na l.length nc) jz n 73 ((jz : Nat) : Int) (by simp))
  clear s6
  refine hK.out _ _ (fun _ => s12) ?_
  clear hK K
  try simp only [Act.put, List.setIfInBounds_toArray, List.set_cons_zero, List.set_cons_succ]
  refine wpAnyL_one (i := 14) (by kernel_rfl) rfl (fun K hK => ?_)
  go_simp
  refine hK.out _ _ (fun h => absurd rfl h) ?_
  clear hK K
  try simp only [Act.put, List.setIfInBounds_toArray, List.set_cons_zero, List.set_cons_succ]
  refine wpAnyL_done (by kernel_rfl) ?_ _
  refine NoPanic.normal ?_
  clear s11 s12
  have P5 := Lib.hid (H6.out.put (Nat.le_refl _) (.slice ba m.length bc) (.slice na l.length nc) jz n 73 ((jz : Nat) : Int) (by simp))
  go_wp2_with fail
  generalize World.setCell (World.setCell (World.setCell (World.setCell (World.setCell _ _ _) _ _) _ _) _ _) _ _ = wa at P5 ⊢
  obtain ⟨E5, G5⟩ := P5.out
  obtain ⟨⟨r0, r1, r2, r3, r4⟩, -⟩ := five E5
  exact bodyPost_ret (v := .tuple #[sv (.slice ba m.length bc) jz n (.slice na l.length nc) 73, .string (sb lz)]) (by simp [results, Tryz.results36, go_sem, r0, r1, r2, r3, r4]) rfl ⟨⟨_, _, rfl⟩, G5⟩
set_option maxRecDepth 20000 in
set_option maxHeartbeats 1600000 in
theorem name_C2c2 (ba : Option Addr) (bc : Nat) (na : Option Addr) (nc : Nat) (m : List Int) (l : List ByteArray) (i n : Nat) (hi : i ≤ m.length) (hl96 : l.length < 4096) (W : World) (hq : Sq Z W (.slice ba m.length bc) m) (hs : Snap W (.slice na l.length nc) l) (q : Nat) (r : List Int) (hb : nmb 10 0 0 (m.drop i) = .ok (l.length, (q : Int) :: r)) (hq1 : 1 ≤ q) (hq2 : q ≤ 32) (hsh : q ≤ r.length) (hnm : isName (sb (r.take q)) = true) (hfn : (fv7 l (sb (r.take q)) == (l.length : Int)) = false) : Calls Tryz.prog 36 #[sv (.slice ba m.length bc) i n (.slice na l.length nc) 0] W fun e w' => (∃ (j : Nat) (s : ByteArray), e = .returned (.tuple #[sv (.slice ba m.length bc) j n (.slice na l.length nc) 73, .string s])) ∧ Gr (fun _ => False) W w' := by
  have hx := Lib.hid (Sx.new W (.slice ba m.length bc) (.slice na l.length nc) i n 0)
  have Hq := Lib.hid (fun w (g : Gr (fun _ => False) W w) => hq.gr g (fun _ _ e => e))
  have Hs := Lib.hid (fun w (g : Gr (fun _ => False) W w) => hs.gr g (fun _ _ e => e))
  have hml : (m.length : Int) ≤ 9223372036854775807 := by obtain ⟨_, _, e, h1, h2, _⟩ := hq; cases e; omega
  have hml0 : (0 : Int) ≤ (m.length : Int) := by omega
  have hll : (l.length : Int) < 4096 := by omega
  have hll0 : (0 : Int) ≤ (l.length : Int) := by omega
  have hw := Lib.hid (fun w g => wide_c ba bc na l.length nc m i n hi w (Hq.out w g))
  rw [hb] at hw
  have hby := Lib.hid hq.byte
  clear hq hs hl96 hi hb
  go_enter Tryz.func36, Tryz.ntmps36
  go_wp2_with fail
  generalize hW1 : World.alloc (World.alloc W _) _ = W1
  have H0 : Hid (Sx W W.heap.size (.slice ba m.length bc) (.slice na l.length nc) i n 0 W1) := Lib.hid (hW1 ▸ hx.out)
  clear hW1 hx
  refine (hw.out _ H0.out.gr).mono ?_
  rintro e w1 ⟨he, g1⟩
  have s1 := H0.out.turn g1
  obtain ⟨j, hj, hjr, hu, rfl⟩ := he
  have Hj := Lib.hid hj
  have Hjr := Lib.hid hjr
  have hu0 : (0 : Int) ≤ (l.length : Int) := by omega
  have huI : (l.length : Int) < 18446744073709551616 := by omega
  clear hj hjr hu
  have hle : decide (l.length ≤ l.length) = true := by simp
  have hltb : decide (l.length < l.length) = false := by simp
  have hjl : j < m.length := by have h1 := Hj.out; have h2 := congrArg List.length Hjr.out; simp at h2; omega
  have hmx : m[j]? = some (q : Int) := by have h2 := congrArg (fun y => y[0]?) Hjr.out; simpa [List.getElem?_drop] using h2
  have hmr : Hid (m.drop (j + 1) = r) := Lib.hid (by have h2 := congrArg List.tail Hjr.out; simpa [List.tail_drop] using h2)
  have hbx := hby.out (q : Int) (List.mem_of_getElem? hmx)
  have hj1 : Hid (j + 1 ≤ m.length) := Lib.hid hjl
  have h1j := Lib.hid (fun w g => rone_ok ba bc na l.length nc j n m (q : Int) hmx w (Hq.out w g))
  clear hmx hjl
  have hq1I : (1 : Int) ≤ (q : Int) := by omega
  have hq2I : (q : Int) ≤ 32 := by omega
  have h5 := Lib.hid (fun w g => (some_c ba bc na l.length nc m (j + 1) n q hj1.out (by omega) w (Hq.out w g)).mono (R' := fun e w' => (∃ (jz : Nat) (ua : Option Addr) (uc : Nat) (lz : List Int), Hid (jz = j + 1 + q ∧ lz = r.take q) ∧ e = .returned (.tuple #[sv (.slice ba m.length bc) jz n (.slice na l.length nc) 0, .slice ua lz.length uc]) ∧ Ob (w.heap.size + 2) w' (.slice ua lz.length uc) lz) ∧ Gr (fun _ => False) w w') (fun e w' h => by
    obtain ⟨h1, h2⟩ := h
    unfold EndS at h1
    rw [if_pos (by have := hmr.out; have h3 := congrArg List.length this; simp at h3; omega)] at h1
    obtain ⟨u, he, hob⟩ := h1
    rw [hmr.out] at hob
    obtain ⟨ua, uc, rfl⟩ := hob.sv
    exact ⟨⟨_, ua, uc, _, Lib.hid ⟨rfl, rfl⟩, he, hob⟩, h2⟩))
  have Hsh := Lib.hid hsh
  have Hjl : Hid (j + 1 + q ≤ m.length) := Lib.hid (by have := hmr.out; have h3 := congrArg List.length this; have := hj1.out; simp at h3; omega)
  clear hsh hq1 hq2
  obtain ⟨⟨p0, p1, p2, p3, p4⟩, d0, d1, d2, d3, d4⟩ := five s1.st
  obtain ⟨⟨q0, q1, q2, q3, q4⟩, f0, f1, f2, f3, f4⟩ := five s1.out
  have hl := (Array.getElem?_eq_some_iff.1 s1.st).1
  have hlo := (Array.getElem?_eq_some_iff.1 s1.out).1
  have H1 := Lib.hid (s1.setI (Nat.le_refl _) (.slice ba m.length bc) (.slice na l.length nc) j n 0 ((j : Nat) : Int) (by simp))
  clear s1 H0
  go_wp2_with fail
  generalize World.setCell (World.setCell (World.setCell (World.setCell (World.setCell w1 _ _) _ _) _ _) _ _) _ _ = X1 at H1 ⊢
  clear p0 p1 p2 p3 p4 d0 d1 d2 d3 d4 q0 q1 q2 q3 q4 f0 f1 f2 f3 f4 hl hlo
  refine (must_yes ba m.length bc na l.length nc j n 0 _).mono ?_
  rintro e w2 ⟨rfl, g2⟩
  have s2 := H1.out.turn g2
  obtain ⟨⟨p0, p1, p2, p3, p4⟩, d0, d1, d2, d3, d4⟩ := five s2.st
  obtain ⟨⟨q0, q1, q2, q3, q4⟩, f0, f1, f2, f3, f4⟩ := five s2.out
  have hl := (Array.getElem?_eq_some_iff.1 s2.st).1
  have hlo := (Array.getElem?_eq_some_iff.1 s2.out).1
  have H2 := Lib.hid (s2.setI (Nat.le_refl _) (.slice ba m.length bc) (.slice na l.length nc) j n 0 ((j : Nat) : Int) (by simp))
  clear s2 H1
  go_wp2_with fail
  generalize World.setCell (World.setCell (World.setCell (World.setCell (World.setCell w2 _ _) _ _) _ _) _ _) _ _ = X2 at H2 ⊢
  clear p0 p1 p2 p3 p4 d0 d1 d2 d3 d4 q0 q1 q2 q3 q4 f0 f1 f2 f3 f4 hl hlo
  refine (h1j.out _ H2.out.gr).mono ?_
  rintro e w3 ⟨rfl, g3⟩
  have s3 := H2.out.turn g3
  obtain ⟨⟨p0, p1, p2, p3, p4⟩, d0, d1, d2, d3, d4⟩ := five s3.st
  obtain ⟨⟨q0, q1, q2, q3, q4⟩, f0, f1, f2, f3, f4⟩ := five s3.out
  have hl := (Array.getElem?_eq_some_iff.1 s3.st).1
  have hlo := (Array.getElem?_eq_some_iff.1 s3.out).1
  have H3 := Lib.hid (s3.setI (Nat.le_refl _) (.slice ba m.length bc) (.slice na l.length nc) (j + 1) n 0 ((j : Int) + 1) (by simp))
  clear s3 H2
  go_wp2_with fail
  generalize World.setCell (World.setCell (World.setCell (World.setCell (World.setCell w3 _ _) _ _) _ _) _ _) _ _ = X3 at H3 ⊢
  clear p0 p1 p2 p3 p4 d0 d1 d2 d3 d4 q0 q1 q2 q3 q4 f0 f1 f2 f3 f4 hl hlo
  refine (must_yes ba m.length bc na l.length nc (j + 1) n 0 _).mono ?_
  rintro e w4 ⟨rfl, g4⟩
  have s4 := H3.out.turn g4
  obtain ⟨⟨p0, p1, p2, p3, p4⟩, d0, d1, d2, d3, d4⟩ := five s4.st
  obtain ⟨⟨q0, q1, q2, q3, q4⟩, f0, f1, f2, f3, f4⟩ := five s4.out
  have hl := (Array.getElem?_eq_some_iff.1 s4.st).1
  have hlo := (Array.getElem?_eq_some_iff.1 s4.out).1
  have H4 := Lib.hid (s4.setI (Nat.le_refl _) (.slice ba m.length bc) (.slice na l.length nc) (j + 1) n 0 ((j : Int) + 1) (by simp))
  clear s4 H3
  go_wp2_with fail
  generalize World.setCell (World.setCell (World.setCell (World.setCell (World.setCell w4 _ _) _ _) _ _) _ _) _ _ = X4 at H4 ⊢
  clear p0 p1 p2 p3 p4 d0 d1 d2 d3 d4 q0 q1 q2 q3 q4 f0 f1 f2 f3 f4 hl hlo
  have hXl := (Array.getElem?_eq_some_iff.1 H4.out.st).1
  refine (h5.out _ H4.out.gr).mono ?_
  rintro e w5 ⟨⟨jz, ua, uc, lz, hjz, rfl, hob⟩, g5⟩
  have s5 := H4.out.turn g5
  have hcv : (convert 22 9 (.slice ua lz.length uc)).run Tryz.prog ((((((w5).setCell ⟨W.heap.size, 0, none⟩ (.slice ba m.length bc)).setCell ⟨W.heap.size, 1, none⟩ (.int .i64 ((jz : Nat) : Int))).setCell ⟨W.heap.size, 2, none⟩ (.int .i64 (n : Int))).setCell ⟨W.heap.size, 3, none⟩ (.slice na l.length nc)).setCell ⟨W.heap.size, 4, none⟩ (.int .i64 0)) = .ok (.string (sb lz)) ((((((w5).setCell ⟨W.heap.size, 0, none⟩ (.slice ba m.length bc)).setCell ⟨W.heap.size, 1, none⟩ (.int .i64 ((jz : Nat) : Int))).setCell ⟨W.heap.size, 2, none⟩ (.int .i64 (n : Int))).setCell ⟨W.heap.size, 3, none⟩ (.slice na l.length nc)).setCell ⟨W.heap.size, 4, none⟩ (.int .i64 0)) := conv_sb ((hob.gr (Gr.own5 w5 W.heap.size _ _ _ _ _) (fun k h1 _ e => by omega)).sb)
  have Hob := Lib.hid hob
  clear hob hXl
  obtain ⟨⟨p0, p1, p2, p3, p4⟩, d0, d1, d2, d3, d4⟩ := five s5.st
  obtain ⟨⟨q0, q1, q2, q3, q4⟩, f0, f1, f2, f3, f4⟩ := five s5.out
  have hl := (Array.getElem?_eq_some_iff.1 s5.st).1
  have hlo := (Array.getElem?_eq_some_iff.1 s5.out).1
  have H5 := Lib.hid (s5.setI (Nat.le_refl _) (.slice ba m.length bc) (.slice na l.length nc) jz n 0 ((jz : Nat) : Int) (by simp))
  clear s5 H4
  have hnb : isName (sb lz) = true := by rw [hjz.out.2]; exact hnm
  have hfe : (fv7 l (sb lz) == (l.length : Int)) = false := by rw [hjz.out.2]; exact hfn
  clear hnm hfn
  have hN := Lib.hid (fun w => show Calls Tryz.prog 59 #[.string (sb lz)] w fun e w' => e = .returned (.bool true) ∧ w = w' by have h := refName_c (sb lz) w; rw [hnb] at h; exact h)
  clear hnb
  have HF := Lib.hid (fun w (g : Gr (fun _ => False) W w) => show Calls Tryz.prog 60 #[(.slice na l.length nc), .string (sb lz)] w fun e w' => e = .returned (.int .i64 (fv7 l (sb lz))) ∧ w = w' from refFind_c w _ l (sb lz) (Hs.out w g))
  generalize fv7 l (sb lz) = fz at hfe HF
  go_wp2_with fail
  generalize World.setCell (World.setCell (World.setCell (World.setCell (World.setCell w5 _ _) _ _) _ _) _ _) _ _ = X5 at H5 ⊢
  clear p0 p1 p2 p3 p4 d0 d1 d2 d3 d4 q0 q1 q2 q3 q4 f0 f1 f2 f3 f4 hl hlo
  have Hd := Lib.hid (H5.out.turn (Gr.drew _ (fun _ => False)))
  obtain ⟨⟨p0, p1, p2, p3, p4⟩, d0, d1, d2, d3, d4⟩ := five H5.out.st
  obtain ⟨⟨q0, q1, q2, q3, q4⟩, f0, f1, f2, f3, f4⟩ := five H5.out.out
  have hl := (Array.getElem?_eq_some_iff.1 H5.out.st).1
  have hlo := (Array.getElem?_eq_some_iff.1 H5.out.out).1
  have s11 : S11 W.heap.size (.slice ba m.length bc) (.int .i64 ((jz : Nat) : Int)) (.int .i64 (n : Int)) (.slice na l.length nc) (.int .i64 0) X5.drew := s11_at Hd.out (by simp)
  refine wp_region_L (L := 14) (T := S11 W.heap.size (.slice ba m.length bc) (.int .i64 ((jz : Nat) : Int)) (.int .i64 (n : Int)) (.slice na l.length nc) (.int .i64 0)) (by kernel_rfl) ?_
  refine wpAnyL_at (i := 0) (v := sv (.slice ba m.length bc) jz n (.slice na l.length nc) 0) (some 59) rfl rfl (by kernel_rfl) (by kernel_rfl) (by kernel_rfl) (by kernel_rfl) (by decide) (fun _ _ _ h => h) (Or.inl ⟨by rfl, ?_⟩) s11 ?_
  · intro w hSw
    go_simp
  try simp only [Act.put, List.setIfInBounds_toArray, List.set_cons_zero, List.set_cons_succ]
  refine wpAnyL_at (i := 1) (v := .string (sb lz)) (some 60) rfl rfl (by kernel_rfl) (by kernel_rfl) (by kernel_rfl) (by kernel_rfl) (by decide) (fun _ _ _ h => h) (Or.inl ⟨by rfl, ?_⟩) s11 ?_
  · intro w hSw
    go_simp
  try simp only [Act.put, List.setIfInBounds_toArray, List.set_cons_zero, List.set_cons_succ]
  refine wpAnyL_one (i := 2) (by kernel_rfl) rfl (fun K hK => ?_)
  go_simp
  refine (hN.out _).mono ?_
  rintro e wn ⟨rfl, rfl⟩
  refine hK.out _ _ (fun _ => s11) ?_
  clear hK K
  try simp only [Act.put, List.setIfInBounds_toArray, List.set_cons_zero, List.set_cons_succ]
  refine wpAnyL_at (i := 3) (v := .bool true) (some 62) rfl rfl (by kernel_rfl) (by kernel_rfl) (by kernel_rfl) (by kernel_rfl) (by decide) (fun _ _ _ h => h) (Or.inl ⟨by rfl, ?_⟩) s11 ?_
  · intro w hSw
    go_simp
  try simp only [Act.put, List.setIfInBounds_toArray, List.set_cons_zero, List.set_cons_succ]
  refine wpAnyL_at (i := 4) (v := (.pointer (some ⟨W.heap.size, 3, none⟩))) (some 63) rfl rfl (by kernel_rfl) (by kernel_rfl) (by kernel_rfl) (by kernel_rfl) (by decide) (fun _ _ _ h => h) (Or.inl ⟨by rfl, ?_⟩) s11 ?_
  · intro w hSw
    go_simp
  try simp only [Act.put, List.setIfInBounds_toArray, List.set_cons_zero, List.set_cons_succ]
  refine wpAnyL_at (i := 5) (v := (.slice na l.length nc)) (some 64) rfl rfl (by kernel_rfl) (by kernel_rfl) (by kernel_rfl) (by kernel_rfl) (by decide) (fun _ _ _ h => h) (Or.inl ⟨by rfl, ?_⟩) s11 ?_
  · intro w hSw
    go_simp
  try simp only [Act.put, List.setIfInBounds_toArray, List.set_cons_zero, List.set_cons_succ]
  refine wpAnyL_at (i := 6) (v := .string (sb lz)) (some 65) rfl rfl (by kernel_rfl) (by kernel_rfl) (by kernel_rfl) (by kernel_rfl) (by decide) (fun _ _ _ h => h) (Or.inl ⟨by rfl, ?_⟩) s11 ?_
  · intro w hSw
    go_simp
  try simp only [Act.put, List.setIfInBounds_toArray, List.set_cons_zero, List.set_cons_succ]
  refine wpAnyL_at (i := 8) (v := (.pointer (some ⟨W.heap.size, 3, none⟩))) (some 67) rfl rfl (by kernel_rfl) (by kernel_rfl) (by kernel_rfl) (by kernel_rfl) (by decide) (fun _ _ _ h => h) (Or.inl ⟨by rfl, ?_⟩) s11 ?_
  · intro w hSw
    go_simp
  try simp only [Act.put, List.setIfInBounds_toArray, List.set_cons_zero, List.set_cons_succ]
  refine wpAnyL_at (i := 9) (v := (.slice na l.length nc)) (some 68) rfl rfl (by kernel_rfl) (by kernel_rfl) (by kernel_rfl) (by kernel_rfl) (by decide) (fun _ _ _ h => h) (Or.inl ⟨by rfl, ?_⟩) s11 ?_
  · intro w hSw
    go_simp
  try simp only [Act.put, List.setIfInBounds_toArray, List.set_cons_zero, List.set_cons_succ]
  refine wpAnyL_at (i := 10) (v := (.int .i64 (l.length : Int))) (some 69) rfl rfl (by kernel_rfl) (by kernel_rfl) (by kernel_rfl) (by kernel_rfl) (by decide) (fun _ _ _ h => h) (Or.inl ⟨by rfl, ?_⟩) s11 ?_
  · intro w hSw
    go_simp
  try simp only [Act.put, List.setIfInBounds_toArray, List.set_cons_zero, List.set_cons_succ]
  refine wpAnyL_one (i := 7) (by kernel_rfl) rfl (fun K hK => ?_)
  go_simp
  refine (HF.out _ Hd.out.gr).mono ?_
  rintro e wn ⟨rfl, rfl⟩
  refine hK.out _ _ (fun _ => s11) ?_
  clear hK K
  try simp only [Act.put, List.setIfInBounds_toArray, List.set_cons_zero, List.set_cons_succ]
  refine wpAnyL_at (i := 11) (v := .bool false) (some 70) rfl rfl (by kernel_rfl) (by kernel_rfl) (by kernel_rfl) (by kernel_rfl) (by decide) (fun _ _ _ h => h) (Or.inl ⟨by rfl, ?_⟩) s11 ?_
  · intro w hSw
    go_simp
  try simp only [Act.put, List.setIfInBounds_toArray, List.set_cons_zero, List.set_cons_succ]
  refine wpAnyL_at (i := 12) (v := .bool false) (some 71) rfl rfl (by kernel_rfl) (by kernel_rfl) (by kernel_rfl) (by kernel_rfl) (by decide) (fun _ _ _ h => h) (Or.inl ⟨by rfl, ?_⟩) s11 ?_
  · intro w hSw
    go_simp
  try simp only [Act.put, List.setIfInBounds_toArray, List.set_cons_zero, List.set_cons_succ]
  refine wpAnyL_one (i := 13) (by kernel_rfl) rfl (fun K hK => ?_)
  go_simp
  refine (must_no ba m.length bc na l.length nc jz n _).mono ?_
  rintro e w6 ⟨rfl, g6⟩
  have s6 := Hd.out.turn g6
  have s12 : S11 W.heap.size (.slice ba m.length bc) (.int .i64 ((jz : Nat) : Int)) (.int .i64 (n : Int)) (.slice na l.length nc) (.int .i64 0) w6 := s11_at s6 (by simp)
  clear p0 p1 p2 p3 p4 d0 d1 d2 d3 d4 q0 q1 q2 q3 q4 f0 f1 f2 f3 f4 hl hlo
  obtain ⟨⟨p0, p1, p2, p3, p4⟩, d0, d1, d2, d3, d4⟩ := five s6.st
  obtain ⟨⟨q0, q1, q2, q3, q4⟩, f0, f1, f2, f3, f4⟩ := five s6.out
  have hl := (Array.getElem?_eq_some_iff.1 s6.st).1
  have hlo := (Array.getElem?_eq_some_iff.1 s6.out).1
  have H6 := Lib.hid (s6.setI (Nat.le_refl _) (.slice ba m.length bc) (.slice na l.length nc) jz n 73 ((jz : Nat) : Int) (by simp))
  clear s6
  refine hK.out _ _ (fun _ => s12) ?_
  clear hK K
  try simp only [Act.put, List.setIfInBounds_toArray, List.set_cons_zero, List.set_cons_succ]
  refine wpAnyL_one (i := 14) (by kernel_rfl) rfl (fun K hK => ?_)
  go_simp
  refine hK.out _ _ (fun h => absurd rfl h) ?_
  clear hK K
  try simp only [Act.put, List.setIfInBounds_toArray, List.set_cons_zero, List.set_cons_succ]
  refine wpAnyL_done (by kernel_rfl) ?_ _
  refine NoPanic.normal ?_
  clear s11 s12
  have P5 := Lib.hid (H6.out.put (Nat.le_refl _) (.slice ba m.length bc) (.slice na l.length nc) jz n 73 ((jz : Nat) : Int) (by simp))
  go_wp2_with fail
  generalize World.setCell (World.setCell (World.setCell (World.setCell (World.setCell _ _ _) _ _) _ _) _ _) _ _ = wa at P5 ⊢
  obtain ⟨E5, G5⟩ := P5.out
  obtain ⟨⟨r0, r1, r2, r3, r4⟩, -⟩ := five E5
  exact bodyPost_ret (v := .tuple #[sv (.slice ba m.length bc) jz n (.slice na l.length nc) 73, .string (sb lz)]) (by simp [results, Tryz.results36, go_sem, r0, r1, r2, r3, r4]) rfl ⟨⟨_, _, rfl⟩, G5⟩
end Go.Proofs.YtmohehfkbhllpaaGreat
