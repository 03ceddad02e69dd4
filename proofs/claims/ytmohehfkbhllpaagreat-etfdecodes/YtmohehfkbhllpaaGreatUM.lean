/-
  The reference's reader: a new name.
  The reference's reader: a name, whatever the bytes.
  The reference's reader: a part that gives up at once.
-/
import Derived.Test.YtmohehfkbhllpaaGreatUK
import Derived.Deep.RegionHeld3
set_option linter.unusedVariables false
set_option linter.unusedSimpArgs false
namespace Go.Proofs.YtmohehfkbhllpaaGreat
open Go.RowKit Go.Maps
variable {S S' Z : Nat → Prop} {W W1 W' : World}
set_option maxRecDepth 20000 in
set_option maxHeartbeats 1600000 in
theorem name_C2c3 (ba : Option Addr) (bc : Nat) (na : Option Addr) (nc : Nat) (m : List Int) (l : List ByteArray) (i n : Nat) (hi : i ≤ m.length) (hl96 : l.length < 4096) (W : World) (hq : Sq Z W (.slice ba m.length bc) m) (hs : Snap W (.slice na l.length nc) l) (q : Nat) (r : List Int) (hb : nmb 10 0 0 (m.drop i) = .ok (l.length, (q : Int) :: r)) (hq1 : 1 ≤ q) (hq2 : q ≤ 32) (hsh : q ≤ r.length) (hnm : isName (sb (r.take q)) = true) (hfn : (fv7 l (sb (r.take q)) == (l.length : Int)) = true) : Calls Tryz.prog 36 #[sv (.slice ba m.length bc) i n (.slice na l.length nc) 0] W fun e w' => (∃ (j : Nat) (na' : Option Addr) (nc' : Nat), j ≤ m.length ∧ m.drop j = r.drop q ∧ e = .returned (.tuple #[sv (.slice ba m.length bc) j n (.slice na' (l.length + 1) nc') 0, .string (sb (r.take q))]) ∧ Snap w' (.slice na' (l ++ [sb (r.take q)]).length nc') (l ++ [sb (r.take q)])) ∧ Gr (fun _ => False) W w' := by
  have hx := Lib.hid (Sx.new W (.slice ba m.length bc) (.slice na l.length nc) i n 0)
  have Hq := Lib.hid (fun w (g : Gr (fun _ => False) W w) => hq.gr g (fun _ _ e => e))
  have Hs := Lib.hid (fun w (g : Gr (fun _ => False) W w) => hs.gr g (fun _ _ e => e))
  have hml : (m.length : Int) ≤ 9223372036854775807 := by obtain ⟨_, _, e, h1, h2, _⟩ := hq; cases e; omega
  have hml0 : (0 : Int) ≤ (m.length : Int) := by omega
  have hll : (l.length : Int) < 4096 := by omega
  have hll0 : (0 : Int) ≤ (l.length : Int) := by omega
  have hw := Lib.hid (fun w g => wide_c ba bc na l.length nc m i n hi w (Hq.out w g))
  rw [hb] at hw
  have hby := Lib.hid hq.byte
  clear hq hs hl96 hi hb
  go_enter Tryz.func36, Tryz.ntmps36
  go_wp2_with fail
  generalize hW1 : World.alloc (World.alloc W _) _ = W1
  have H0 : Hid (Sx W W.heap.size (.slice ba m.length bc) (.slice na l.length nc) i n 0 W1) := Lib.hid (hW1 ▸ hx.out)
  clear hW1 hx
  refine (hw.out _ H0.out.gr).mono ?_
  rintro e w1 ⟨he, g1⟩
  have s1 := H0.out.turn g1
  obtain ⟨j, hj, hjr, hu, rfl⟩ := he
  have Hj := Lib.hid hj
  have Hjr := Lib.hid hjr
  have hu0 : (0 : Int) ≤ (l.length : Int) := by omega
  have huI : (l.length : Int) < 18446744073709551616 := by omega
  clear hj hjr hu
  have hle : decide (l.length ≤ l.length) = true := by simp
  have hltb : decide (l.length < l.length) = false := by simp
  have hjl : j < m.length := by have h1 := Hj.out; have h2 := congrArg List.length Hjr.out; simp at h2; omega
  have hmx : m[j]? = some (q : Int) := by have h2 := congrArg (fun y => y[0]?) Hjr.out; simpa [List.getElem?_drop] using h2
  have hmr : Hid (m.drop (j + 1) = r) := Lib.hid (by have h2 := congrArg List.tail Hjr.out; simpa [List.tail_drop] using h2)
  have hbx := hby.out (q : Int) (List.mem_of_getElem? hmx)
  have hj1 : Hid (j + 1 ≤ m.length) := Lib.hid hjl
  have h1j := Lib.hid (fun w g => rone_ok ba bc na l.length nc j n m (q : Int) hmx w (Hq.out w g))
  clear hmx hjl
  have hq1I : (1 : Int) ≤ (q : Int) := by omega
  have hq2I : (q : Int) ≤ 32 := by omega
  have h5 := Lib.hid (fun w g => (some_c ba bc na l.length nc m (j + 1) n q hj1.out (by omega) w (Hq.out w g)).mono (R' := fun e w' => (∃ (jz : Nat) (ua : Option Addr) (uc : Nat) (lz : List Int), Hid (jz = j + 1 + q ∧ lz = r.take q) ∧ e = .returned (.tuple #[sv (.slice ba m.length bc) jz n (.slice na l.length nc) 0, .slice ua lz.length uc]) ∧ Ob (w.heap.size + 2) w' (.slice ua lz.length uc) lz) ∧ Gr (fun _ => False) w w') (fun e w' h => by
    obtain ⟨h1, h2⟩ := h
    unfold EndS at h1
    rw [if_pos (by have := hmr.out; have h3 := congrArg List.length this; simp at h3; omega)] at h1
    obtain ⟨u, he, hob⟩ := h1
    rw [hmr.out] at hob
    obtain ⟨ua, uc, rfl⟩ := hob.sv
    exact ⟨⟨_, ua, uc, _, Lib.hid ⟨rfl, rfl⟩, he, hob⟩, h2⟩))
  have Hsh := Lib.hid hsh
  have Hjl : Hid (j + 1 + q ≤ m.length) := Lib.hid (by have := hmr.out; have h3 := congrArg List.length this; have := hj1.out; simp at h3; omega)
  clear hsh hq1 hq2
  obtain ⟨⟨p0, p1, p2, p3, p4⟩, d0, d1, d2, d3, d4⟩ := five s1.st
  obtain ⟨⟨q0, q1, q2, q3, q4⟩, f0, f1, f2, f3, f4⟩ := five s1.out
  have hl := (Array.getElem?_eq_some_iff.1 s1.st).1
  have hlo := (Array.getElem?_eq_some_iff.1 s1.out).1
  have H1 := Lib.hid (s1.setI (Nat.le_refl _) (.slice ba m.length bc) (.slice na l.length nc) j n 0 ((j : Nat) : Int) (by simp))
  clear s1 H0
  go_wp2_with fail
  generalize World.setCell (World.setCell (World.setCell (World.setCell (World.setCell w1 _ _) _ _) _ _) _ _) _ _ = X1 at H1 ⊢
  clear p0 p1 p2 p3 p4 d0 d1 d2 d3 d4 q0 q1 q2 q3 q4 f0 f1 f2 f3 f4 hl hlo
  refine (must_yes ba m.length bc na l.length nc j n 0 _).mono ?_
  rintro e w2 ⟨rfl, g2⟩
  have s2 := H1.out.turn g2
  obtain ⟨⟨p0, p1, p2, p3, p4⟩, d0, d1, d2, d3, d4⟩ := five s2.st
  obtain ⟨⟨q0, q1, q2, q3, q4⟩, f0, f1, f2, f3, f4⟩ := five s2.out
  have hl := (Array.getElem?_eq_some_iff.1 s2.st).1
  have hlo := (Array.getElem?_eq_some_iff.1 s2.out).1
  have H2 := Lib.hid (s2.setI (Nat.le_refl _) (.slice ba m.length bc) (.slice na l.length nc) j n 0 ((j : Nat) : Int) (by simp))
  clear s2 H1
  go_wp2_with fail
  generalize World.setCell (World.setCell (World.setCell (World.setCell (World.setCell w2 _ _) _ _) _ _) _ _) _ _ = X2 at H2 ⊢
  clear p0 p1 p2 p3 p4 d0 d1 d2 d3 d4 q0 q1 q2 q3 q4 f0 f1 f2 f3 f4 hl hlo
  refine (h1j.out _ H2.out.gr).mono ?_
  rintro e w3 ⟨rfl, g3⟩
  have s3 := H2.out.turn g3
  obtain ⟨⟨p0, p1, p2, p3, p4⟩, d0, d1, d2, d3, d4⟩ := five s3.st
  obtain ⟨⟨q0, q1, q2, q3, q4⟩, f0, f1, f2, f3, f4⟩ := five s3.out
  have hl := (Array.getElem?_eq_some_iff.1 s3.st).1
  have hlo := (Array.getElem?_eq_some_iff.1 s3.out).1
  have H3 := Lib.hid (s3.setI (Nat.le_refl _) (.slice ba m.length bc) (.slice na l.length nc) (j + 1) n 0 ((j : Int) + 1) (by simp))
  clear s3 H2
  go_wp2_with fail
  generalize World.setCell (World.setCell (World.setCell (World.setCell (World.setCell w3 _ _) _ _) _ _) _ _) _ _ = X3 at H3 ⊢
  clear p0 p1 p2 p3 p4 d0 d1 d2 d3 d4 q0 q1 q2 q3 q4 f0 f1 f2 f3 f4 hl hlo
  refine (must_yes ba m.length bc na l.length nc (j + 1) n 0 _).mono ?_
  rintro e w4 ⟨rfl, g4⟩
  have s4 := H3.out.turn g4
  obtain ⟨⟨p0, p1, p2, p3, p4⟩, d0, d1, d2, d3, d4⟩ := five s4.st
  obtain ⟨⟨q0, q1, q2, q3, q4⟩, f0, f1, f2, f3, f4⟩ := five s4.out
  have hl := (Array.getElem?_eq_some_iff.1 s4.st).1
  have hlo := (Array.getElem?_eq_some_iff.1 s4.out).1
  have H4 := Lib.hid (s4.setI (Nat.le_refl _) (.slice ba m.length bc) (.slice na l.length nc) (j + 1) n 0 ((j : Int) + 1) (by simp))
  clear s4 H3
  go_wp2_with fail
  generalize World.setCell (World.setCell (World.setCell (World.setCell (World.setCell w4 _ _) _ _) _ _) _ _) _ _ = X4 at H4 ⊢
  clear p0 p1 p2 p3 p4 d0 d1 d2 d3 d4 q0 q1 q2 q3 q4 f0 f1 f2 f3 f4 hl hlo
  have hXl := (Array.getElem?_eq_some_iff.1 H4.out.st).1
  refine (h5.out _ H4.out.gr).mono ?_
  rintro e w5 ⟨⟨jz, ua, uc, lz, hjz, rfl, hob⟩, g5⟩
  have s5 := H4.out.turn g5
  have hcv : (convert 22 9 (.slice ua lz.length uc)).run Tryz.prog ((((((w5).setCell ⟨W.heap.size, 0, none⟩ (.slice ba m.length bc)).setCell ⟨W.heap.size, 1, none⟩ (.int .i64 ((jz : Nat) : Int))).setCell ⟨W.heap.size, 2, none⟩ (.int .i64 (n : Int))).setCell ⟨W.heap.size, 3, none⟩ (.slice na l.length nc)).setCell ⟨W.heap.size, 4, none⟩ (.int .i64 0)) = .ok (.string (sb lz)) ((((((w5).setCell ⟨W.heap.size, 0, none⟩ (.slice ba m.length bc)).setCell ⟨W.heap.size, 1, none⟩ (.int .i64 ((jz : Nat) : Int))).setCell ⟨W.heap.size, 2, none⟩ (.int .i64 (n : Int))).setCell ⟨W.heap.size, 3, none⟩ (.slice na l.length nc)).setCell ⟨W.heap.size, 4, none⟩ (.int .i64 0)) := conv_sb ((hob.gr (Gr.own5 w5 W.heap.size _ _ _ _ _) (fun k h1 _ e => by omega)).sb)
  have Hob := Lib.hid hob
  clear hob hXl
  obtain ⟨⟨p0, p1, p2, p3, p4⟩, d0, d1, d2, d3, d4⟩ := five s5.st
  obtain ⟨⟨q0, q1, q2, q3, q4⟩, f0, f1, f2, f3, f4⟩ := five s5.out
  have hl := (Array.getElem?_eq_some_iff.1 s5.st).1
  have hlo := (Array.getElem?_eq_some_iff.1 s5.out).1
  have H5 := Lib.hid (s5.setI (Nat.le_refl _) (.slice ba m.length bc) (.slice na l.length nc) jz n 0 ((jz : Nat) : Int) (by simp))
  clear s5 H4
  have hnb : isName (sb lz) = true := by rw [hjz.out.2]; exact hnm
  have hfe : (fv7 l (sb lz) == (l.length : Int)) = true := by rw [hjz.out.2]; exact hfn
  clear hnm hfn
  have hN := Lib.hid (fun w => show Calls Tryz.prog 59 #[.string (sb lz)] w fun e w' => e = .returned (.bool true) ∧ w = w' by have h := refName_c (sb lz) w; rw [hnb] at h; exact h)
  clear hnb
  have HF := Lib.hid (fun w (g : Gr (fun _ => False) W w) => show Calls Tryz.prog 60 #[(.slice na l.length nc), .string (sb lz)] w fun e w' => e = .returned (.int .i64 (fv7 l (sb lz))) ∧ w = w' from refFind_c w _ l (sb lz) (Hs.out w g))
  generalize fv7 l (sb lz) = fz at hfe HF
  go_wp2_with fail
  generalize World.setCell (World.setCell (World.setCell (World.setCell (World.setCell w5 _ _) _ _) _ _) _ _) _ _ = X5 at H5 ⊢
  clear p0 p1 p2 p3 p4 d0 d1 d2 d3 d4 q0 q1 q2 q3 q4 f0 f1 f2 f3 f4 hl hlo
  have Hd := Lib.hid (H5.out.turn (Gr.drew _ (fun _ => False)))
  obtain ⟨⟨p0, p1, p2, p3, p4⟩, d0, d1, d2, d3, d4⟩ := five H5.out.st
  obtain ⟨⟨q0, q1, q2, q3, q4⟩, f0, f1, f2, f3, f4⟩ := five H5.out.out
  have hl := (Array.getElem?_eq_some_iff.1 H5.out.st).1
  have hlo := (Array.getElem?_eq_some_iff.1 H5.out.out).1
  have s11 : S11 W.heap.size (.slice ba m.length bc) (.int .i64 ((jz : Nat) : Int)) (.int .i64 (n : Int)) (.slice na l.length nc) (.int .i64 0) X5.drew := s11_at Hd.out (by simp)
  refine wp_region_L (L := 14) (T := S11 W.heap.size (.slice ba m.length bc) (.int .i64 ((jz : Nat) : Int)) (.int .i64 (n : Int)) (.slice na l.length nc) (.int .i64 0)) (by kernel_rfl) ?_
  refine wpAnyL_at (i := 0) (v := sv (.slice ba m.length bc) jz n (.slice na l.length nc) 0) (some 59) rfl rfl (by kernel_rfl) (by kernel_rfl) (by kernel_rfl) (by kernel_rfl) (by decide) (fun _ _ _ h => h) (Or.inl ⟨by rfl, ?_⟩) s11 ?_
  · intro w hSw
    go_simp
  try simp only [Act.put, List.setIfInBounds_toArray, List.set_cons_zero, List.set_cons_succ]
  refine wpAnyL_at (i := 1) (v := .string (sb lz)) (some 60) rfl rfl (by kernel_rfl) (by kernel_rfl) (by kernel_rfl) (by kernel_rfl) (by decide) (fun _ _ _ h => h) (Or.inl ⟨by rfl, ?_⟩) s11 ?_
  · intro w hSw
    go_simp
  try simp only [Act.put, List.setIfInBounds_toArray, List.set_cons_zero, List.set_cons_succ]
  refine wpAnyL_one (i := 2) (by kernel_rfl) rfl (fun K hK => ?_)
  go_simp
  refine (hN.out _).mono ?_
  rintro e wn ⟨rfl, rfl⟩
  refine hK.out _ _ (fun _ => s11) ?_
  clear hK K
  try simp only [Act.put, List.setIfInBounds_toArray, List.set_cons_zero, List.set_cons_succ]
  refine wpAnyL_at (i := 3) (v := .bool true) (some 62) rfl rfl (by kernel_rfl) (by kernel_rfl) (by kernel_rfl) (by kernel_rfl) (by decide) (fun _ _ _ h => h) (Or.inl ⟨by rfl, ?_⟩) s11 ?_
  · intro w hSw
    go_simp
  try simp only [Act.put, List.setIfInBounds_toArray, List.set_cons_zero, List.set_cons_succ]
  refine wpAnyL_at (i := 4) (v := (.pointer (some ⟨W.heap.size, 3, none⟩))) (some 63) rfl rfl (by kernel_rfl) (by kernel_rfl) (by kernel_rfl) (by kernel_rfl) (by decide) (fun _ _ _ h => h) (Or.inl ⟨by rfl, ?_⟩) s11 ?_
  · intro w hSw
    go_simp
  try simp only [Act.put, List.setIfInBounds_toArray, List.set_cons_zero, List.set_cons_succ]
  refine wpAnyL_at (i := 5) (v := (.slice na l.length nc)) (some 64) rfl rfl (by kernel_rfl) (by kernel_rfl) (by kernel_rfl) (by kernel_rfl) (by decide) (fun _ _ _ h => h) (Or.inl ⟨by rfl, ?_⟩) s11 ?_
  · intro w hSw
    go_simp
  try simp only [Act.put, List.setIfInBounds_toArray, List.set_cons_zero, List.set_cons_succ]
  refine wpAnyL_at (i := 6) (v := .string (sb lz)) (some 65) rfl rfl (by kernel_rfl) (by kernel_rfl) (by kernel_rfl) (by kernel_rfl) (by decide) (fun _ _ _ h => h) (Or.inl ⟨by rfl, ?_⟩) s11 ?_
  · intro w hSw
    go_simp
  try simp only [Act.put, List.setIfInBounds_toArray, List.set_cons_zero, List.set_cons_succ]
  refine wpAnyL_at (i := 8) (v := (.pointer (some ⟨W.heap.size, 3, none⟩))) (some 67) rfl rfl (by kernel_rfl) (by kernel_rfl) (by kernel_rfl) (by kernel_rfl) (by decide) (fun _ _ _ h => h) (Or.inl ⟨by rfl, ?_⟩) s11 ?_
  · intro w hSw
    go_simp
  try simp only [Act.put, List.setIfInBounds_toArray, List.set_cons_zero, List.set_cons_succ]
  refine wpAnyL_at (i := 9) (v := (.slice na l.length nc)) (some 68) rfl rfl (by kernel_rfl) (by kernel_rfl) (by kernel_rfl) (by kernel_rfl) (by decide) (fun _ _ _ h => h) (Or.inl ⟨by rfl, ?_⟩) s11 ?_
  · intro w hSw
    go_simp
  try simp only [Act.put, List.setIfInBounds_toArray, List.set_cons_zero, List.set_cons_succ]
  refine wpAnyL_at (i := 10) (v := (.int .i64 (l.length : Int))) (some 69) rfl rfl (by kernel_rfl) (by kernel_rfl) (by kernel_rfl) (by kernel_rfl) (by decide) (fun _ _ _ h => h) (Or.inl ⟨by rfl, ?_⟩) s11 ?_
  · intro w hSw
    go_simp
  try simp only [Act.put, List.setIfInBounds_toArray, List.set_cons_zero, List.set_cons_succ]
  refine wpAnyL_one (i := 7) (by kernel_rfl) rfl (fun K hK => ?_)
  go_simp
  refine (HF.out _ Hd.out.gr).mono ?_
  rintro e wn ⟨rfl, rfl⟩
  refine hK.out _ _ (fun _ => s11) ?_
  clear hK K
  try simp only [Act.put, List.setIfInBounds_toArray, List.set_cons_zero, List.set_cons_succ]
  refine wpAnyL_at (i := 11) (v := .bool true) (some 70) rfl rfl (by kernel_rfl) (by kernel_rfl) (by kernel_rfl) (by kernel_rfl) (by decide) (fun _ _ _ h => h) (Or.inl ⟨by rfl, ?_⟩) s11 ?_
  · intro w hSw
    go_simp
  try simp only [Act.put, List.setIfInBounds_toArray, List.set_cons_zero, List.set_cons_succ]
  refine wpAnyL_at (i := 12) (v := .bool true) (some 71) rfl rfl (by kernel_rfl) (by kernel_rfl) (by kernel_rfl) (by kernel_rfl) (by decide) (fun _ _ _ h => h) (Or.inl ⟨by rfl, ?_⟩) s11 ?_
  · intro w hSw
    go_simp
  try simp only [Act.put, List.setIfInBounds_toArray, List.set_cons_zero, List.set_cons_succ]
  refine wpAnyL_one (i := 13) (by kernel_rfl) rfl (fun K hK => ?_)
  go_simp
  refine (must_yes ba m.length bc na l.length nc jz n 0 _).mono ?_
  rintro e w6 ⟨rfl, g6⟩
  have s6 := Hd.out.turn g6
  have s12 : S11 W.heap.size (.slice ba m.length bc) (.int .i64 ((jz : Nat) : Int)) (.int .i64 (n : Int)) (.slice na l.length nc) (.int .i64 0) w6 := s11_at s6 (by simp)
  clear p0 p1 p2 p3 p4 d0 d1 d2 d3 d4 q0 q1 q2 q3 q4 f0 f1 f2 f3 f4 hl hlo
  obtain ⟨⟨p0, p1, p2, p3, p4⟩, d0, d1, d2, d3, d4⟩ := five s6.st
  obtain ⟨⟨q0, q1, q2, q3, q4⟩, f0, f1, f2, f3, f4⟩ := five s6.out
  have hl := (Array.getElem?_eq_some_iff.1 s6.st).1
  have hlo := (Array.getElem?_eq_some_iff.1 s6.out).1
  have H6 := Lib.hid (s6.setI (Nat.le_refl _) (.slice ba m.length bc) (.slice na l.length nc) jz n 0 ((jz : Nat) : Int) (by simp))
  clear s6
  refine hK.out _ _ (fun _ => s12) ?_
  clear hK K
  try simp only [Act.put, List.setIfInBounds_toArray, List.set_cons_zero, List.set_cons_succ]
  refine wpAnyL_one (i := 14) (by kernel_rfl) rfl (fun K hK => ?_)
  go_simp
  refine hK.out _ _ (fun h => absurd rfl h) ?_
  clear hK K
  try simp only [Act.put, List.setIfInBounds_toArray, List.set_cons_zero, List.set_cons_succ]
  refine wpAnyL_done (by kernel_rfl) ?_ _
  refine NoPanic.normal ?_
  clear s11 s12
  generalize World.setCell (World.setCell (World.setCell (World.setCell (World.setCell w6 _ _) _ _) _ _) _ _) _ _ = X6 at H6 ⊢
  clear p0 p1 p2 p3 p4 d0 d1 d2 d3 d4 q0 q1 q2 q3 q4 f0 f1 f2 f3 f4 hl hlo
  obtain ⟨v1, w1, hrun, ho1, hg1, hb1⟩ := app_all X6 na nc l (Hs.out X6 H6.out.gr)
  obtain ⟨a1, c1, rfl⟩ : ∃ a c, v1 = .slice a l.length c := ownsRow_sv ho1
  have s1x := H6.out
  obtain ⟨⟨p0, p1, p2, p3, p4⟩, d0, d1, d2, d3, d4⟩ := five s1x.st
  have hl := (Array.getElem?_eq_some_iff.1 s1x.st).1
  have s1y := Lib.hid (s1x.turn hg1)
  clear s1x
  go_wp2_with (first
    | (at_builtin; refine wpList_apprun _ rfl _ _ rfl _ _ rfl rfl hrun ?_; clear hrun)
    | (at_builtin; refine wpList_app _ rfl _ _ rfl (.slice a1 l.length c1) l (sb lz) ⟨w1.heap.size, 0, none⟩ rfl rfl (ho1.alloc _) (by omega) (cell_one_new _ _ _) ?_; intro g3 cap3 w3 hr3 hloc3; obtain ⟨z1, z2⟩ := app_end hg1 hb1 hloc3; have s3 := H6.out.turn z1; clear p0 p1 p2 p3 p4 d0 d1 d2 d3 d4 hl; obtain ⟨⟨p0, p1, p2, p3, p4⟩, d0, d1, d2, d3, d4⟩ := five s3.st; obtain ⟨⟨q0, q1, q2, q3, q4⟩, f0, f1, f2, f3, f4⟩ := five s3.out; have hl := (Array.getElem?_eq_some_iff.1 s3.st).1; have hlo := (Array.getElem?_eq_some_iff.1 s3.out).1; have H3 := Lib.hid s3; have Hr3 := Lib.hid hr3; have Hz2 := Lib.hid z2; clear s3 hr3 hloc3 z1 z2))
  have e1 : (w3.setCell ⟨W.heap.size, 3, none⟩ (.slice (some ⟨g3, 0, none⟩) (l.length + 1) cap3)).heap[W.heap.size + 1]? = some (.cells #[.slice none 0 0, .int .i64 0, .int .i64 0, .slice none 0 0, .int .i64 0] 51 (0, 0)) := (heap_setCell_other _ _ _ _ (by show W.heap.size + 1 ≠ W.heap.size; omega)).trans H3.out.out
  have E5 := set5_same (v0 := (.slice ba m.length bc)) (v1 := .int .i64 (jz : Int)) (v2 := .int .i64 (n : Int)) (v3 := (.slice (some ⟨g3, 0, none⟩) (l.length + 1) cap3)) (v4 := .int .i64 0) e1
  have G5 : Gr (fun k => k = W.heap.size ∨ k = W.heap.size + 1) w3 _ := ((own1 w3 W.heap.size 3 (.slice (some ⟨g3, 0, none⟩) (l.length + 1) cap3)).mono (fun _ _ e => .inl e)).trans ((Gr.own5 (w3.setCell ⟨W.heap.size, 3, none⟩ (.slice (some ⟨g3, 0, none⟩) (l.length + 1) cap3)) (W.heap.size + 1) (.slice ba m.length bc) (.int .i64 (jz : Int)) (.int .i64 (n : Int)) (.slice (some ⟨g3, 0, none⟩) (l.length + 1) cap3) (.int .i64 0)).mono (fun _ _ e => .inr e))
  generalize World.setCell _ ⟨W.heap.size + 1, 4, none⟩ (.int .i64 0) = wa at E5 G5 ⊢
  obtain ⟨⟨r0, r1, r2, r3, r4⟩, -⟩ := five E5
  have hlX := (Array.getElem?_eq_some_iff.1 H6.out.out).1
  refine bodyPost_ret (v := .tuple #[sv (.slice ba m.length bc) jz n (.slice (some ⟨g3, 0, none⟩) (l.length + 1) cap3) 0, .string (sb lz)]) (by simp [results, Tryz.results36, go_sem, r0, r1, r2, r3, r4]) rfl ⟨⟨jz, some ⟨g3, 0, none⟩, cap3, by rw [hjz.out.1]; exact Hjl.out, by rw [hjz.out.1, ← hmr.out, List.drop_drop], by rw [← hjz.out.2], ?_⟩, H3.out.gr.trans' G5 (fun k hk e => by omega)⟩
  rw [← hjz.out.2]
  have hsn : Snap w3 (.slice (some ⟨g3, 0, none⟩) (l ++ [sb lz]).length cap3) (l ++ [sb lz]) := ownsRow_snap (by simp; omega) (by simpa using Hr3.out)
  exact hsn.gr G5 (fun k hk e => by simp [Value.ownBlock] at hk; have := Hz2.out; omega)
end Go.Proofs.YtmohehfkbhllpaaGreat

namespace Go.Proofs.YtmohehfkbhllpaaGreat
open Go.RowKit Go.Maps
variable {S S' Z : Nat → Prop} {W W1 W' : World}
/-- How reading a name ends. -/
def EndM (ba : Option Addr) (bc : Nat) (na : Option Addr) (nn nc : Nat) (m : List Int) (n : Nat) (e : Ending) (w' : World) : Except Int (ByteArray × List Int × List ByteArray) → Prop
  | .ok (s, r, l') => ∃ (j : Nat) (na' : Option Addr) (nc' : Nat), j ≤ m.length ∧ m.drop j = r ∧ e = .returned (.tuple #[sv (.slice ba m.length bc) j n (.slice na' l'.length nc') 0, .string s]) ∧ Snap w' (.slice na' l'.length nc') l'
  | .error c => ∃ (j : Nat) (s : ByteArray), e = .returned (.tuple #[sv (.slice ba m.length bc) j n (.slice na nn nc) c, .string s])
theorem fnd_bound : ∀ (l : List ByteArray) (s : ByteArray) (n k : Nat), fnd l s n = some k → k < n + l.length
  | [], _, _, _, h => by simp [fnd] at h
  | a :: r, s, n, k, h => by
    rw [fnd] at h
    split at h
    · cases h; simp
    · have := fnd_bound r s (n + 1) k h; simp; omega
theorem refname_c (ba : Option Addr) (bc : Nat) (na : Option Addr) (nc : Nat) (m : List Int) (l : List ByteArray) (i n : Nat) (hi : i ≤ m.length) (hl96 : l.length < 4096) (W : World) (hq : Sq Z W (.slice ba m.length bc) m) (hs : Snap W (.slice na l.length nc) l) : Calls Tryz.prog 36 #[sv (.slice ba m.length bc) i n (.slice na l.length nc) 0] W fun e w' => EndM ba bc na l.length nc m n e w' (nmq (m.drop i) l) ∧ Gr (fun _ => False) W w' := by
  cases hb : nmb 10 0 0 (m.drop i) with
  | error c =>
    rw [show nmq (m.drop i) l = .error c by rw [nmq, hb]]
    exact name_A ba bc na nc m l i n hi hl96 W hq hs c hb
  | ok ur =>
    obtain ⟨u, rest⟩ := ur
    rcases Nat.lt_trichotomy u l.length with hlt | heq | hgt
    · rw [show nmq (m.drop i) l = .ok (at_ l u, rest, l) by rw [nmq, hb]; simp only []; rw [if_neg (by omega), if_neg (by omega)]; simp [nameS, at_, hlt]]
      refine (name_B2 ba bc na nc m l i n hi hl96 W hq hs u rest hb hlt).mono ?_
      rintro e w' ⟨⟨j, h1, h2, h3⟩, hg⟩
      exact ⟨⟨j, na, nc, h1, h2, h3, hs.gr hg (fun _ _ e => e)⟩, hg⟩
    · subst heq
      have hq0 : nmq (m.drop i) l = (match nwq rest l with | .error e => .error e | .ok (r', l') => .ok (nameS l' (l.length : Int), r', l')) := by rw [nmq, hb]; simp only []; rw [if_neg (by omega), if_pos trivial]; rcases nwq rest l with _ | ⟨_, _⟩ <;> rfl
      rw [hq0]
      cases rest with
      | nil => exact name_C1 ba bc na nc m l i n hi hl96 W hq hs hb
      | cons x r =>
        by_cases hx : x < 1 ∨ 32 < x
        · rw [show nwq (x :: r) l = .error 73 by rw [nwq, if_pos hx]]
          exact name_C2a ba bc na nc m l i n hi hl96 W hq hs x r hb hx
        obtain ⟨q, rfl⟩ := Int.eq_ofNat_of_zero_le (show 0 ≤ x by omega)
        have h1 : 1 ≤ q := by omega
        have h2 : q ≤ 32 := by omega
        rw [nwq, if_neg hx, Int.toNat_natCast]
        by_cases hsh : r.length < q
        · rw [if_pos hsh]
          exact name_C2b ba bc na nc m l i n hi hl96 W hq hs q r hb h1 h2 hsh
        rw [if_neg hsh]
        cases hnm : isName (sb (r.take q)) with
        | false =>
          have hp : putE l (sb (r.take q)) ≠ 0 := by simp [putE, hnm]
          have e : (if (fnd l (sb (r.take q)) 0).isSome = true then (.error 73 : Except Int (List Int × List ByteArray)) else if putE l (sb (r.take q)) = 0 then .ok (r.drop q, putL l (sb (r.take q))) else .error 73) = .error 73 := by
            split
            · rfl
            · first | rfl | rw [if_neg hp]
          rw [e]
          exact name_C2c1 ba bc na nc m l i n hi hl96 W hq hs q r hb h1 h2 (by omega) hnm
        | true =>
          cases hf : fnd l (sb (r.take q)) 0 with
          | some k =>
            rw [if_pos (by simp)]
            have := fnd_bound _ _ _ _ hf
            exact name_C2c2 ba bc na nc m l i n hi hl96 W hq hs q r hb h1 h2 (by omega) hnm (by simp [fv7, hf]; omega)
          | none =>
            rw [if_neg (by simp), if_pos (by simp [putE, hnm, hf]; omega), show putL l (sb (r.take q)) = l ++ [sb (r.take q)] by simp [putL, hnm, hf]; omega]
            refine (name_C2c3 ba bc na nc m l i n hi hl96 W hq hs q r hb h1 h2 (by omega) hnm (by simp [fv7, hf])).mono ?_
            rintro e w' ⟨⟨j, na', nc', h3, h4, h5, h6⟩, hg⟩
            have hns : nameS (l ++ [sb (r.take q)]) (l.length : Int) = sb (r.take q) := by rw [nameS, if_pos ⟨by omega, by simp; omega⟩]; simp
            exact ⟨⟨j, na', nc', h3, h4, by rw [hns, h5, List.length_append]; rfl, h6⟩, hg⟩
    · rw [show nmq (m.drop i) l = .error 73 by rw [nmq, hb]; simp only []; rw [if_pos hgt]]
      exact name_B1 ba bc na nc m l i n hi hl96 W hq hs u rest hb hgt
end Go.Proofs.YtmohehfkbhllpaaGreat

namespace Go.Proofs.YtmohehfkbhllpaaGreat
open Go.RowKit Go.Maps
variable {S S' Z : Nat → Prop} {W W1 W' : World}
abbrev oz9 : Obj := .cells #[.int .i64 0, .int .i64 0, .complex .f64 0 0, .string e0, .int .i64 0, .int .u32 0, .int .u64 0, nl, nl] 31
/-- A state of the reference's in its block, blocks for the answer, a term's block. -/
structure Sp (W : World) (N tb : Nat) (bv nv : Value) (i n : Nat) (c : Int) (T : Array Value) (X : World) : Prop where
  sx : Sx W N bv nv i n c X
  ot : X.heap[N + 1 + 1]? = some oz9
  tm : X.heap[tb]? = some (.cells T 31 (0, 0))
  lt : N + 1 + 1 < tb
/-- The same, ahead of the term's block. -/
structure Sq0 (W : World) (N : Nat) (bv nv : Value) (i n : Nat) (c : Int) (X : World) : Prop where
  sx : Sx W N bv nv i n c X
  ot : X.heap[N + 1 + 1]? = some oz9
theorem Sq0.turn {N : Nat} {bv nv : Value} {i n : Nat} {c : Int} {X X' : World} (h : Sq0 W N bv nv i n c X) (g : Gr (fun _ => False) X X') : Sq0 W N bv nv i n c X' := ⟨h.sx.turn g, g.keep h.ot (fun e => e)⟩
theorem Sp.turn {N tb : Nat} {bv nv : Value} {i n : Nat} {c : Int} {T : Array Value} {X X' : World} (h : Sp W N tb bv nv i n c T X) (g : Gr (fun _ => False) X X') : Sp W N tb bv nv i n c T X' := ⟨h.sx.turn g, g.keep h.ot (fun e => e), g.keep h.tm (fun e => e), h.lt⟩
theorem Sq0.new (W : World) (bv nv : Value) (i n : Nat) (c : Int) : Sq0 W W.heap.size bv nv i n c (((W.alloc (.cells #[bv, .int .i64 (i : Int), .int .i64 (n : Int), nv, .int .i64 c] 51)).alloc zer5).alloc oz9) := by
  refine ⟨⟨?_, ?_, ((Gr.alloc _ _ _).trans (Gr.alloc _ _ _)).trans (Gr.alloc _ _ _)⟩, ?_⟩ <;> (simp only [al, World.size_alloc]; repeat (first | rw [if_pos trivial] | rw [if_pos (by omega)] | rw [if_neg (by omega)]))
theorem Sq0.set {N : Nat} {bv nv : Value} {i n : Nat} {c : Int} {X : World} (hN : W.heap.size ≤ N) (h : Sq0 W N bv nv i n c X) (bv' nv' : Value) (i' n' : Nat) (c' iv : Int) (e : iv = (i' : Int)) (nz : Int) (e' : nz = (n' : Int)) :
    Sq0 W N bv' nv' i' n' c' (((((X.setCell ⟨N, 0, none⟩ bv').setCell ⟨N, 1, none⟩ (.int .i64 iv)).setCell ⟨N, 2, none⟩ (.int .i64 nz)).setCell ⟨N, 3, none⟩ nv').setCell ⟨N, 4, none⟩ (.int .i64 c')) := by
  subst e'
  exact ⟨h.sx.setI hN bv' nv' i' n' c' iv e, (Gr.own5 X N _ _ _ _ _).keep h.ot (by omega)⟩
theorem Sq0.cnt {N : Nat} {bv nv : Value} {i n : Nat} {c : Int} {X : World} (hN : W.heap.size ≤ N) (h : Sq0 W N bv nv i n c X) (z : Int) (k : Nat) (hz : z = (k : Int)) : Sq0 W N bv nv i k c (X.setCell ⟨N, 2, none⟩ (.int .i64 z)) := by
  subst hz
  exact ⟨⟨heap_setCell_same X _ 2 _ 51 _ h.sx.st, (own1 X N 2 _).keep h.sx.out (by omega), h.sx.gr.trans' (own1 X N 2 _) (fun i hi e => by omega)⟩, (own1 X N 2 _).keep h.ot (by omega)⟩
theorem Sq0.term {N : Nat} {bv nv : Value} {i n : Nat} {c : Int} {X : World} (h : Sq0 W N bv nv i n c X) (T : Array Value) (tb : Nat) (htb : X.heap.size = tb) : Sp W N tb bv nv i n c T (X.alloc (.cells T 31)) := by
  subst htb
  have g := Gr.alloc X (.cells T 31) (fun _ => False)
  exact ⟨h.sx.turn g, g.keep h.ot (fun e => e), heap_alloc_new _ _, (Array.getElem?_eq_some_iff.1 h.ot).1⟩
theorem Sp.set {N tb : Nat} {bv nv : Value} {i n : Nat} {c : Int} {T : Array Value} {X : World} (hN : W.heap.size ≤ N) (h : Sp W N tb bv nv i n c T X) (bv' nv' : Value) (i' n' : Nat) (c' iv : Int) (e : iv = (i' : Int)) (nz : Int) (e' : nz = (n' : Int)) :
    Sp W N tb bv' nv' i' n' c' T (((((X.setCell ⟨N, 0, none⟩ bv').setCell ⟨N, 1, none⟩ (.int .i64 iv)).setCell ⟨N, 2, none⟩ (.int .i64 nz)).setCell ⟨N, 3, none⟩ nv').setCell ⟨N, 4, none⟩ (.int .i64 c')) := by
  subst e'
  exact ⟨h.sx.setI hN bv' nv' i' n' c' iv e, (Gr.own5 X N _ _ _ _ _).keep h.ot (by omega), (Gr.own5 X N _ _ _ _ _).keep h.tm (by have := h.lt; omega), h.lt⟩
theorem Gr.own9 (W' : World) (g : Nat) (v0 v1 v2 v3 v4 v5 v6 v7 v8 : Value) :
    Gr (fun k => k = g) W' (((((((((W'.setCell ⟨g, 0, none⟩ v0).setCell ⟨g, 1, none⟩ v1).setCell ⟨g, 2, none⟩ v2).setCell ⟨g, 3, none⟩ v3).setCell ⟨g, 4, none⟩ v4).setCell ⟨g, 5, none⟩ v5).setCell ⟨g, 6, none⟩ v6).setCell ⟨g, 7, none⟩ v7).setCell ⟨g, 8, none⟩ v8) :=
  ((((((((own1 _ _ _ _).trans (own1 _ _ _ _)).trans (own1 _ _ _ _)).trans (own1 _ _ _ _)).trans (own1 _ _ _ _)).trans (own1 _ _ _ _)).trans (own1 _ _ _ _)).trans (own1 _ _ _ _)).trans (own1 _ _ _ _)
theorem Gr.set5 {S : Nat → Prop} {W W' : World} {g : Nat} (h : Gr S W W') (hg : W.heap.size ≤ g) (v0 v1 v2 v3 v4 : Value) : Gr S W (((((W'.setCell ⟨g, 0, none⟩ v0).setCell ⟨g, 1, none⟩ v1).setCell ⟨g, 2, none⟩ v2).setCell ⟨g, 3, none⟩ v3).setCell ⟨g, 4, none⟩ v4) := ((((h.setNew hg).setNew hg).setNew hg).setNew hg).setNew hg
theorem Sp.cell {N tb : Nat} {bv nv : Value} {i n : Nat} {c : Int} {T : Array Value} {X : World} (hN : W.heap.size ≤ N) (h : Sp W N tb bv nv i n c T X) (k : Nat) (v : Value) : Sp W N tb bv nv i n c (T.setIfInBounds k v) (X.setCell ⟨tb, k, none⟩ v) := by
  have hl := h.lt
  exact ⟨⟨(own1 X tb k v).keep h.sx.st (by omega), (own1 X tb k v).keep h.sx.out (by omega), h.sx.gr.trans' (own1 X tb k v) (fun i hi e => by omega)⟩, (own1 X tb k v).keep h.ot (by omega), heap_setCell_same X tb k _ 31 v h.tm, h.lt⟩
/-- What turns is no row of names. -/
theorem Snap.off {bad : Nat → Prop} {v : Value} {xs : List ByteArray} (h : Snap W v xs) (g : Gr bad W W') (hb : ∀ k, bad k → ∃ u, W.cell? ⟨k, 0, none⟩ = some u ∧ ∀ s, u ≠ .string s) : Snap W' v xs := by
  rcases h.2 with h0 | ⟨gb, cap, rfl, hc⟩
  · exact ⟨h.1, .inl h0⟩
  · by_cases e : xs.length = 0
    · exact ⟨h.1, .inl ⟨List.eq_nil_of_length_eq_zero e, _, _, by rw [e]⟩⟩
    · exact h.gr g (fun k hk hbk => by
        have e1 : gb = k := by simpa [Value.ownBlock] using hk
        subst e1
        obtain ⟨u, h1, h2⟩ := hb gb hbk
        have h3 := hc 0 (by omega)
        rw [h1] at h3
        cases h3
        exact h2 _ rfl)
theorem Sp.snap {N tb : Nat} {A : Option Addr} {B C : Nat} {nv : Value} {i n : Nat} {c : Int} {x : Int} {T : List Value} {X : World} (h : Sp W N tb (.slice A B C) nv i n c ((.int .i64 x :: T).toArray) X) {v : Value} {xs : List ByteArray} (k : Snap X v xs) {X' : World} (g : Gr (fun k => k = N ∨ k = N + 1 ∨ k = N + 1 + 1 ∨ k = tb) X X') : Snap X' v xs := by
  refine k.off g (fun q hq => ?_)
  rcases hq with rfl | rfl | rfl | rfl
  · exact ⟨_, by simp only [World.cell?, h.sx.st]; rfl, fun s e => by cases e⟩
  · exact ⟨_, by simp only [World.cell?, h.sx.out]; rfl, fun s e => by cases e⟩
  · exact ⟨_, by simp only [World.cell?, h.ot]; rfl, fun s e => by cases e⟩
  · exact ⟨_, by simp only [World.cell?, h.tm]; rfl, fun s e => by cases e⟩
/-- How reading a part ends. -/
def EndP (ba : Option Addr) (bc : Nat) (m : List Int) (W : World) (e : Ending) (w' : World) : Except Int (Tm × List Int × Nat × List ByteArray) → Prop
  | .ok (T, r, n, l) => ∃ (j : Nat) (na : Option Addr) (nc : Nat) (v : Value), j ≤ m.length ∧ m.drop j = r ∧ e = .returned (.tuple #[sv (.slice ba m.length bc) j n (.slice na l.length nc) 0, v]) ∧ Rep (fun k => W.heap.size ≤ k) w' T v ∧ Snap w' (.slice na l.length nc) l ∧ n ≤ 4096 ∧ l.length ≤ n
  | .error c => ∃ (j n : Nat) (na : Option Addr) (nn nc : Nat) (k x : Int) (y z : Nat) (s : ByteArray) (a b d : Int) (u1 u2 : Option Addr) (n1 c1 n2 c2 : Nat), e = .returned (.tuple #[sv (.slice ba m.length bc) j n (.slice na nn nc) c, tv k x y z s a b d (.slice u1 n1 c1) (.slice u2 n2 c2)])
set_option maxRecDepth 20000 in
set_option maxHeartbeats 800000 in
theorem part_deep (ba : Option Addr) (bc : Nat) (na : Option Addr) (nc : Nat) (m : List Int) (l : List ByteArray) (i n : Nat) (d : Int) (hi : i ≤ m.length) (hn : n ≤ 4096) (W : World) (hd : 24 < d) : Calls Tryz.prog 16 #[sv (.slice ba m.length bc) i n (.slice na l.length nc) 0, .int .i64 d] W fun e w' => (EndP ba bc m W e w' (.error 20)) ∧ Gr (fun _ => False) W w' := by
  have hx := Lib.hid (Sq0.new W (.slice ba m.length bc) (.slice na l.length nc) i n 0)
  have hnI : (n : Int) ≤ 4096 := by omega
  have hn0 : (0 : Int) ≤ (n : Int) := by omega
  obtain ⟨n1, hn1⟩ : ∃ n1, n + 1 = n1 := ⟨_, rfl⟩
  have hn1I : (n : Int) + 1 = (n1 : Int) := by omega
  have hn1b : (n1 : Int) ≤ 5000 := by omega
  have hn1c : (0 : Int) ≤ (n1 : Int) := by omega
  have Hn1 := Lib.hid hn1
  have Hn := Lib.hid hn
  clear hn1 hn
  go_enter Tryz.func16, Tryz.ntmps16
  go_wp2_with fail
  generalize hW1 : World.alloc (World.alloc (World.alloc W _) _) _ = W1
  have H0 : Hid (Sq0 W W.heap.size (.slice ba m.length bc) (.slice na l.length nc) i n 0 W1) := Lib.hid (hW1 ▸ hx.out)
  clear hW1 hx
  refine (fail_new ba m.length bc na l.length nc i n 20 _).mono ?_
  rintro e w1 ⟨rfl, g1⟩
  have s1 := H0.out.turn g1
  obtain ⟨⟨x0, x1, x2, x3, x4⟩, xf0, xf1, xf2, xf3, xf4⟩ := five s1.sx.st
  have l0 := (Array.getElem?_eq_some_iff.1 s1.sx.st).1
  have H1 := Lib.hid ((s1.set (Nat.le_refl _) (.slice ba m.length bc) (.slice na l.length nc) i n 20 (i : Int) rfl (n : Int) rfl).cnt (Nat.le_refl _) (n1 : Int) n1 rfl)
  obtain ⟨⟨k0, k1, k2, k3, k4⟩, kf0, kf1, kf2, kf3, kf4⟩ := five H1.out.sx.st
  have kl := (Array.getElem?_eq_some_iff.1 H1.out.sx.st).1
  clear s1 H0 g1
  by_cases hbig : n = 4096
  · have hbI : (4096 : Int) < (n1 : Int) := by omega
    clear hbig
    go_wp2_with fail
    generalize World.setCell _ ⟨W.heap.size, 2, none⟩ (.int .i64 (n1 : Int)) = Xa at H1 ⊢
    clear x0 x1 x2 x3 x4 xf0 xf1 xf2 xf3 xf4 l0 k0 k1 k2 k3 k4 kf0 kf1 kf2 kf3 kf4 kl
    refine (fail_old ba m.length bc na l.length nc i n1 20 21 (by decide) _).mono ?_
    rintro e wa ⟨rfl, ga⟩
    have sa := H1.out.turn ga
    obtain ⟨⟨x0, x1, x2, x3, x4⟩, xf0, xf1, xf2, xf3, xf4⟩ := five sa.sx.st
    have l0 := (Array.getElem?_eq_some_iff.1 sa.sx.st).1
    have H1 := Lib.hid (sa.set (Nat.le_refl _) (.slice ba m.length bc) (.slice na l.length nc) i n1 20 (i : Int) rfl (n1 : Int) rfl)
    clear sa ga
    go_wp2_with fail
    generalize World.setCell (World.setCell (World.setCell (World.setCell (World.setCell _ _ _) _ _) _ _) _ _) _ _ = X1 at H1 ⊢
    clear x0 x1 x2 x3 x4 xf0 xf1 xf2 xf3 xf4 l0
    refine (one_old ba m.length bc na l.length nc i n1 20 (by decide) _).mono ?_
    rintro e w2 ⟨rfl, g2⟩
    have s2 := H1.out.turn g2
    obtain ⟨⟨x0, x1, x2, x3, x4⟩, xf0, xf1, xf2, xf3, xf4⟩ := five s2.sx.st
    have l0 := (Array.getElem?_eq_some_iff.1 s2.sx.st).1
    have H2 := Lib.hid ((s2.set (Nat.le_refl _) (.slice ba m.length bc) (.slice na l.length nc) i n1 20 (i : Int) rfl (n1 : Int) rfl).term #[.int .i64 0, .int .i64 0, .complex .f64 0 0, .string e0, .int .i64 0, .int .u32 0, .int .u64 0, nl, nl] w2.heap.size (by simp))
    clear s2
    go_wp2_with fail
    generalize World.alloc _ _ = X2 at H2 ⊢
    generalize w2.heap.size = tb at H2 ⊢
    clear x0 x1 x2 x3 x4 xf0 xf1 xf2 xf3 xf4 l0
    obtain ⟨⟨x0, x1, x2, x3, x4⟩, xf0, xf1, xf2, xf3, xf4⟩ := five H2.out.sx.st
    have l0 := (Array.getElem?_eq_some_iff.1 H2.out.sx.st).1
    obtain ⟨⟨y0, y1, y2, y3, y4⟩, yf0, yf1, yf2, yf3, yf4⟩ := five H2.out.sx.out
    obtain ⟨⟨z0, z1, z2, z3, z4, z5, z6, z7, z8⟩, zf⟩ := nine H2.out.ot
    obtain ⟨⟨t0, t1, t2, t3, t4, t5, t6, t7, t8⟩, tf⟩ := nine H2.out.tm
    have l1 := (Array.getElem?_eq_some_iff.1 H2.out.sx.out).1
    have l2 := (Array.getElem?_eq_some_iff.1 H2.out.ot).1
    have l3 := (Array.getElem?_eq_some_iff.1 H2.out.tm).1
    have lt9 := H2.out.lt
    have HG := Lib.hid H2.out.sx.gr
    have lt8 : ¬ tb = W.heap.size := by omega
    have lt7 : ¬ tb = W.heap.size + 1 := by omega
    have lt6 : ¬ tb = W.heap.size + 1 + 1 := by omega
    have lt5 : ¬ W.heap.size + 1 = tb := by omega
    have lt4 : ¬ W.heap.size + 1 + 1 = tb := by omega
    go_region
    all_goals
      go_wp2
      refine bodyPost_ret (v := .tuple #[sv (.slice ba m.length bc) i n1 (.slice na l.length nc) 20, lf 0 0 0 0 e0 0 0 0]) (by simp [results, Tryz.results16, go_sem, y0, y1, y2, y3, y4, z0, z1, z2, z3, z4, z5, z6, z7, z8, l0, l1, l2]) rfl ?_
      exact ⟨⟨_, _, _, _, _, _, _, _, _, _, _, _, _, _, _, _, _, _, _, rfl⟩, ((HG.out.set5 (g := W.heap.size + 1) (Nat.le_succ _) _ _ _ _ _).set9 (g := W.heap.size + 1 + 1) (by omega) _ _ _ _ _ _ _ _ _).trans (Gr.drew _ _)⟩
  · have hbI : decide ((4096 : Int) < (n1 : Int)) = false := by simp; omega
    clear hbig
    go_wp2_with fail
    generalize World.setCell _ ⟨W.heap.size, 2, none⟩ (.int .i64 (n1 : Int)) = X1 at H1 ⊢
    clear x0 x1 x2 x3 x4 xf0 xf1 xf2 xf3 xf4 l0 k0 k1 k2 k3 k4 kf0 kf1 kf2 kf3 kf4 kl
    refine (one_old ba m.length bc na l.length nc i n1 20 (by decide) _).mono ?_
    rintro e w2 ⟨rfl, g2⟩
    have s2 := H1.out.turn g2
    obtain ⟨⟨x0, x1, x2, x3, x4⟩, xf0, xf1, xf2, xf3, xf4⟩ := five s2.sx.st
    have l0 := (Array.getElem?_eq_some_iff.1 s2.sx.st).1
    have H2 := Lib.hid ((s2.set (Nat.le_refl _) (.slice ba m.length bc) (.slice na l.length nc) i n1 20 (i : Int) rfl (n1 : Int) rfl).term #[.int .i64 0, .int .i64 0, .complex .f64 0 0, .string e0, .int .i64 0, .int .u32 0, .int .u64 0, nl, nl] w2.heap.size (by simp))
    clear s2
    go_wp2_with fail
    generalize World.alloc _ _ = X2 at H2 ⊢
    generalize w2.heap.size = tb at H2 ⊢
    clear x0 x1 x2 x3 x4 xf0 xf1 xf2 xf3 xf4 l0
    obtain ⟨⟨x0, x1, x2, x3, x4⟩, xf0, xf1, xf2, xf3, xf4⟩ := five H2.out.sx.st
    have l0 := (Array.getElem?_eq_some_iff.1 H2.out.sx.st).1
    obtain ⟨⟨y0, y1, y2, y3, y4⟩, yf0, yf1, yf2, yf3, yf4⟩ := five H2.out.sx.out
    obtain ⟨⟨z0, z1, z2, z3, z4, z5, z6, z7, z8⟩, zf⟩ := nine H2.out.ot
    obtain ⟨⟨t0, t1, t2, t3, t4, t5, t6, t7, t8⟩, tf⟩ := nine H2.out.tm
    have l1 := (Array.getElem?_eq_some_iff.1 H2.out.sx.out).1
    have l2 := (Array.getElem?_eq_some_iff.1 H2.out.ot).1
    have l3 := (Array.getElem?_eq_some_iff.1 H2.out.tm).1
    have lt9 := H2.out.lt
    have HG := Lib.hid H2.out.sx.gr
    have lt8 : ¬ tb = W.heap.size := by omega
    have lt7 : ¬ tb = W.heap.size + 1 := by omega
    have lt6 : ¬ tb = W.heap.size + 1 + 1 := by omega
    have lt5 : ¬ W.heap.size + 1 = tb := by omega
    have lt4 : ¬ W.heap.size + 1 + 1 = tb := by omega
    go_region
    all_goals
      go_wp2
      refine bodyPost_ret (v := .tuple #[sv (.slice ba m.length bc) i n1 (.slice na l.length nc) 20, lf 0 0 0 0 e0 0 0 0]) (by simp [results, Tryz.results16, go_sem, y0, y1, y2, y3, y4, z0, z1, z2, z3, z4, z5, z6, z7, z8, l0, l1, l2]) rfl ?_
      exact ⟨⟨_, _, _, _, _, _, _, _, _, _, _, _, _, _, _, _, _, _, _, rfl⟩, ((HG.out.set5 (g := W.heap.size + 1) (Nat.le_succ _) _ _ _ _ _).set9 (g := W.heap.size + 1 + 1) (by omega) _ _ _ _ _ _ _ _ _).trans (Gr.drew _ _)⟩
end Go.Proofs.YtmohehfkbhllpaaGreat
