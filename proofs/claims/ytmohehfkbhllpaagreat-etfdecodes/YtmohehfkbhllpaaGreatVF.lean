/-
  The reference's reader: a number; what it answers beside an error is a number too.
  The reference's reader: ints.
  The reference's reader: a number behind an error; a second state in a block of its own.
-/
import Derived.Test.YtmohehfkbhllpaaGreatVB
set_option linter.unusedVariables false
set_option linter.unusedSimpArgs false
namespace Go.Proofs.YtmohehfkbhllpaaGreat
open Go.RowKit Go.Maps
variable {S S' Z : Nat → Prop} {W W1 W' : World}
theorem u64b (x : Int) : 0 ≤ IntKind.u64.wrap x ∧ IntKind.u64.wrap x < 18446744073709551616 := by rw [IntKind.wrap_u64]; omega
/-- How reading a number ends. -/
def EndU2 (ba : Option Addr) (bc : Nat) (na : Option Addr) (nn nc : Nat) (m : List Int) (n : Nat) (e : Ending) : Except Int (Nat × List Int) → Prop
  | .ok (u, r) => ∃ j, j ≤ m.length ∧ m.drop j = r ∧ u < 18446744073709551616 ∧ e = .returned (.tuple #[sv (.slice ba m.length bc) j n (.slice na nn nc) 0, .int .u64 (u : Int)])
  | .error c => ∃ (j : Nat) (u : Int), 0 ≤ u ∧ u < 18446744073709551616 ∧ e = .returned (.tuple #[sv (.slice ba m.length bc) j n (.slice na nn nc) c, .int .u64 u])
set_option maxRecDepth 20000 in
set_option maxHeartbeats 9600000 in
theorem wide_e (ba : Option Addr) (bc : Nat) (na : Option Addr) (nn nc : Nat) (m : List Int) (i n : Nat) (hi : i ≤ m.length) (W : World) (hq : Sq Z W (.slice ba m.length bc) m) : Calls Tryz.prog 31 #[sv (.slice ba m.length bc) i n (.slice na nn nc) 0] W fun e w' => EndU2 ba bc na nn nc m n e (nmb 10 0 0 (m.drop i)) ∧ Gr (fun _ => False) W w' := by
  obtain ⟨r, hr⟩ : ∃ r, nmb 10 0 0 (m.drop i) = r := ⟨_, rfl⟩
  rw [hr]
  have Hr := Lib.hid hr
  clear hr
  have hx := Lib.hid (Sx.new W (.slice ba m.length bc) (.slice na nn nc) i n 0)
  have Hq := Lib.hid hq
  have hml : (m.length : Int) ≤ 9223372036854775807 := by obtain ⟨_, _, e, h1, h2, _⟩ := hq; cases e; omega
  have hml0 : (0 : Int) ≤ (m.length : Int) := by omega
  have hi' := Lib.hid hi
  have hby := Lib.hid hq.byte
  clear hq hi
  go_enter Tryz.func31, Tryz.ntmps31
  go_wp2_with fail
  generalize hW1 : World.alloc (World.alloc W _) _ = W1
  have hx1 : Hid (Sx W W.heap.size (.slice ba m.length bc) (.slice na nn nc) i n 0 W1) := Lib.hid (hW1 ▸ hx.out)
  clear hW1 hx
  go_loopw [4, 5] (fun u v wr => ∃ (k a j : Nat), k < 10 ∧ u = .int .u64 (a : Int) ∧ v = .int .i64 (k : Int) ∧ Hid (a < 2 ^ (7 * k)) ∧ Hid (r = nmb (10 - k) k a (m.drop j)) ∧ Hid (j ≤ m.length) ∧ Hid (Sx W W.heap.size (.slice ba m.length bc) (.slice na nn nc) j n 0 wr)) (fun _ v _ => 10 - (intOf v).toNat)
  case atStart => exact ⟨0, 0, i, by omega, rfl, rfl, Lib.hid (by show 0 < 2 ^ 0; decide), Lib.hid Hr.out.symm, hi', hx1⟩
  case round =>
    obtain ⟨k, a, j, hk, rfl, rfl, Ha, Hm, hj, hS⟩ := hrel
    obtain ⟨f, hf⟩ : ∃ f, 10 - k = f + 1 := ⟨9 - k, by omega⟩
    rw [hf] at Hm
    have hkI : (k : Int) < 10 := by omega
    have hk0 : (0 : Int) ≤ (k : Int) := by omega
    obtain ⟨⟨c0, c1, c2, c3, c4⟩, z0, z1, z2, z3, z4⟩ := five hS.out.st
    have hl0 := (Array.getElem?_eq_some_iff.1 hS.out.st).1
    rcases Nat.lt_or_ge j m.length with hjl | hjl
    · obtain ⟨x, hx⟩ : ∃ x, m[j]? = some x := ⟨_, List.getElem?_eq_getElem hjl⟩
      have hxb := hby.out x (List.mem_of_getElem? hx)
      obtain ⟨c, rfl⟩ := Int.eq_ofNat_of_zero_le hxb.1
      have hd : m.drop j = (c : Int) :: m.drop (j + 1) := by
        obtain ⟨h', e'⟩ := List.getElem?_eq_some_iff.1 hx
        rw [List.drop_eq_getElem_cons h', e']
      have hone := Lib.hid (fun w g => rone_ok ba bc na nn nc j n m (c : Int) hx w (Hq.out.gr (g : Gr (fun _ => False) W w) (fun _ _ e => e)))
      have hcI : (c : Int) < 256 := hxb.2
      have hc0 : (0 : Int) ≤ (c : Int) := hxb.1
      have ht : (c : Int).tmod 128 = ((c % 128 : Nat) : Int) := by rw [Int.tmod_eq_emod_of_nonneg (by omega)]; omega
      have hjI : (j : Int) < (m.length : Int) := by omega
      have hj1 := Lib.hid (show j + 1 ≤ m.length by omega)
      rw [hd] at Hm
      clear hx hd hxb hjl
      by_cases hbad : (k = 9 ∧ (1 : Int) < c) ∨ (0 < k ∧ (c : Int) = 0)
      · have e : r = .error 73 := by rw [Hm.out, nmb, if_pos hbad]
        subst e
        clear Hm
        have hfail := Lib.hid (fail_new ba m.length bc na nn nc (j + 1) n 73)
        have hmust := Lib.hid (must_no ba m.length bc na nn nc (j + 1) n)
        rcases hbad with ⟨hk9, hc1⟩ | ⟨hk0', hc0'⟩
        · have hk9b : ((k : Int) == 9) = true := by simp; omega
          clear hk9
          go_wp2_with fail
          refine (hone.out _ hS.out.gr).mono ?_
          rintro e w1 ⟨rfl, g1⟩
          have s1 := hS.out.turn g1
          obtain ⟨⟨p0, p1, p2, p3, p4⟩, d0, d1, d2, d3, d4⟩ := five s1.st
          have hl1 := (Array.getElem?_eq_some_iff.1 s1.st).1
          have hS2 := Lib.hid (fun o => (s1.set (Nat.le_refl _) (.slice ba m.length bc) (.slice na nn nc) (j + 1) n 0).turn (Gr.alloc _ o _))
          clear s1
          go_wp2_with fail
          refine (hfail.out _).mono ?_
          rintro e w2 ⟨rfl, g2⟩
          have s3 := (hS2.out _).turn g2
          obtain ⟨⟨q0, q1, q2, q3, q4⟩, f0, f1, f2, f3, f4⟩ := five s3.out
          have hl3 := (Array.getElem?_eq_some_iff.1 s3.out).1
          have E5 := Lib.hid (set5_same (v0 := (.slice ba m.length bc)) (v1 := .int .i64 ((j : Int) + 1)) (v2 := .int .i64 (n : Int)) (v3 := (.slice na nn nc)) (v4 := .int .i64 73) s3.out)
          have G5 := Lib.hid (Gr.own5 w2 (W.heap.size + 1) (.slice ba m.length bc) (.int .i64 ((j : Int) + 1)) (.int .i64 (n : Int)) (.slice na nn nc) (.int .i64 73))
          have H3 := Lib.hid s3
          clear s3
          go_wp2_with fail
          generalize World.setCell (World.setCell (World.setCell (World.setCell (World.setCell w2 _ _) _ _) _ _) _ _) _ _ = wa at E5 G5 ⊢
          obtain ⟨⟨r0, r1, r2, r3, r4⟩, -⟩ := five E5.out
          exact bodyPost_ret (v := .tuple #[sv (.slice ba m.length bc) (j + 1) n (.slice na nn nc) 73, .int .u64 0]) (by simp [results, Tryz.results31, go_sem, r0, r1, r2, r3, r4]) rfl ⟨⟨_, _, by first | decide | exact (u64b _).1, by first | decide | exact (u64b _).2, rfl⟩, H3.out.gr.trans' G5.out (fun i hi e => by omega)⟩
        · have hk0b : ((k : Int) == 0) = false := by simp; omega
          have hcb : decide ((0 : Int) < (c : Int)) = false := by simp; omega
          have hcb2 : decide (0 < c) = false := by simp; omega
          have hc1 : ¬ (1 : Int) < (c : Int) := by omega
          have hc128 : (c : Int) < 128 := by omega
          by_cases hk9 : k = 9
          · have hk9b : ((k : Int) == 9) = true := by simp; omega
            clear hk9 hk0' hc0'
            go_wp2_with fail
            refine (hone.out _ hS.out.gr).mono ?_
            rintro e w1 ⟨rfl, g1⟩
            have s1 := hS.out.turn g1
            obtain ⟨⟨p0, p1, p2, p3, p4⟩, d0, d1, d2, d3, d4⟩ := five s1.st
            have hl1 := (Array.getElem?_eq_some_iff.1 s1.st).1
            have hS2 := Lib.hid (fun o => (s1.set (Nat.le_refl _) (.slice ba m.length bc) (.slice na nn nc) (j + 1) n 0).turn (Gr.alloc _ o _))
            clear s1
            go_wp2_with fail
            refine (hmust.out _).mono ?_
            rintro e w2 ⟨rfl, g2⟩
            have s3 := (hS2.out _).turn g2
            obtain ⟨⟨q0, q1, q2, q3, q4⟩, f0, f1, f2, f3, f4⟩ := five s3.out
            have hl3 := (Array.getElem?_eq_some_iff.1 s3.out).1
            have E5 := Lib.hid (set5_same (v0 := (.slice ba m.length bc)) (v1 := .int .i64 ((j : Int) + 1)) (v2 := .int .i64 (n : Int)) (v3 := (.slice na nn nc)) (v4 := .int .i64 73) s3.out)
            have G5 := Lib.hid (Gr.own5 w2 (W.heap.size + 1) (.slice ba m.length bc) (.int .i64 ((j : Int) + 1)) (.int .i64 (n : Int)) (.slice na nn nc) (.int .i64 73))
            have H3 := Lib.hid s3
            clear s3
            go_wp2_with fail
            generalize World.setCell (World.setCell (World.setCell (World.setCell (World.setCell w2 _ _) _ _) _ _) _ _) _ _ = wa at E5 G5 ⊢
            obtain ⟨⟨r0, r1, r2, r3, r4⟩, -⟩ := five E5.out
            exact bodyPost_ret (v := .tuple #[sv (.slice ba m.length bc) (j + 1) n (.slice na nn nc) 73, .int .u64 (IntKind.u64.wrap ((a : Int) + IntKind.u64.wrap ((c : Int) % 128 * 2 ^ (7 * k))))]) (by simp [results, Tryz.results31, go_sem, r0, r1, r2, r3, r4]) rfl ⟨⟨_, _, by first | decide | exact (u64b _).1, by first | decide | exact (u64b _).2, rfl⟩, H3.out.gr.trans' G5.out (fun i hi e => by omega)⟩
          · have hk9b : ((k : Int) == 9) = false := by simp; omega
            clear hk9 hk0' hc0'
            go_wp2_with fail
            refine (hone.out _ hS.out.gr).mono ?_
            rintro e w1 ⟨rfl, g1⟩
            have s1 := hS.out.turn g1
            obtain ⟨⟨p0, p1, p2, p3, p4⟩, d0, d1, d2, d3, d4⟩ := five s1.st
            have hl1 := (Array.getElem?_eq_some_iff.1 s1.st).1
            have hS2 := Lib.hid (fun o => (s1.set (Nat.le_refl _) (.slice ba m.length bc) (.slice na nn nc) (j + 1) n 0).turn (Gr.alloc _ o _))
            clear s1
            go_wp2_with fail
            refine (hmust.out _).mono ?_
            rintro e w2 ⟨rfl, g2⟩
            have s3 := (hS2.out _).turn g2
            obtain ⟨⟨q0, q1, q2, q3, q4⟩, f0, f1, f2, f3, f4⟩ := five s3.out
            have hl3 := (Array.getElem?_eq_some_iff.1 s3.out).1
            have E5 := Lib.hid (set5_same (v0 := (.slice ba m.length bc)) (v1 := .int .i64 ((j : Int) + 1)) (v2 := .int .i64 (n : Int)) (v3 := (.slice na nn nc)) (v4 := .int .i64 73) s3.out)
            have G5 := Lib.hid (Gr.own5 w2 (W.heap.size + 1) (.slice ba m.length bc) (.int .i64 ((j : Int) + 1)) (.int .i64 (n : Int)) (.slice na nn nc) (.int .i64 73))
            have H3 := Lib.hid s3
            clear s3
            go_wp2_with fail
            generalize World.setCell (World.setCell (World.setCell (World.setCell (World.setCell w2 _ _) _ _) _ _) _ _) _ _ = wa at E5 G5 ⊢
            obtain ⟨⟨r0, r1, r2, r3, r4⟩, -⟩ := five E5.out
            exact bodyPost_ret (v := .tuple #[sv (.slice ba m.length bc) (j + 1) n (.slice na nn nc) 73, .int .u64 (IntKind.u64.wrap ((a : Int) + IntKind.u64.wrap ((c : Int) % 128 * 2 ^ (7 * k))))]) (by simp [results, Tryz.results31, go_sem, r0, r1, r2, r3, r4]) rfl ⟨⟨_, _, by first | decide | exact (u64b _).1, by first | decide | exact (u64b _).2, rfl⟩, H3.out.gr.trans' G5.out (fun i hi e => by omega)⟩
      · have hv := Lib.hid (addv7 a c k Ha.out hk (by omega) (fun e => by omega))
        by_cases h128 : (c : Int) < 128
        · have e : r = .ok (a + c % 128 * 2 ^ (7 * k), m.drop (j + 1)) := by rw [Hm.out, nmb, if_neg hbad, if_pos h128]; rfl
          subst e
          clear Hm
          have hmust := Lib.hid (must_yes ba m.length bc na nn nc (j + 1) n 0)
          by_cases hc00 : (0 : Int) < (c : Int)
          · have hcb : decide ((0 : Int) < (c : Int)) = true := by simp; omega
            have hcb2 : decide (0 < c) = true := by simp; omega
            by_cases hk9 : k = 9
            · have hk9b : ((k : Int) == 9) = true := by simp; omega
              have hc1 : ¬ (1 : Int) < (c : Int) := by omega
              clear hk9 hbad hc00
              go_wp2_with fail
              refine (hone.out _ hS.out.gr).mono ?_
              rintro e w1 ⟨rfl, g1⟩
              have s1 := hS.out.turn g1
              obtain ⟨⟨p0, p1, p2, p3, p4⟩, d0, d1, d2, d3, d4⟩ := five s1.st
              have hl1 := (Array.getElem?_eq_some_iff.1 s1.st).1
              have hS2 := Lib.hid (fun o => (s1.set (Nat.le_refl _) (.slice ba m.length bc) (.slice na nn nc) (j + 1) n 0).turn (Gr.alloc _ o _))
              clear s1
              go_wp2_with fail
              refine (hmust.out _).mono ?_
              rintro e w2 ⟨rfl, g2⟩
              have s3 := (hS2.out _).turn g2
              obtain ⟨⟨q0, q1, q2, q3, q4⟩, f0, f1, f2, f3, f4⟩ := five s3.out
              have hl3 := (Array.getElem?_eq_some_iff.1 s3.out).1
              have E5 := Lib.hid (set5_same (v0 := (.slice ba m.length bc)) (v1 := .int .i64 ((j : Int) + 1)) (v2 := .int .i64 (n : Int)) (v3 := (.slice na nn nc)) (v4 := .int .i64 0) s3.out)
              have G5 := Lib.hid (Gr.own5 w2 (W.heap.size + 1) (.slice ba m.length bc) (.int .i64 ((j : Int) + 1)) (.int .i64 (n : Int)) (.slice na nn nc) (.int .i64 0))
              have H3 := Lib.hid s3
              clear s3
              go_wp2_with fail
              generalize World.setCell (World.setCell (World.setCell (World.setCell (World.setCell w2 _ _) _ _) _ _) _ _) _ _ = wa at E5 G5 ⊢
              obtain ⟨⟨r0, r1, r2, r3, r4⟩, -⟩ := five E5.out
              exact bodyPost_ret (v := .tuple #[sv (.slice ba m.length bc) (j + 1) n (.slice na nn nc) 0, .int .u64 (IntKind.u64.wrap ((a : Int) + IntKind.u64.wrap ((c : Int) % 128 * 2 ^ (7 * k))))]) (by simp [results, Tryz.results31, go_sem, r0, r1, r2, r3, r4]) rfl ⟨⟨j + 1, hj1.out, rfl, hv.out.1, by rw [wv7 a c k hv.out.1]⟩, H3.out.gr.trans' G5.out (fun i hi e => by omega)⟩
            · have hk9b : ((k : Int) == 9) = false := by simp; omega
              clear hk9 hbad hc00
              go_wp2_with fail
              refine (hone.out _ hS.out.gr).mono ?_
              rintro e w1 ⟨rfl, g1⟩
              have s1 := hS.out.turn g1
              obtain ⟨⟨p0, p1, p2, p3, p4⟩, d0, d1, d2, d3, d4⟩ := five s1.st
              have hl1 := (Array.getElem?_eq_some_iff.1 s1.st).1
              have hS2 := Lib.hid (fun o => (s1.set (Nat.le_refl _) (.slice ba m.length bc) (.slice na nn nc) (j + 1) n 0).turn (Gr.alloc _ o _))
              clear s1
              go_wp2_with fail
              refine (hmust.out _).mono ?_
              rintro e w2 ⟨rfl, g2⟩
              have s3 := (hS2.out _).turn g2
              obtain ⟨⟨q0, q1, q2, q3, q4⟩, f0, f1, f2, f3, f4⟩ := five s3.out
              have hl3 := (Array.getElem?_eq_some_iff.1 s3.out).1
              have E5 := Lib.hid (set5_same (v0 := (.slice ba m.length bc)) (v1 := .int .i64 ((j : Int) + 1)) (v2 := .int .i64 (n : Int)) (v3 := (.slice na nn nc)) (v4 := .int .i64 0) s3.out)
              have G5 := Lib.hid (Gr.own5 w2 (W.heap.size + 1) (.slice ba m.length bc) (.int .i64 ((j : Int) + 1)) (.int .i64 (n : Int)) (.slice na nn nc) (.int .i64 0))
              have H3 := Lib.hid s3
              clear s3
              go_wp2_with fail
              generalize World.setCell (World.setCell (World.setCell (World.setCell (World.setCell w2 _ _) _ _) _ _) _ _) _ _ = wa at E5 G5 ⊢
              obtain ⟨⟨r0, r1, r2, r3, r4⟩, -⟩ := five E5.out
              exact bodyPost_ret (v := .tuple #[sv (.slice ba m.length bc) (j + 1) n (.slice na nn nc) 0, .int .u64 (IntKind.u64.wrap ((a : Int) + IntKind.u64.wrap ((c : Int) % 128 * 2 ^ (7 * k))))]) (by simp [results, Tryz.results31, go_sem, r0, r1, r2, r3, r4]) rfl ⟨⟨j + 1, hj1.out, rfl, hv.out.1, by rw [wv7 a c k hv.out.1]⟩, H3.out.gr.trans' G5.out (fun i hi e => by omega)⟩
          · have hcb : decide ((0 : Int) < (c : Int)) = false := by simp; omega
            have hcb2 : decide (0 < c) = false := by simp; omega
            have hk0b : ((k : Int) == 0) = true := by simp; omega
            have hk9b : ((k : Int) == 9) = false := by simp; omega
            clear hbad hc00
            go_wp2_with fail
            refine (hone.out _ hS.out.gr).mono ?_
            rintro e w1 ⟨rfl, g1⟩
            have s1 := hS.out.turn g1
            obtain ⟨⟨p0, p1, p2, p3, p4⟩, d0, d1, d2, d3, d4⟩ := five s1.st
            have hl1 := (Array.getElem?_eq_some_iff.1 s1.st).1
            have hS2 := Lib.hid (fun o => (s1.set (Nat.le_refl _) (.slice ba m.length bc) (.slice na nn nc) (j + 1) n 0).turn (Gr.alloc _ o _))
            clear s1
            go_wp2_with fail
            refine (hmust.out _).mono ?_
            rintro e w2 ⟨rfl, g2⟩
            have s3 := (hS2.out _).turn g2
            obtain ⟨⟨q0, q1, q2, q3, q4⟩, f0, f1, f2, f3, f4⟩ := five s3.out
            have hl3 := (Array.getElem?_eq_some_iff.1 s3.out).1
            have E5 := Lib.hid (set5_same (v0 := (.slice ba m.length bc)) (v1 := .int .i64 ((j : Int) + 1)) (v2 := .int .i64 (n : Int)) (v3 := (.slice na nn nc)) (v4 := .int .i64 0) s3.out)
            have G5 := Lib.hid (Gr.own5 w2 (W.heap.size + 1) (.slice ba m.length bc) (.int .i64 ((j : Int) + 1)) (.int .i64 (n : Int)) (.slice na nn nc) (.int .i64 0))
            have H3 := Lib.hid s3
            clear s3
            go_wp2_with fail
            generalize World.setCell (World.setCell (World.setCell (World.setCell (World.setCell w2 _ _) _ _) _ _) _ _) _ _ = wa at E5 G5 ⊢
            obtain ⟨⟨r0, r1, r2, r3, r4⟩, -⟩ := five E5.out
            exact bodyPost_ret (v := .tuple #[sv (.slice ba m.length bc) (j + 1) n (.slice na nn nc) 0, .int .u64 (IntKind.u64.wrap ((a : Int) + IntKind.u64.wrap ((c : Int) % 128 * 2 ^ (7 * k))))]) (by simp [results, Tryz.results31, go_sem, r0, r1, r2, r3, r4]) rfl ⟨⟨j + 1, hj1.out, rfl, hv.out.1, by rw [wv7 a c k hv.out.1]⟩, H3.out.gr.trans' G5.out (fun i hi e => by omega)⟩
        · have hk9 : ¬ k = 9 := by omega
          have h9 := Lib.hid (show k < 9 by omega)
          have hk9b : ((k : Int) == 9) = false := by simp; omega
          have e : r = nmb f (k + 1) (a + c % 128 * 2 ^ (7 * k)) (m.drop (j + 1)) := by rw [Hm.out, nmb, if_neg hbad, if_neg h128]; rfl
          have He := Lib.hid e
          clear e Hm hbad hk9
          go_wp2_with fail
          refine (hone.out _ hS.out.gr).mono ?_
          rintro e w1 ⟨rfl, g1⟩
          have s1 := hS.out.turn g1
          obtain ⟨⟨p0, p1, p2, p3, p4⟩, d0, d1, d2, d3, d4⟩ := five s1.st
          have hl1 := (Array.getElem?_eq_some_iff.1 s1.st).1
          have hS2 := Lib.hid (fun o => (s1.set (Nat.le_refl _) (.slice ba m.length bc) (.slice na nn nc) (j + 1) n 0).turn (Gr.alloc _ o _))
          clear s1
          have hf1 : f = 10 - (k + 1) := by omega
          go_wp2_with fail
          exact ⟨⟨k + 1, a + c % 128 * 2 ^ (7 * k), j + 1, by have := h9.out; omega, by rw [wv7 a c k hv.out.1], by go_num, Lib.hid (hv.out.2 (by have := h9.out; omega)), Lib.hid (by rw [← hf1]; exact He.out), hj1, Lib.hid (hS2.out _)⟩, by simp [intOf]; omega⟩
    · obtain rfl : j = m.length := by have := hj.out; omega
      have e : r = .error 72 := by rw [Hm.out, List.drop_length]; rfl
      subst e
      clear Hm
      have hone := Lib.hid (rone_no ba bc na nn nc n m.length)
      have hmust := Lib.hid (must_old ba m.length bc na nn nc m.length n 72 (by decide))
      by_cases hk00 : k = 0
      · subst hk00
        go_wp2_with fail
        refine (hone.out _).mono ?_
        rintro e w1 ⟨rfl, g1⟩
        have s1 := hS.out.turn g1
        obtain ⟨⟨p0, p1, p2, p3, p4⟩, d0, d1, d2, d3, d4⟩ := five s1.st
        have hl1 := (Array.getElem?_eq_some_iff.1 s1.st).1
        have hS2 := Lib.hid (fun o => (s1.set (Nat.le_refl _) (.slice ba m.length bc) (.slice na nn nc) m.length n 72).turn (Gr.alloc _ o _))
        clear s1
        go_wp2_with fail
        refine (hmust.out _ _).mono ?_
        rintro e w2 ⟨rfl, g2⟩
        have s3 := (hS2.out _).turn g2
        obtain ⟨⟨q0, q1, q2, q3, q4⟩, f0, f1, f2, f3, f4⟩ := five s3.out
        have hl3 := (Array.getElem?_eq_some_iff.1 s3.out).1
        have E5 := Lib.hid (set5_same (v0 := (.slice ba m.length bc)) (v1 := .int .i64 ((m.length : Nat) : Int)) (v2 := .int .i64 (n : Int)) (v3 := (.slice na nn nc)) (v4 := .int .i64 72) s3.out)
        have G5 := Lib.hid (Gr.own5 w2 (W.heap.size + 1) (.slice ba m.length bc) (.int .i64 ((m.length : Nat) : Int)) (.int .i64 (n : Int)) (.slice na nn nc) (.int .i64 72))
        have H3 := Lib.hid s3
        clear s3
        go_wp2_with fail
        generalize World.setCell (World.setCell (World.setCell (World.setCell (World.setCell w2 _ _) _ _) _ _) _ _) _ _ = wa at E5 G5 ⊢
        obtain ⟨⟨r0, r1, r2, r3, r4⟩, -⟩ := five E5.out
        exact bodyPost_ret (v := .tuple #[sv (.slice ba m.length bc) (m.length) n (.slice na nn nc) 72, .int .u64 (IntKind.u64.wrap (a : Int))]) (by simp [results, Tryz.results31, go_sem, r0, r1, r2, r3, r4]) rfl ⟨⟨_, _, by first | decide | exact (u64b _).1, by first | decide | exact (u64b _).2, rfl⟩, H3.out.gr.trans' G5.out (fun i hi e => by omega)⟩
      · have hk0b : ((k : Int) == 0) = false := by simp; omega
        by_cases hk9 : k = 9
        · subst hk9
          go_wp2_with fail
          refine (hone.out _).mono ?_
          rintro e w1 ⟨rfl, g1⟩
          have s1 := hS.out.turn g1
          obtain ⟨⟨p0, p1, p2, p3, p4⟩, d0, d1, d2, d3, d4⟩ := five s1.st
          have hl1 := (Array.getElem?_eq_some_iff.1 s1.st).1
          have hS2 := Lib.hid (fun o => (s1.set (Nat.le_refl _) (.slice ba m.length bc) (.slice na nn nc) m.length n 72).turn (Gr.alloc _ o _))
          clear s1
          go_wp2_with fail
          refine (hmust.out _ _).mono ?_
          rintro e w2 ⟨rfl, g2⟩
          have s3 := (hS2.out _).turn g2
          obtain ⟨⟨q0, q1, q2, q3, q4⟩, f0, f1, f2, f3, f4⟩ := five s3.out
          have hl3 := (Array.getElem?_eq_some_iff.1 s3.out).1
          have E5 := Lib.hid (set5_same (v0 := (.slice ba m.length bc)) (v1 := .int .i64 ((m.length : Nat) : Int)) (v2 := .int .i64 (n : Int)) (v3 := (.slice na nn nc)) (v4 := .int .i64 72) s3.out)
          have G5 := Lib.hid (Gr.own5 w2 (W.heap.size + 1) (.slice ba m.length bc) (.int .i64 ((m.length : Nat) : Int)) (.int .i64 (n : Int)) (.slice na nn nc) (.int .i64 72))
          have H3 := Lib.hid s3
          clear s3
          go_wp2_with fail
          generalize World.setCell (World.setCell (World.setCell (World.setCell (World.setCell w2 _ _) _ _) _ _) _ _) _ _ = wa at E5 G5 ⊢
          obtain ⟨⟨r0, r1, r2, r3, r4⟩, -⟩ := five E5.out
          exact bodyPost_ret (v := .tuple #[sv (.slice ba m.length bc) (m.length) n (.slice na nn nc) 72, .int .u64 (IntKind.u64.wrap (a : Int))]) (by simp [results, Tryz.results31, go_sem, r0, r1, r2, r3, r4]) rfl ⟨⟨_, _, by first | decide | exact (u64b _).1, by first | decide | exact (u64b _).2, rfl⟩, H3.out.gr.trans' G5.out (fun i hi e => by omega)⟩
        · have hk9b : ((k : Int) == 9) = false := by simp; omega
          clear hk9 hk00
          go_wp2_with fail
          refine (hone.out _).mono ?_
          rintro e w1 ⟨rfl, g1⟩
          have s1 := hS.out.turn g1
          obtain ⟨⟨p0, p1, p2, p3, p4⟩, d0, d1, d2, d3, d4⟩ := five s1.st
          have hl1 := (Array.getElem?_eq_some_iff.1 s1.st).1
          have hS2 := Lib.hid (fun o => (s1.set (Nat.le_refl _) (.slice ba m.length bc) (.slice na nn nc) m.length n 72).turn (Gr.alloc _ o _))
          clear s1
          go_wp2_with fail
          refine (hmust.out _ _).mono ?_
          rintro e w2 ⟨rfl, g2⟩
          have s3 := (hS2.out _).turn g2
          obtain ⟨⟨q0, q1, q2, q3, q4⟩, f0, f1, f2, f3, f4⟩ := five s3.out
          have hl3 := (Array.getElem?_eq_some_iff.1 s3.out).1
          have E5 := Lib.hid (set5_same (v0 := (.slice ba m.length bc)) (v1 := .int .i64 ((m.length : Nat) : Int)) (v2 := .int .i64 (n : Int)) (v3 := (.slice na nn nc)) (v4 := .int .i64 72) s3.out)
          have G5 := Lib.hid (Gr.own5 w2 (W.heap.size + 1) (.slice ba m.length bc) (.int .i64 ((m.length : Nat) : Int)) (.int .i64 (n : Int)) (.slice na nn nc) (.int .i64 72))
          have H3 := Lib.hid s3
          clear s3
          go_wp2_with fail
          generalize World.setCell (World.setCell (World.setCell (World.setCell (World.setCell w2 _ _) _ _) _ _) _ _) _ _ = wa at E5 G5 ⊢
          obtain ⟨⟨r0, r1, r2, r3, r4⟩, -⟩ := five E5.out
          exact bodyPost_ret (v := .tuple #[sv (.slice ba m.length bc) (m.length) n (.slice na nn nc) 72, .int .u64 (IntKind.u64.wrap (a : Int))]) (by simp [results, Tryz.results31, go_sem, r0, r1, r2, r3, r4]) rfl ⟨⟨_, _, by first | decide | exact (u64b _).1, by first | decide | exact (u64b _).2, rfl⟩, H3.out.gr.trans' G5.out (fun i hi e => by omega)⟩
end Go.Proofs.YtmohehfkbhllpaaGreat

namespace Go.Proofs.YtmohehfkbhllpaaGreat
open Go.RowKit Go.Maps
variable {S S' Z : Nat → Prop} {W W1 W' : World}
/-- A state and a term in their blocks, cell by cell. -/
abbrev S14 (N tb : Nat) (v0 v1 v2 v3 v4 t0 t1 t2 t3 t4 t5 t6 t7 t8 : Value) (w' : World) : Prop :=
  w'.cell? ⟨N, 0, none⟩ = some v0 ∧ w'.cell? ⟨N, 1, none⟩ = some v1 ∧ w'.cell? ⟨N, 2, none⟩ = some v2 ∧ w'.cell? ⟨N, 3, none⟩ = some v3 ∧ w'.cell? ⟨N, 4, none⟩ = some v4 ∧
  w'.cell? ⟨tb, 0, none⟩ = some t0 ∧ w'.cell? ⟨tb, 1, none⟩ = some t1 ∧ w'.cell? ⟨tb, 2, none⟩ = some t2 ∧ w'.cell? ⟨tb, 3, none⟩ = some t3 ∧ w'.cell? ⟨tb, 4, none⟩ = some t4 ∧ w'.cell? ⟨tb, 5, none⟩ = some t5 ∧ w'.cell? ⟨tb, 6, none⟩ = some t6 ∧ w'.cell? ⟨tb, 7, none⟩ = some t7 ∧ w'.cell? ⟨tb, 8, none⟩ = some t8
theorem Sp.s14 {N tb : Nat} {bv nv : Value} {i n : Nat} {c : Int} {t0 t1 t2 t3 t4 t5 t6 t7 t8 : Value} {X : World} (h : Sp W N tb bv nv i n c #[t0, t1, t2, t3, t4, t5, t6, t7, t8] X) : S14 N tb bv (.int .i64 (i : Int)) (.int .i64 (n : Int)) nv (.int .i64 c) t0 t1 t2 t3 t4 t5 t6 t7 t8 X := by
  obtain ⟨⟨p0, p1, p2, p3, p4⟩, -⟩ := Go.Proofs.YtmohehfkbhllpaaGreat.five h.sx.st
  obtain ⟨⟨a0, a1, a2, a3, a4, a5, a6, a7, a8⟩, -⟩ := nine h.tm
  exact ⟨p0, p1, p2, p3, p4, a0, a1, a2, a3, a4, a5, a6, a7, a8⟩
set_option maxRecDepth 20000 in
set_option maxHeartbeats 800000 in
theorem part_1e (ba : Option Addr) (bc : Nat) (na : Option Addr) (nc : Nat) (m : List Int) (l : List ByteArray) (i n : Nat) (d : Int) (hi : i ≤ m.length) (hn : n ≤ 4096) (W : World) (hd : d ≤ 24) (x : Int) (hb : n < 4096) (hmx : m[i]? = some x) (hq : Sq Z W (.slice ba m.length bc) m) (hx3 : x = 1) (c : Int) (hr : nmb 10 0 0 (m.drop (i + 1)) = .error c) : Calls Tryz.prog 16 #[sv (.slice ba m.length bc) i n (.slice na l.length nc) 0, .int .i64 d] W fun e w' => (EndP ba bc m W e w' (.error c)) ∧ Gr (fun _ => False) W w' := by
  have hx := Lib.hid (Sq0.new W (.slice ba m.length bc) (.slice na l.length nc) i n 0)
  have hnI : (n : Int) ≤ 4096 := by omega
  have hn0 : (0 : Int) ≤ (n : Int) := by omega
  obtain ⟨n1, hn1⟩ : ∃ n1, n + 1 = n1 := ⟨_, rfl⟩
  have hn1I : (n : Int) + 1 = (n1 : Int) := by omega
  have hn1b : (n1 : Int) ≤ 5000 := by omega
  have hn1c : (0 : Int) ≤ (n1 : Int) := by omega
  have Hn1 := Lib.hid hn1
  have Hn := Lib.hid hn
  clear hn1 hn
  have hdI : decide ((24 : Int) < d) = false := by simp; omega
  clear hd
  have hbI : decide ((4096 : Int) < (n1 : Int)) = false := by simp; omega
  have h1 := Lib.hid (fun w g => rone_ok ba bc na l.length nc i n1 m x hmx w (hq.gr (g : Gr (fun _ => False) W w) (fun _ _ e => e)))
  have hxb := hq.byte x (List.mem_of_getElem? hmx)
  have hx0 : (0 : Int) ≤ x := hxb.1
  have hx1 : x < 256 := hxb.2
  have h31 := Lib.hid (fun w (g : Gr (fun _ => False) W w) => wide_e ba bc na l.length nc m (i + 1) n1 (by have := (List.getElem?_eq_some_iff.1 hmx).1; omega) w (hq.gr g (fun _ _ e => e)))
  rw [hr] at h31
  have hc := nmb_er _ _ _ _ _ hr
  clear hb hmx hq hxb hr hx0 hx1
  subst hx3
  go_enter Tryz.func16, Tryz.ntmps16
  go_wp2_with fail
  generalize hW1 : World.alloc (World.alloc (World.alloc W _) _) _ = W1
  have H0 : Hid (Sq0 W W.heap.size (.slice ba m.length bc) (.slice na l.length nc) i n1 0 W1) := Lib.hid (hW1 ▸ Sq0.new W (.slice ba m.length bc) (.slice na l.length nc) i n1 0)
  clear hW1 hx
  refine (h1.out _ H0.out.sx.gr).mono ?_
  rintro e w1 ⟨rfl, g1⟩
  have s1 := H0.out.turn g1
  obtain ⟨⟨x0, x1, x2, x3, x4⟩, xf0, xf1, xf2, xf3, xf4⟩ := five s1.sx.st
  have l0 := (Array.getElem?_eq_some_iff.1 s1.sx.st).1
  have H1 := Lib.hid ((s1.set (Nat.le_refl _) (.slice ba m.length bc) (.slice na l.length nc) (i + 1) n1 0 ((i : Int) + 1) (by simp) (n1 : Int) rfl).term #[.int .i64 1, .int .i64 0, .complex .f64 0 0, .string e0, .int .i64 0, .int .u32 0, .int .u64 0, nl, nl] w1.heap.size (by simp))
  clear s1 g1 H0
  go_wp2_with fail
  generalize World.alloc _ _ = Y1 at H1 ⊢
  generalize w1.heap.size = tb at H1 ⊢
  clear x0 x1 x2 x3 x4 xf0 xf1 xf2 xf3 xf4 l0
  refine (h31.out _ H1.out.sx.gr).mono ?_
  rintro e w2 ⟨⟨j, uI, hu0, hu1, rfl⟩, g2⟩
  obtain ⟨u, rfl⟩ := Int.eq_ofNat_of_zero_le hu0
  obtain ⟨h, hh⟩ : ∃ h, u / 2 = h := ⟨_, rfl⟩
  have hhI : (u : Int) / 2 = (h : Int) := by omega
  have hhT : Int.tdiv (u : Int) 2 = (h : Int) := by rw [Int.tdiv_eq_ediv_of_nonneg (by omega)]; exact hhI
  have hhb : (h : Int) ≤ 9223372036854775807 := by omega
  have hh0 : (0 : Int) ≤ (h : Int) := by omega
  rcases Nat.mod_two_eq_zero_or_one u with hp | hp
  · have hpT : Int.tmod (u : Int) 2 = 0 := by rw [Int.tmod_eq_emod_of_nonneg (by omega)]; omega
    have hpE : (u : Int) % 2 = 0 := by omega
    clear hp hh hu0
    have s2 := H1.out.turn g2
    obtain ⟨⟨x0, x1, x2, x3, x4⟩, xf0, xf1, xf2, xf3, xf4⟩ := five s2.sx.st
    have l0 := (Array.getElem?_eq_some_iff.1 s2.sx.st).1
    obtain ⟨⟨t0, t1, t2, t3, t4, t5, t6, t7, t8⟩, tf⟩ := nine s2.tm
    have tfX := tf 1
    have l3 := (Array.getElem?_eq_some_iff.1 s2.tm).1
    have lt8 : ¬ tb = W.heap.size := by have := s2.lt; omega
    have lt5 : ¬ W.heap.size = tb := by have := s2.lt; omega
    have q1 : Sp W W.heap.size tb (.slice ba m.length bc) (.slice na l.length nc) j n1 c #[.int .i64 1, .int .i64 (h : Int), .complex .f64 0 0, .string e0, .int .i64 0, .int .u32 0, .int .u64 0, nl, nl] _ := (s2.set (Nat.le_refl _) (.slice ba m.length bc) (.slice na l.length nc) j n1 c ((j : Nat) : Int) (by simp) (n1 : Int) rfl).cell (Nat.le_refl _) 1 (.int .i64 (h : Int))
    have H2 := Lib.hid (q1.turn (Gr.alloc _ (.cells #[(.slice ba m.length bc), .int .i64 ((j : Nat) : Int), .int .i64 (n1 : Int), (.slice na l.length nc), .int .i64 c] 51) _))
    clear q1 s2 g2 H1
    go_wp2_with fail
    generalize World.alloc _ _ = Y2 at H2 ⊢
    clear x0 x1 x2 x3 x4 xf0 xf1 xf2 xf3 xf4 l0
    clear t0 t1 t2 t3 t4 t5 t6 t7 t8 tf tfX l3 lt8 lt5
    have hR := Lib.hid (fun w => refRight_int (h : Int) (by omega) (by omega) w)
    have Hd := Lib.hid (H2.out.turn (Gr.drew _ (fun _ => False)))
    have s14 : S14 W.heap.size tb (.slice ba m.length bc) (.int .i64 ((j : Nat) : Int)) (.int .i64 (n1 : Int)) (.slice na l.length nc) (.int .i64 c) (.int .i64 1) (.int .i64 (h : Int)) (.complex .f64 0 0) (.string e0) (.int .i64 0) (.int .u32 0) (.int .u64 0) nl nl Y2.drew := Hd.out.s14
    refine wp_region_L (L := 4) (T := S14 W.heap.size tb (.slice ba m.length bc) (.int .i64 ((j : Nat) : Int)) (.int .i64 (n1 : Int)) (.slice na l.length nc) (.int .i64 c) (.int .i64 1) (.int .i64 (h : Int)) (.complex .f64 0 0) (.string e0) (.int .i64 0) (.int .u32 0) (.int .u64 0) nl nl) (by kernel_rfl) ?_
    refine wpAnyL_at (i := 0) (v := sv (.slice ba m.length bc) j n1 (.slice na l.length nc) c) (some 77) rfl rfl (by kernel_rfl) (by kernel_rfl) (by kernel_rfl) (by kernel_rfl) (by decide) (fun _ _ _ h => h) (Or.inl ⟨by rfl, ?_⟩) s14 ?_
    · intro w hSw
      go_simp
    try simp only [Act.put, List.setIfInBounds_toArray, List.set_cons_zero, List.set_cons_succ]
    refine wpAnyL_at (i := 1) (v := (lf 1 (h : Int) 0 0 e0 0 0 0)) (some 78) rfl rfl (by kernel_rfl) (by kernel_rfl) (by kernel_rfl) (by kernel_rfl) (by decide) (fun _ _ _ h => h) (Or.inl ⟨by rfl, ?_⟩) s14 ?_
    · intro w hSw
      go_simp
    try simp only [Act.put, List.setIfInBounds_toArray, List.set_cons_zero, List.set_cons_succ]
    refine wpAnyL_one (i := 2) (by kernel_rfl) rfl (fun K hK => ?_)
    go_simp
    refine (hR.out _).mono ?_
    rintro e wr ⟨rfl, gr⟩
    have Hr := Lib.hid (Hd.out.turn gr)
    have s15 : S14 W.heap.size tb (.slice ba m.length bc) (.int .i64 ((j : Nat) : Int)) (.int .i64 (n1 : Int)) (.slice na l.length nc) (.int .i64 c) (.int .i64 1) (.int .i64 (h : Int)) (.complex .f64 0 0) (.string e0) (.int .i64 0) (.int .u32 0) (.int .u64 0) nl nl wr := Hr.out.s14
    refine hK.out _ _ (fun _ => s15) ?_
    clear hK K Hd s14
    try simp only [Act.put, List.setIfInBounds_toArray, List.set_cons_zero, List.set_cons_succ]
    refine wpAnyL_one (i := 3) (by kernel_rfl) rfl (fun K hK => ?_)
    go_simp
    refine (must_old ba m.length bc na l.length nc j n1 c hc _ _).mono ?_
    rintro e w3 ⟨rfl, g3⟩
    have s3 := Hr.out.turn g3
    obtain ⟨⟨x0, x1, x2, x3, x4⟩, xf0, xf1, xf2, xf3, xf4⟩ := five s3.sx.st
    have l0 := (Array.getElem?_eq_some_iff.1 s3.sx.st).1
    have s16 : S14 W.heap.size tb (.slice ba m.length bc) (.int .i64 ((j : Nat) : Int)) (.int .i64 (n1 : Int)) (.slice na l.length nc) (.int .i64 c) (.int .i64 1) (.int .i64 (h : Int)) (.complex .f64 0 0) (.string e0) (.int .i64 0) (.int .u32 0) (.int .u64 0) nl nl w3 := s3.s14
    have H3 := Lib.hid (s3.set (Nat.le_refl _) (.slice ba m.length bc) (.slice na l.length nc) j n1 c ((j : Nat) : Int) (by simp) (n1 : Int) rfl)
    refine hK.out _ _ (fun _ => s16) ?_
    clear hK K s3 Hr s15
    try simp only [Act.put, List.setIfInBounds_toArray, List.set_cons_zero, List.set_cons_succ]
    refine wpAnyL_one (i := 4) (by kernel_rfl) rfl (fun K hK => ?_)
    go_simp
    refine hK.out _ _ (fun h => absurd rfl h) ?_
    clear hK K s16
    try simp only [Act.put, List.setIfInBounds_toArray, List.set_cons_zero, List.set_cons_succ]
    refine wpAnyL_done (by kernel_rfl) ?_ _
    refine NoPanic.normal ?_
    go_wp2_with fail
    generalize World.setCell (World.setCell (World.setCell (World.setCell (World.setCell w3 _ _) _ _) _ _) _ _) _ _ = Y3 at H3 ⊢
    clear x0 x1 x2 x3 x4 xf0 xf1 xf2 xf3 xf4 l0
    obtain ⟨⟨x0, x1, x2, x3, x4⟩, xf0, xf1, xf2, xf3, xf4⟩ := five H3.out.sx.st
    have l0 := (Array.getElem?_eq_some_iff.1 H3.out.sx.st).1
    obtain ⟨⟨y0, y1, y2, y3, y4⟩, yf0, yf1, yf2, yf3, yf4⟩ := five H3.out.sx.out
    obtain ⟨⟨z0, z1, z2, z3, z4, z5, z6, z7, z8⟩, zf⟩ := nine H3.out.ot
    obtain ⟨⟨t0, t1, t2, t3, t4, t5, t6, t7, t8⟩, tf⟩ := nine H3.out.tm
    have l1 := (Array.getElem?_eq_some_iff.1 H3.out.sx.out).1
    have l2 := (Array.getElem?_eq_some_iff.1 H3.out.ot).1
    have l3 := (Array.getElem?_eq_some_iff.1 H3.out.tm).1
    have lt9 := H3.out.lt
    have HG := Lib.hid H3.out.sx.gr
    have lt8 : ¬ tb = W.heap.size := by omega
    have lt7 : ¬ tb = W.heap.size + 1 := by omega
    have lt6 : ¬ tb = W.heap.size + 1 + 1 := by omega
    have lt5 : ¬ W.heap.size + 1 = tb := by omega
    have lt4 : ¬ W.heap.size + 1 + 1 = tb := by omega
    go_region
    all_goals
      go_wp2
      refine bodyPost_ret (v := .tuple #[sv (.slice ba m.length bc) j n1 (.slice na l.length nc) c, (lf 1 (h : Int) 0 0 e0 0 0 0)]) (by simp [results, Tryz.results16, go_sem, y0, y1, y2, y3, y4, z0, z1, z2, z3, z4, z5, z6, z7, z8, l0, l1, l2]) rfl ?_
      exact ⟨⟨_, _, _, _, _, _, _, _, _, _, _, _, _, _, _, _, _, _, _, rfl⟩, ((HG.out.set5 (g := W.heap.size + 1) (Nat.le_succ _) _ _ _ _ _).set9 (g := W.heap.size + 1 + 1) (by omega) _ _ _ _ _ _ _ _ _).trans (Gr.drew _ _)⟩
  · have hpT : Int.tmod (u : Int) 2 = 1 := by rw [Int.tmod_eq_emod_of_nonneg (by omega)]; omega
    have hpE : (u : Int) % 2 = 1 := by omega
    clear hp hh hu0
    have s2 := H1.out.turn g2
    obtain ⟨⟨x0, x1, x2, x3, x4⟩, xf0, xf1, xf2, xf3, xf4⟩ := five s2.sx.st
    have l0 := (Array.getElem?_eq_some_iff.1 s2.sx.st).1
    obtain ⟨⟨t0, t1, t2, t3, t4, t5, t6, t7, t8⟩, tf⟩ := nine s2.tm
    have tfX := tf 1
    have l3 := (Array.getElem?_eq_some_iff.1 s2.tm).1
    have lt8 : ¬ tb = W.heap.size := by have := s2.lt; omega
    have lt5 : ¬ W.heap.size = tb := by have := s2.lt; omega
    have q1 : Sp W W.heap.size tb (.slice ba m.length bc) (.slice na l.length nc) j n1 c #[.int .i64 1, .int .i64 (h : Int), .complex .f64 0 0, .string e0, .int .i64 0, .int .u32 0, .int .u64 0, nl, nl] _ := (s2.set (Nat.le_refl _) (.slice ba m.length bc) (.slice na l.length nc) j n1 c ((j : Nat) : Int) (by simp) (n1 : Int) rfl).cell (Nat.le_refl _) 1 (.int .i64 (h : Int))
    obtain ⟨⟨a0, a1, a2, a3, a4, a5, a6, a7, a8⟩, af⟩ := nine q1.tm
    have af1 := af 1
    have q2 : Sp W W.heap.size tb (.slice ba m.length bc) (.slice na l.length nc) j n1 c #[.int .i64 1, .int .i64 (-(h : Int) - 1), .complex .f64 0 0, .string e0, .int .i64 0, .int .u32 0, .int .u64 0, nl, nl] _ := q1.cell (Nat.le_refl _) 1 (.int .i64 (-(h : Int) - 1))
    have H2 := Lib.hid (q2.turn (Gr.alloc _ (.cells #[(.slice ba m.length bc), .int .i64 ((j : Nat) : Int), .int .i64 (n1 : Int), (.slice na l.length nc), .int .i64 c] 51) _))
    clear q1 q2 s2 g2 H1 af
    go_wp2_with fail
    generalize World.alloc _ _ = Y2 at H2 ⊢
    clear x0 x1 x2 x3 x4 xf0 xf1 xf2 xf3 xf4 l0
    clear t0 t1 t2 t3 t4 t5 t6 t7 t8 tf tfX l3 lt8 lt5 a0 a1 a2 a3 a4 a5 a6 a7 a8 af1
    have hR := Lib.hid (fun w => refRight_int (-(h : Int) - 1) (by omega) (by omega) w)
    have Hd := Lib.hid (H2.out.turn (Gr.drew _ (fun _ => False)))
    have s14 : S14 W.heap.size tb (.slice ba m.length bc) (.int .i64 ((j : Nat) : Int)) (.int .i64 (n1 : Int)) (.slice na l.length nc) (.int .i64 c) (.int .i64 1) (.int .i64 (-(h : Int) - 1)) (.complex .f64 0 0) (.string e0) (.int .i64 0) (.int .u32 0) (.int .u64 0) nl nl Y2.drew := Hd.out.s14
    refine wp_region_L (L := 4) (T := S14 W.heap.size tb (.slice ba m.length bc) (.int .i64 ((j : Nat) : Int)) (.int .i64 (n1 : Int)) (.slice na l.length nc) (.int .i64 c) (.int .i64 1) (.int .i64 (-(h : Int) - 1)) (.complex .f64 0 0) (.string e0) (.int .i64 0) (.int .u32 0) (.int .u64 0) nl nl) (by kernel_rfl) ?_
    refine wpAnyL_at (i := 0) (v := sv (.slice ba m.length bc) j n1 (.slice na l.length nc) c) (some 77) rfl rfl (by kernel_rfl) (by kernel_rfl) (by kernel_rfl) (by kernel_rfl) (by decide) (fun _ _ _ h => h) (Or.inl ⟨by rfl, ?_⟩) s14 ?_
    · intro w hSw
      go_simp
    try simp only [Act.put, List.setIfInBounds_toArray, List.set_cons_zero, List.set_cons_succ]
    refine wpAnyL_at (i := 1) (v := (lf 1 (-(h : Int) - 1) 0 0 e0 0 0 0)) (some 78) rfl rfl (by kernel_rfl) (by kernel_rfl) (by kernel_rfl) (by kernel_rfl) (by decide) (fun _ _ _ h => h) (Or.inl ⟨by rfl, ?_⟩) s14 ?_
    · intro w hSw
      go_simp
    try simp only [Act.put, List.setIfInBounds_toArray, List.set_cons_zero, List.set_cons_succ]
    refine wpAnyL_one (i := 2) (by kernel_rfl) rfl (fun K hK => ?_)
    go_simp
    refine (hR.out _).mono ?_
    rintro e wr ⟨rfl, gr⟩
    have Hr := Lib.hid (Hd.out.turn gr)
    have s15 : S14 W.heap.size tb (.slice ba m.length bc) (.int .i64 ((j : Nat) : Int)) (.int .i64 (n1 : Int)) (.slice na l.length nc) (.int .i64 c) (.int .i64 1) (.int .i64 (-(h : Int) - 1)) (.complex .f64 0 0) (.string e0) (.int .i64 0) (.int .u32 0) (.int .u64 0) nl nl wr := Hr.out.s14
    refine hK.out _ _ (fun _ => s15) ?_
    clear hK K Hd s14
    try simp only [Act.put, List.setIfInBounds_toArray, List.set_cons_zero, List.set_cons_succ]
    refine wpAnyL_one (i := 3) (by kernel_rfl) rfl (fun K hK => ?_)
    go_simp
    refine (must_old ba m.length bc na l.length nc j n1 c hc _ _).mono ?_
    rintro e w3 ⟨rfl, g3⟩
    have s3 := Hr.out.turn g3
    obtain ⟨⟨x0, x1, x2, x3, x4⟩, xf0, xf1, xf2, xf3, xf4⟩ := five s3.sx.st
    have l0 := (Array.getElem?_eq_some_iff.1 s3.sx.st).1
    have s16 : S14 W.heap.size tb (.slice ba m.length bc) (.int .i64 ((j : Nat) : Int)) (.int .i64 (n1 : Int)) (.slice na l.length nc) (.int .i64 c) (.int .i64 1) (.int .i64 (-(h : Int) - 1)) (.complex .f64 0 0) (.string e0) (.int .i64 0) (.int .u32 0) (.int .u64 0) nl nl w3 := s3.s14
    have H3 := Lib.hid (s3.set (Nat.le_refl _) (.slice ba m.length bc) (.slice na l.length nc) j n1 c ((j : Nat) : Int) (by simp) (n1 : Int) rfl)
    refine hK.out _ _ (fun _ => s16) ?_
    clear hK K s3 Hr s15
    try simp only [Act.put, List.setIfInBounds_toArray, List.set_cons_zero, List.set_cons_succ]
    refine wpAnyL_one (i := 4) (by kernel_rfl) rfl (fun K hK => ?_)
    go_simp
    refine hK.out _ _ (fun h => absurd rfl h) ?_
    clear hK K s16
    try simp only [Act.put, List.setIfInBounds_toArray, List.set_cons_zero, List.set_cons_succ]
    refine wpAnyL_done (by kernel_rfl) ?_ _
    refine NoPanic.normal ?_
    go_wp2_with fail
    generalize World.setCell (World.setCell (World.setCell (World.setCell (World.setCell w3 _ _) _ _) _ _) _ _) _ _ = Y3 at H3 ⊢
    clear x0 x1 x2 x3 x4 xf0 xf1 xf2 xf3 xf4 l0
    obtain ⟨⟨x0, x1, x2, x3, x4⟩, xf0, xf1, xf2, xf3, xf4⟩ := five H3.out.sx.st
    have l0 := (Array.getElem?_eq_some_iff.1 H3.out.sx.st).1
    obtain ⟨⟨y0, y1, y2, y3, y4⟩, yf0, yf1, yf2, yf3, yf4⟩ := five H3.out.sx.out
    obtain ⟨⟨z0, z1, z2, z3, z4, z5, z6, z7, z8⟩, zf⟩ := nine H3.out.ot
    obtain ⟨⟨t0, t1, t2, t3, t4, t5, t6, t7, t8⟩, tf⟩ := nine H3.out.tm
    have l1 := (Array.getElem?_eq_some_iff.1 H3.out.sx.out).1
    have l2 := (Array.getElem?_eq_some_iff.1 H3.out.ot).1
    have l3 := (Array.getElem?_eq_some_iff.1 H3.out.tm).1
    have lt9 := H3.out.lt
    have HG := Lib.hid H3.out.sx.gr
    have lt8 : ¬ tb = W.heap.size := by omega
    have lt7 : ¬ tb = W.heap.size + 1 := by omega
    have lt6 : ¬ tb = W.heap.size + 1 + 1 := by omega
    have lt5 : ¬ W.heap.size + 1 = tb := by omega
    have lt4 : ¬ W.heap.size + 1 + 1 = tb := by omega
    go_region
    all_goals
      go_wp2
      refine bodyPost_ret (v := .tuple #[sv (.slice ba m.length bc) j n1 (.slice na l.length nc) c, (lf 1 (-(h : Int) - 1) 0 0 e0 0 0 0)]) (by simp [results, Tryz.results16, go_sem, y0, y1, y2, y3, y4, z0, z1, z2, z3, z4, z5, z6, z7, z8, l0, l1, l2]) rfl ?_
      exact ⟨⟨_, _, _, _, _, _, _, _, _, _, _, _, _, _, _, _, _, _, _, rfl⟩, ((HG.out.set5 (g := W.heap.size + 1) (Nat.le_succ _) _ _ _ _ _).set9 (g := W.heap.size + 1 + 1) (by omega) _ _ _ _ _ _ _ _ _).trans (Gr.drew _ _)⟩
set_option maxRecDepth 20000 in
set_option maxHeartbeats 800000 in
theorem part_1n (ba : Option Addr) (bc : Nat) (na : Option Addr) (nc : Nat) (m : List Int) (l : List ByteArray) (i n : Nat) (d : Int) (hi : i ≤ m.length) (hn : n ≤ 4096) (W : World) (hd : d ≤ 24) (x : Int) (hb : n < 4096) (hmx : m[i]? = some x) (hq : Sq Z W (.slice ba m.length bc) m) (hx3 : x = 1) (u : Nat) (r : List Int) (hr : nmb 10 0 0 (m.drop (i + 1)) = .ok (u, r)) (hI : inR (unf (u : Int)) = false) : Calls Tryz.prog 16 #[sv (.slice ba m.length bc) i n (.slice na l.length nc) 0, .int .i64 d] W fun e w' => (EndP ba bc m W e w' (.error 73)) ∧ Gr (fun _ => False) W w' := by
  have hx := Lib.hid (Sq0.new W (.slice ba m.length bc) (.slice na l.length nc) i n 0)
  have hnI : (n : Int) ≤ 4096 := by omega
  have hn0 : (0 : Int) ≤ (n : Int) := by omega
  obtain ⟨n1, hn1⟩ : ∃ n1, n + 1 = n1 := ⟨_, rfl⟩
  have hn1I : (n : Int) + 1 = (n1 : Int) := by omega
  have hn1b : (n1 : Int) ≤ 5000 := by omega
  have hn1c : (0 : Int) ≤ (n1 : Int) := by omega
  have Hn1 := Lib.hid hn1
  have Hn := Lib.hid hn
  clear hn1 hn
  have hdI : decide ((24 : Int) < d) = false := by simp; omega
  clear hd
  have hbI : decide ((4096 : Int) < (n1 : Int)) = false := by simp; omega
  have h1 := Lib.hid (fun w g => rone_ok ba bc na l.length nc i n1 m x hmx w (hq.gr (g : Gr (fun _ => False) W w) (fun _ _ e => e)))
  have hxb := hq.byte x (List.mem_of_getElem? hmx)
  have hx0 : (0 : Int) ≤ x := hxb.1
  have hx1 : x < 256 := hxb.2
  have h31 := Lib.hid (fun w (g : Gr (fun _ => False) W w) => wide_e ba bc na l.length nc m (i + 1) n1 (by have := (List.getElem?_eq_some_iff.1 hmx).1; omega) w (hq.gr g (fun _ _ e => e)))
  rw [hr] at h31
  have HI := Lib.hid hI
  clear hb hmx hq hxb hr hx0 hx1 hI
  subst hx3
  go_enter Tryz.func16, Tryz.ntmps16
  go_wp2_with fail
  generalize hW1 : World.alloc (World.alloc (World.alloc W _) _) _ = W1
  have H0 : Hid (Sq0 W W.heap.size (.slice ba m.length bc) (.slice na l.length nc) i n1 0 W1) := Lib.hid (hW1 ▸ Sq0.new W (.slice ba m.length bc) (.slice na l.length nc) i n1 0)
  clear hW1 hx
  refine (h1.out _ H0.out.sx.gr).mono ?_
  rintro e w1 ⟨rfl, g1⟩
  have s1 := H0.out.turn g1
  obtain ⟨⟨x0, x1, x2, x3, x4⟩, xf0, xf1, xf2, xf3, xf4⟩ := five s1.sx.st
  have l0 := (Array.getElem?_eq_some_iff.1 s1.sx.st).1
  have H1 := Lib.hid ((s1.set (Nat.le_refl _) (.slice ba m.length bc) (.slice na l.length nc) (i + 1) n1 0 ((i : Int) + 1) (by simp) (n1 : Int) rfl).term #[.int .i64 1, .int .i64 0, .complex .f64 0 0, .string e0, .int .i64 0, .int .u32 0, .int .u64 0, nl, nl] w1.heap.size (by simp))
  clear s1 g1 H0
  go_wp2_with fail
  generalize World.alloc _ _ = Y1 at H1 ⊢
  generalize w1.heap.size = tb at H1 ⊢
  clear x0 x1 x2 x3 x4 xf0 xf1 xf2 xf3 xf4 l0
  refine (h31.out _ H1.out.sx.gr).mono ?_
  rintro e w2 ⟨⟨j, hj, hjr, hu, rfl⟩, g2⟩
  have Hj := Lib.hid hj
  have Hjr := Lib.hid hjr
  have huI : (u : Int) < 18446744073709551616 := by omega
  have hu0 : (0 : Int) ≤ (u : Int) := by omega
  clear hj hjr
  obtain ⟨h, hh⟩ : ∃ h, u / 2 = h := ⟨_, rfl⟩
  have hhI : (u : Int) / 2 = (h : Int) := by omega
  have hhT : Int.tdiv (u : Int) 2 = (h : Int) := by rw [Int.tdiv_eq_ediv_of_nonneg (by omega)]; exact hhI
  have hhb : (h : Int) ≤ 9223372036854775807 := by omega
  have hh0 : (0 : Int) ≤ (h : Int) := by omega
  clear hu
  rcases Nat.mod_two_eq_zero_or_one u with hp | hp
  · have hpT : Int.tmod (u : Int) 2 = 0 := by rw [Int.tmod_eq_emod_of_nonneg (by omega)]; omega
    have hpE : (u : Int) % 2 = 0 := by omega
    clear hp hh hu0
    have s2 := H1.out.turn g2
    obtain ⟨⟨x0, x1, x2, x3, x4⟩, xf0, xf1, xf2, xf3, xf4⟩ := five s2.sx.st
    have l0 := (Array.getElem?_eq_some_iff.1 s2.sx.st).1
    obtain ⟨⟨t0, t1, t2, t3, t4, t5, t6, t7, t8⟩, tf⟩ := nine s2.tm
    have tfX := tf 1
    have l3 := (Array.getElem?_eq_some_iff.1 s2.tm).1
    have lt8 : ¬ tb = W.heap.size := by have := s2.lt; omega
    have lt5 : ¬ W.heap.size = tb := by have := s2.lt; omega
    have q1 : Sp W W.heap.size tb (.slice ba m.length bc) (.slice na l.length nc) j n1 0 #[.int .i64 1, .int .i64 (h : Int), .complex .f64 0 0, .string e0, .int .i64 0, .int .u32 0, .int .u64 0, nl, nl] _ := (s2.set (Nat.le_refl _) (.slice ba m.length bc) (.slice na l.length nc) j n1 0 ((j : Nat) : Int) (by simp) (n1 : Int) rfl).cell (Nat.le_refl _) 1 (.int .i64 (h : Int))
    have H2 := Lib.hid (q1.turn (Gr.alloc _ (.cells #[(.slice ba m.length bc), .int .i64 ((j : Nat) : Int), .int .i64 (n1 : Int), (.slice na l.length nc), .int .i64 0] 51) _))
    clear q1 s2 g2 H1
    go_wp2_with fail
    generalize World.alloc _ _ = Y2 at H2 ⊢
    clear x0 x1 x2 x3 x4 xf0 xf1 xf2 xf3 xf4 l0
    clear t0 t1 t2 t3 t4 t5 t6 t7 t8 tf tfX l3 lt8 lt5
    have hR := Lib.hid (fun w => refRight_int (h : Int) (by omega) (by omega) w)
    have hvv : inR (h : Int) = false := by have hz := HI.out; unfold unf at hz; rw [if_neg (by omega), hhI] at hz; exact hz
    rw [hvv] at hR
    clear hvv
    have Hd := Lib.hid (H2.out.turn (Gr.drew _ (fun _ => False)))
    have s14 : S14 W.heap.size tb (.slice ba m.length bc) (.int .i64 ((j : Nat) : Int)) (.int .i64 (n1 : Int)) (.slice na l.length nc) (.int .i64 0) (.int .i64 1) (.int .i64 (h : Int)) (.complex .f64 0 0) (.string e0) (.int .i64 0) (.int .u32 0) (.int .u64 0) nl nl Y2.drew := Hd.out.s14
    refine wp_region_L (L := 4) (T := S14 W.heap.size tb (.slice ba m.length bc) (.int .i64 ((j : Nat) : Int)) (.int .i64 (n1 : Int)) (.slice na l.length nc) (.int .i64 0) (.int .i64 1) (.int .i64 (h : Int)) (.complex .f64 0 0) (.string e0) (.int .i64 0) (.int .u32 0) (.int .u64 0) nl nl) (by kernel_rfl) ?_
    refine wpAnyL_at (i := 0) (v := sv (.slice ba m.length bc) j n1 (.slice na l.length nc) 0) (some 77) rfl rfl (by kernel_rfl) (by kernel_rfl) (by kernel_rfl) (by kernel_rfl) (by decide) (fun _ _ _ h => h) (Or.inl ⟨by rfl, ?_⟩) s14 ?_
    · intro w hSw
      go_simp
    try simp only [Act.put, List.setIfInBounds_toArray, List.set_cons_zero, List.set_cons_succ]
    refine wpAnyL_at (i := 1) (v := (lf 1 (h : Int) 0 0 e0 0 0 0)) (some 78) rfl rfl (by kernel_rfl) (by kernel_rfl) (by kernel_rfl) (by kernel_rfl) (by decide) (fun _ _ _ h => h) (Or.inl ⟨by rfl, ?_⟩) s14 ?_
    · intro w hSw
      go_simp
    try simp only [Act.put, List.setIfInBounds_toArray, List.set_cons_zero, List.set_cons_succ]
    refine wpAnyL_one (i := 2) (by kernel_rfl) rfl (fun K hK => ?_)
    go_simp
    refine (hR.out _).mono ?_
    rintro e wr ⟨rfl, gr⟩
    have Hr := Lib.hid (Hd.out.turn gr)
    have s15 : S14 W.heap.size tb (.slice ba m.length bc) (.int .i64 ((j : Nat) : Int)) (.int .i64 (n1 : Int)) (.slice na l.length nc) (.int .i64 0) (.int .i64 1) (.int .i64 (h : Int)) (.complex .f64 0 0) (.string e0) (.int .i64 0) (.int .u32 0) (.int .u64 0) nl nl wr := Hr.out.s14
    refine hK.out _ _ (fun _ => s15) ?_
    clear hK K Hd s14
    try simp only [Act.put, List.setIfInBounds_toArray, List.set_cons_zero, List.set_cons_succ]
    refine wpAnyL_one (i := 3) (by kernel_rfl) rfl (fun K hK => ?_)
    go_simp
    refine (must_no ba m.length bc na l.length nc j n1 _).mono ?_
    rintro e w3 ⟨rfl, g3⟩
    have s3 := Hr.out.turn g3
    obtain ⟨⟨x0, x1, x2, x3, x4⟩, xf0, xf1, xf2, xf3, xf4⟩ := five s3.sx.st
    have l0 := (Array.getElem?_eq_some_iff.1 s3.sx.st).1
    have s16 : S14 W.heap.size tb (.slice ba m.length bc) (.int .i64 ((j : Nat) : Int)) (.int .i64 (n1 : Int)) (.slice na l.length nc) (.int .i64 0) (.int .i64 1) (.int .i64 (h : Int)) (.complex .f64 0 0) (.string e0) (.int .i64 0) (.int .u32 0) (.int .u64 0) nl nl w3 := s3.s14
    have H3 := Lib.hid (s3.set (Nat.le_refl _) (.slice ba m.length bc) (.slice na l.length nc) j n1 73 ((j : Nat) : Int) (by simp) (n1 : Int) rfl)
    refine hK.out _ _ (fun _ => s16) ?_
    clear hK K s3 Hr s15
    try simp only [Act.put, List.setIfInBounds_toArray, List.set_cons_zero, List.set_cons_succ]
    refine wpAnyL_one (i := 4) (by kernel_rfl) rfl (fun K hK => ?_)
    go_simp
    refine hK.out _ _ (fun h => absurd rfl h) ?_
    clear hK K s16
    try simp only [Act.put, List.setIfInBounds_toArray, List.set_cons_zero, List.set_cons_succ]
    refine wpAnyL_done (by kernel_rfl) ?_ _
    refine NoPanic.normal ?_
    go_wp2_with fail
    generalize World.setCell (World.setCell (World.setCell (World.setCell (World.setCell w3 _ _) _ _) _ _) _ _) _ _ = Y3 at H3 ⊢
    clear x0 x1 x2 x3 x4 xf0 xf1 xf2 xf3 xf4 l0
    obtain ⟨⟨x0, x1, x2, x3, x4⟩, xf0, xf1, xf2, xf3, xf4⟩ := five H3.out.sx.st
    have l0 := (Array.getElem?_eq_some_iff.1 H3.out.sx.st).1
    obtain ⟨⟨y0, y1, y2, y3, y4⟩, yf0, yf1, yf2, yf3, yf4⟩ := five H3.out.sx.out
    obtain ⟨⟨z0, z1, z2, z3, z4, z5, z6, z7, z8⟩, zf⟩ := nine H3.out.ot
    obtain ⟨⟨t0, t1, t2, t3, t4, t5, t6, t7, t8⟩, tf⟩ := nine H3.out.tm
    have l1 := (Array.getElem?_eq_some_iff.1 H3.out.sx.out).1
    have l2 := (Array.getElem?_eq_some_iff.1 H3.out.ot).1
    have l3 := (Array.getElem?_eq_some_iff.1 H3.out.tm).1
    have lt9 := H3.out.lt
    have HG := Lib.hid H3.out.sx.gr
    have lt8 : ¬ tb = W.heap.size := by omega
    have lt7 : ¬ tb = W.heap.size + 1 := by omega
    have lt6 : ¬ tb = W.heap.size + 1 + 1 := by omega
    have lt5 : ¬ W.heap.size + 1 = tb := by omega
    have lt4 : ¬ W.heap.size + 1 + 1 = tb := by omega
    go_region
    all_goals
      go_wp2
      refine bodyPost_ret (v := .tuple #[sv (.slice ba m.length bc) j n1 (.slice na l.length nc) 73, (lf 1 (h : Int) 0 0 e0 0 0 0)]) (by simp [results, Tryz.results16, go_sem, y0, y1, y2, y3, y4, z0, z1, z2, z3, z4, z5, z6, z7, z8, l0, l1, l2]) rfl ?_
      exact ⟨⟨_, _, _, _, _, _, _, _, _, _, _, _, _, _, _, _, _, _, _, rfl⟩, ((HG.out.set5 (g := W.heap.size + 1) (Nat.le_succ _) _ _ _ _ _).set9 (g := W.heap.size + 1 + 1) (by omega) _ _ _ _ _ _ _ _ _).trans (Gr.drew _ _)⟩
  · have hpT : Int.tmod (u : Int) 2 = 1 := by rw [Int.tmod_eq_emod_of_nonneg (by omega)]; omega
    have hpE : (u : Int) % 2 = 1 := by omega
    clear hp hh hu0
    have s2 := H1.out.turn g2
    obtain ⟨⟨x0, x1, x2, x3, x4⟩, xf0, xf1, xf2, xf3, xf4⟩ := five s2.sx.st
    have l0 := (Array.getElem?_eq_some_iff.1 s2.sx.st).1
    obtain ⟨⟨t0, t1, t2, t3, t4, t5, t6, t7, t8⟩, tf⟩ := nine s2.tm
    have tfX := tf 1
    have l3 := (Array.getElem?_eq_some_iff.1 s2.tm).1
    have lt8 : ¬ tb = W.heap.size := by have := s2.lt; omega
    have lt5 : ¬ W.heap.size = tb := by have := s2.lt; omega
    have q1 : Sp W W.heap.size tb (.slice ba m.length bc) (.slice na l.length nc) j n1 0 #[.int .i64 1, .int .i64 (h : Int), .complex .f64 0 0, .string e0, .int .i64 0, .int .u32 0, .int .u64 0, nl, nl] _ := (s2.set (Nat.le_refl _) (.slice ba m.length bc) (.slice na l.length nc) j n1 0 ((j : Nat) : Int) (by simp) (n1 : Int) rfl).cell (Nat.le_refl _) 1 (.int .i64 (h : Int))
    obtain ⟨⟨a0, a1, a2, a3, a4, a5, a6, a7, a8⟩, af⟩ := nine q1.tm
    have af1 := af 1
    have q2 : Sp W W.heap.size tb (.slice ba m.length bc) (.slice na l.length nc) j n1 0 #[.int .i64 1, .int .i64 (-(h : Int) - 1), .complex .f64 0 0, .string e0, .int .i64 0, .int .u32 0, .int .u64 0, nl, nl] _ := q1.cell (Nat.le_refl _) 1 (.int .i64 (-(h : Int) - 1))
    have H2 := Lib.hid (q2.turn (Gr.alloc _ (.cells #[(.slice ba m.length bc), .int .i64 ((j : Nat) : Int), .int .i64 (n1 : Int), (.slice na l.length nc), .int .i64 0] 51) _))
    clear q1 q2 s2 g2 H1 af
    go_wp2_with fail
    generalize World.alloc _ _ = Y2 at H2 ⊢
    clear x0 x1 x2 x3 x4 xf0 xf1 xf2 xf3 xf4 l0
    clear t0 t1 t2 t3 t4 t5 t6 t7 t8 tf tfX l3 lt8 lt5 a0 a1 a2 a3 a4 a5 a6 a7 a8 af1
    have hR := Lib.hid (fun w => refRight_int (-(h : Int) - 1) (by omega) (by omega) w)
    have hvv : inR (-(h : Int) - 1) = false := by have hz := HI.out; unfold unf at hz; rw [if_pos hpE, hhI] at hz; exact hz
    rw [hvv] at hR
    clear hvv
    have Hd := Lib.hid (H2.out.turn (Gr.drew _ (fun _ => False)))
    have s14 : S14 W.heap.size tb (.slice ba m.length bc) (.int .i64 ((j : Nat) : Int)) (.int .i64 (n1 : Int)) (.slice na l.length nc) (.int .i64 0) (.int .i64 1) (.int .i64 (-(h : Int) - 1)) (.complex .f64 0 0) (.string e0) (.int .i64 0) (.int .u32 0) (.int .u64 0) nl nl Y2.drew := Hd.out.s14
    refine wp_region_L (L := 4) (T := S14 W.heap.size tb (.slice ba m.length bc) (.int .i64 ((j : Nat) : Int)) (.int .i64 (n1 : Int)) (.slice na l.length nc) (.int .i64 0) (.int .i64 1) (.int .i64 (-(h : Int) - 1)) (.complex .f64 0 0) (.string e0) (.int .i64 0) (.int .u32 0) (.int .u64 0) nl nl) (by kernel_rfl) ?_
    refine wpAnyL_at (i := 0) (v := sv (.slice ba m.length bc) j n1 (.slice na l.length nc) 0) (some 77) rfl rfl (by kernel_rfl) (by kernel_rfl) (by kernel_rfl) (by kernel_rfl) (by decide) (fun _ _ _ h => h) (Or.inl ⟨by rfl, ?_⟩) s14 ?_
    · intro w hSw
      go_simp
    try simp only [Act.put, List.setIfInBounds_toArray, List.set_cons_zero, List.set_cons_succ]
    refine wpAnyL_at (i := 1) (v := (lf 1 (-(h : Int) - 1) 0 0 e0 0 0 0)) (some 78) rfl rfl (by kernel_rfl) (by kernel_rfl) (by kernel_rfl) (by kernel_rfl) (by decide) (fun _ _ _ h => h) (Or.inl ⟨by rfl, ?_⟩) s14 ?_
    · intro w hSw
      go_simp
    try simp only [Act.put, List.setIfInBounds_toArray, List.set_cons_zero, List.set_cons_succ]
    refine wpAnyL_one (i := 2) (by kernel_rfl) rfl (fun K hK => ?_)
    go_simp
    refine (hR.out _).mono ?_
    rintro e wr ⟨rfl, gr⟩
    have Hr := Lib.hid (Hd.out.turn gr)
    have s15 : S14 W.heap.size tb (.slice ba m.length bc) (.int .i64 ((j : Nat) : Int)) (.int .i64 (n1 : Int)) (.slice na l.length nc) (.int .i64 0) (.int .i64 1) (.int .i64 (-(h : Int) - 1)) (.complex .f64 0 0) (.string e0) (.int .i64 0) (.int .u32 0) (.int .u64 0) nl nl wr := Hr.out.s14
    refine hK.out _ _ (fun _ => s15) ?_
    clear hK K Hd s14
    try simp only [Act.put, List.setIfInBounds_toArray, List.set_cons_zero, List.set_cons_succ]
    refine wpAnyL_one (i := 3) (by kernel_rfl) rfl (fun K hK => ?_)
    go_simp
    refine (must_no ba m.length bc na l.length nc j n1 _).mono ?_
    rintro e w3 ⟨rfl, g3⟩
    have s3 := Hr.out.turn g3
    obtain ⟨⟨x0, x1, x2, x3, x4⟩, xf0, xf1, xf2, xf3, xf4⟩ := five s3.sx.st
    have l0 := (Array.getElem?_eq_some_iff.1 s3.sx.st).1
    have s16 : S14 W.heap.size tb (.slice ba m.length bc) (.int .i64 ((j : Nat) : Int)) (.int .i64 (n1 : Int)) (.slice na l.length nc) (.int .i64 0) (.int .i64 1) (.int .i64 (-(h : Int) - 1)) (.complex .f64 0 0) (.string e0) (.int .i64 0) (.int .u32 0) (.int .u64 0) nl nl w3 := s3.s14
    have H3 := Lib.hid (s3.set (Nat.le_refl _) (.slice ba m.length bc) (.slice na l.length nc) j n1 73 ((j : Nat) : Int) (by simp) (n1 : Int) rfl)
    refine hK.out _ _ (fun _ => s16) ?_
    clear hK K s3 Hr s15
    try simp only [Act.put, List.setIfInBounds_toArray, List.set_cons_zero, List.set_cons_succ]
    refine wpAnyL_one (i := 4) (by kernel_rfl) rfl (fun K hK => ?_)
    go_simp
    refine hK.out _ _ (fun h => absurd rfl h) ?_
    clear hK K s16
    try simp only [Act.put, List.setIfInBounds_toArray, List.set_cons_zero, List.set_cons_succ]
    refine wpAnyL_done (by kernel_rfl) ?_ _
    refine NoPanic.normal ?_
    go_wp2_with fail
    generalize World.setCell (World.setCell (World.setCell (World.setCell (World.setCell w3 _ _) _ _) _ _) _ _) _ _ = Y3 at H3 ⊢
    clear x0 x1 x2 x3 x4 xf0 xf1 xf2 xf3 xf4 l0
    obtain ⟨⟨x0, x1, x2, x3, x4⟩, xf0, xf1, xf2, xf3, xf4⟩ := five H3.out.sx.st
    have l0 := (Array.getElem?_eq_some_iff.1 H3.out.sx.st).1
    obtain ⟨⟨y0, y1, y2, y3, y4⟩, yf0, yf1, yf2, yf3, yf4⟩ := five H3.out.sx.out
    obtain ⟨⟨z0, z1, z2, z3, z4, z5, z6, z7, z8⟩, zf⟩ := nine H3.out.ot
    obtain ⟨⟨t0, t1, t2, t3, t4, t5, t6, t7, t8⟩, tf⟩ := nine H3.out.tm
    have l1 := (Array.getElem?_eq_some_iff.1 H3.out.sx.out).1
    have l2 := (Array.getElem?_eq_some_iff.1 H3.out.ot).1
    have l3 := (Array.getElem?_eq_some_iff.1 H3.out.tm).1
    have lt9 := H3.out.lt
    have HG := Lib.hid H3.out.sx.gr
    have lt8 : ¬ tb = W.heap.size := by omega
    have lt7 : ¬ tb = W.heap.size + 1 := by omega
    have lt6 : ¬ tb = W.heap.size + 1 + 1 := by omega
    have lt5 : ¬ W.heap.size + 1 = tb := by omega
    have lt4 : ¬ W.heap.size + 1 + 1 = tb := by omega
    go_region
    all_goals
      go_wp2
      refine bodyPost_ret (v := .tuple #[sv (.slice ba m.length bc) j n1 (.slice na l.length nc) 73, (lf 1 (-(h : Int) - 1) 0 0 e0 0 0 0)]) (by simp [results, Tryz.results16, go_sem, y0, y1, y2, y3, y4, z0, z1, z2, z3, z4, z5, z6, z7, z8, l0, l1, l2]) rfl ?_
      exact ⟨⟨_, _, _, _, _, _, _, _, _, _, _, _, _, _, _, _, _, _, _, rfl⟩, ((HG.out.set5 (g := W.heap.size + 1) (Nat.le_succ _) _ _ _ _ _).set9 (g := W.heap.size + 1 + 1) (by omega) _ _ _ _ _ _ _ _ _).trans (Gr.drew _ _)⟩
set_option maxRecDepth 20000 in
set_option maxHeartbeats 800000 in
theorem part_1o (ba : Option Addr) (bc : Nat) (na : Option Addr) (nc : Nat) (m : List Int) (l : List ByteArray) (i n : Nat) (d : Int) (hi : i ≤ m.length) (hn : n ≤ 4096) (W : World) (hd : d ≤ 24) (x : Int) (hb : n < 4096) (hmx : m[i]? = some x) (hq : Sq Z W (.slice ba m.length bc) m) (hx3 : x = 1) (u : Nat) (r : List Int) (hr : nmb 10 0 0 (m.drop (i + 1)) = .ok (u, r)) (hI : inR (unf (u : Int)) = true) (hs : Snap W (.slice na l.length nc) l) (hl : l.length ≤ n) : Calls Tryz.prog 16 #[sv (.slice ba m.length bc) i n (.slice na l.length nc) 0, .int .i64 d] W fun e w' => (EndP ba bc m W e w' (.ok (.mk { k := 1, n := unf (u : Int) } [] [], r, n + 1, l))) ∧ Gr (fun _ => False) W w' := by
  have hx := Lib.hid (Sq0.new W (.slice ba m.length bc) (.slice na l.length nc) i n 0)
  have hnI : (n : Int) ≤ 4096 := by omega
  have hn0 : (0 : Int) ≤ (n : Int) := by omega
  obtain ⟨n1, hn1⟩ : ∃ n1, n + 1 = n1 := ⟨_, rfl⟩
  have hn1I : (n : Int) + 1 = (n1 : Int) := by omega
  have hn1b : (n1 : Int) ≤ 5000 := by omega
  have hn1c : (0 : Int) ≤ (n1 : Int) := by omega
  have Hn1 := Lib.hid hn1
  have Hn := Lib.hid hn
  clear hn1 hn
  have hdI : decide ((24 : Int) < d) = false := by simp; omega
  clear hd
  have hbI : decide ((4096 : Int) < (n1 : Int)) = false := by simp; omega
  have h1 := Lib.hid (fun w g => rone_ok ba bc na l.length nc i n1 m x hmx w (hq.gr (g : Gr (fun _ => False) W w) (fun _ _ e => e)))
  have hxb := hq.byte x (List.mem_of_getElem? hmx)
  have hx0 : (0 : Int) ≤ x := hxb.1
  have hx1 : x < 256 := hxb.2
  have h31 := Lib.hid (fun w (g : Gr (fun _ => False) W w) => wide_e ba bc na l.length nc m (i + 1) n1 (by have := (List.getElem?_eq_some_iff.1 hmx).1; omega) w (hq.gr g (fun _ _ e => e)))
  rw [hr] at h31
  have HI := Lib.hid hI
  have Hs := Lib.hid hs
  have Hn4 : Hid (n + 1 ≤ 4096) := Lib.hid hb
  have Hl4 : Hid (l.length ≤ n + 1) := Lib.hid (by omega)
  clear hb hmx hq hxb hr hx0 hx1 hI hs hl
  subst hx3
  go_enter Tryz.func16, Tryz.ntmps16
  go_wp2_with fail
  generalize hW1 : World.alloc (World.alloc (World.alloc W _) _) _ = W1
  have H0 : Hid (Sq0 W W.heap.size (.slice ba m.length bc) (.slice na l.length nc) i n1 0 W1) := Lib.hid (hW1 ▸ Sq0.new W (.slice ba m.length bc) (.slice na l.length nc) i n1 0)
  clear hW1 hx
  refine (h1.out _ H0.out.sx.gr).mono ?_
  rintro e w1 ⟨rfl, g1⟩
  have s1 := H0.out.turn g1
  obtain ⟨⟨x0, x1, x2, x3, x4⟩, xf0, xf1, xf2, xf3, xf4⟩ := five s1.sx.st
  have l0 := (Array.getElem?_eq_some_iff.1 s1.sx.st).1
  have H1 := Lib.hid ((s1.set (Nat.le_refl _) (.slice ba m.length bc) (.slice na l.length nc) (i + 1) n1 0 ((i : Int) + 1) (by simp) (n1 : Int) rfl).term #[.int .i64 1, .int .i64 0, .complex .f64 0 0, .string e0, .int .i64 0, .int .u32 0, .int .u64 0, nl, nl] w1.heap.size (by simp))
  clear s1 g1 H0
  go_wp2_with fail
  generalize World.alloc _ _ = Y1 at H1 ⊢
  generalize w1.heap.size = tb at H1 ⊢
  clear x0 x1 x2 x3 x4 xf0 xf1 xf2 xf3 xf4 l0
  refine (h31.out _ H1.out.sx.gr).mono ?_
  rintro e w2 ⟨⟨j, hj, hjr, hu, rfl⟩, g2⟩
  have Hj := Lib.hid hj
  have Hjr := Lib.hid hjr
  have huI : (u : Int) < 18446744073709551616 := by omega
  have hu0 : (0 : Int) ≤ (u : Int) := by omega
  clear hj hjr
  obtain ⟨h, hh⟩ : ∃ h, u / 2 = h := ⟨_, rfl⟩
  have hhI : (u : Int) / 2 = (h : Int) := by omega
  have hhT : Int.tdiv (u : Int) 2 = (h : Int) := by rw [Int.tdiv_eq_ediv_of_nonneg (by omega)]; exact hhI
  have hhb : (h : Int) ≤ 9223372036854775807 := by omega
  have hh0 : (0 : Int) ≤ (h : Int) := by omega
  clear hu
  rcases Nat.mod_two_eq_zero_or_one u with hp | hp
  · have hpT : Int.tmod (u : Int) 2 = 0 := by rw [Int.tmod_eq_emod_of_nonneg (by omega)]; omega
    have hpE : (u : Int) % 2 = 0 := by omega
    clear hp hh hu0
    have s2 := H1.out.turn g2
    obtain ⟨⟨x0, x1, x2, x3, x4⟩, xf0, xf1, xf2, xf3, xf4⟩ := five s2.sx.st
    have l0 := (Array.getElem?_eq_some_iff.1 s2.sx.st).1
    obtain ⟨⟨t0, t1, t2, t3, t4, t5, t6, t7, t8⟩, tf⟩ := nine s2.tm
    have tfX := tf 1
    have l3 := (Array.getElem?_eq_some_iff.1 s2.tm).1
    have lt8 : ¬ tb = W.heap.size := by have := s2.lt; omega
    have lt5 : ¬ W.heap.size = tb := by have := s2.lt; omega
    have q1 : Sp W W.heap.size tb (.slice ba m.length bc) (.slice na l.length nc) j n1 0 #[.int .i64 1, .int .i64 (h : Int), .complex .f64 0 0, .string e0, .int .i64 0, .int .u32 0, .int .u64 0, nl, nl] _ := (s2.set (Nat.le_refl _) (.slice ba m.length bc) (.slice na l.length nc) j n1 0 ((j : Nat) : Int) (by simp) (n1 : Int) rfl).cell (Nat.le_refl _) 1 (.int .i64 (h : Int))
    have H2 := Lib.hid (q1.turn (Gr.alloc _ (.cells #[(.slice ba m.length bc), .int .i64 ((j : Nat) : Int), .int .i64 (n1 : Int), (.slice na l.length nc), .int .i64 0] 51) _))
    clear q1 s2 g2 H1
    go_wp2_with fail
    generalize World.alloc _ _ = Y2 at H2 ⊢
    clear x0 x1 x2 x3 x4 xf0 xf1 xf2 xf3 xf4 l0
    clear t0 t1 t2 t3 t4 t5 t6 t7 t8 tf tfX l3 lt8 lt5
    have hR := Lib.hid (fun w => refRight_int (h : Int) (by omega) (by omega) w)
    have hvv : inR (h : Int) = true := by have hz := HI.out; unfold unf at hz; rw [if_neg (by omega), hhI] at hz; exact hz
    rw [hvv] at hR
    clear hvv
    have Hd := Lib.hid (H2.out.turn (Gr.drew _ (fun _ => False)))
    have s14 : S14 W.heap.size tb (.slice ba m.length bc) (.int .i64 ((j : Nat) : Int)) (.int .i64 (n1 : Int)) (.slice na l.length nc) (.int .i64 0) (.int .i64 1) (.int .i64 (h : Int)) (.complex .f64 0 0) (.string e0) (.int .i64 0) (.int .u32 0) (.int .u64 0) nl nl Y2.drew := Hd.out.s14
    refine wp_region_L (L := 4) (T := S14 W.heap.size tb (.slice ba m.length bc) (.int .i64 ((j : Nat) : Int)) (.int .i64 (n1 : Int)) (.slice na l.length nc) (.int .i64 0) (.int .i64 1) (.int .i64 (h : Int)) (.complex .f64 0 0) (.string e0) (.int .i64 0) (.int .u32 0) (.int .u64 0) nl nl) (by kernel_rfl) ?_
    refine wpAnyL_at (i := 0) (v := sv (.slice ba m.length bc) j n1 (.slice na l.length nc) 0) (some 77) rfl rfl (by kernel_rfl) (by kernel_rfl) (by kernel_rfl) (by kernel_rfl) (by decide) (fun _ _ _ h => h) (Or.inl ⟨by rfl, ?_⟩) s14 ?_
    · intro w hSw
      go_simp
    try simp only [Act.put, List.setIfInBounds_toArray, List.set_cons_zero, List.set_cons_succ]
    refine wpAnyL_at (i := 1) (v := (lf 1 (h : Int) 0 0 e0 0 0 0)) (some 78) rfl rfl (by kernel_rfl) (by kernel_rfl) (by kernel_rfl) (by kernel_rfl) (by decide) (fun _ _ _ h => h) (Or.inl ⟨by rfl, ?_⟩) s14 ?_
    · intro w hSw
      go_simp
    try simp only [Act.put, List.setIfInBounds_toArray, List.set_cons_zero, List.set_cons_succ]
    refine wpAnyL_one (i := 2) (by kernel_rfl) rfl (fun K hK => ?_)
    go_simp
    refine (hR.out _).mono ?_
    rintro e wr ⟨rfl, gr⟩
    have Hr := Lib.hid (Hd.out.turn gr)
    have s15 : S14 W.heap.size tb (.slice ba m.length bc) (.int .i64 ((j : Nat) : Int)) (.int .i64 (n1 : Int)) (.slice na l.length nc) (.int .i64 0) (.int .i64 1) (.int .i64 (h : Int)) (.complex .f64 0 0) (.string e0) (.int .i64 0) (.int .u32 0) (.int .u64 0) nl nl wr := Hr.out.s14
    refine hK.out _ _ (fun _ => s15) ?_
    clear hK K Hd s14
    try simp only [Act.put, List.setIfInBounds_toArray, List.set_cons_zero, List.set_cons_succ]
    refine wpAnyL_one (i := 3) (by kernel_rfl) rfl (fun K hK => ?_)
    go_simp
    refine (must_yes ba m.length bc na l.length nc j n1 0 _).mono ?_
    rintro e w3 ⟨rfl, g3⟩
    have s3 := Hr.out.turn g3
    obtain ⟨⟨x0, x1, x2, x3, x4⟩, xf0, xf1, xf2, xf3, xf4⟩ := five s3.sx.st
    have l0 := (Array.getElem?_eq_some_iff.1 s3.sx.st).1
    have s16 : S14 W.heap.size tb (.slice ba m.length bc) (.int .i64 ((j : Nat) : Int)) (.int .i64 (n1 : Int)) (.slice na l.length nc) (.int .i64 0) (.int .i64 1) (.int .i64 (h : Int)) (.complex .f64 0 0) (.string e0) (.int .i64 0) (.int .u32 0) (.int .u64 0) nl nl w3 := s3.s14
    have H3 := Lib.hid (s3.set (Nat.le_refl _) (.slice ba m.length bc) (.slice na l.length nc) j n1 0 ((j : Nat) : Int) (by simp) (n1 : Int) rfl)
    refine hK.out _ _ (fun _ => s16) ?_
    clear hK K s3 Hr s15
    try simp only [Act.put, List.setIfInBounds_toArray, List.set_cons_zero, List.set_cons_succ]
    refine wpAnyL_one (i := 4) (by kernel_rfl) rfl (fun K hK => ?_)
    go_simp
    refine hK.out _ _ (fun h => absurd rfl h) ?_
    clear hK K s16
    try simp only [Act.put, List.setIfInBounds_toArray, List.set_cons_zero, List.set_cons_succ]
    refine wpAnyL_done (by kernel_rfl) ?_ _
    refine NoPanic.normal ?_
    go_wp2_with fail
    generalize World.setCell (World.setCell (World.setCell (World.setCell (World.setCell w3 _ _) _ _) _ _) _ _) _ _ = Y3 at H3 ⊢
    clear x0 x1 x2 x3 x4 xf0 xf1 xf2 xf3 xf4 l0
    obtain ⟨⟨x0, x1, x2, x3, x4⟩, xf0, xf1, xf2, xf3, xf4⟩ := five H3.out.sx.st
    have l0 := (Array.getElem?_eq_some_iff.1 H3.out.sx.st).1
    obtain ⟨⟨y0, y1, y2, y3, y4⟩, yf0, yf1, yf2, yf3, yf4⟩ := five H3.out.sx.out
    obtain ⟨⟨z0, z1, z2, z3, z4, z5, z6, z7, z8⟩, zf⟩ := nine H3.out.ot
    obtain ⟨⟨t0, t1, t2, t3, t4, t5, t6, t7, t8⟩, tf⟩ := nine H3.out.tm
    have l1 := (Array.getElem?_eq_some_iff.1 H3.out.sx.out).1
    have l2 := (Array.getElem?_eq_some_iff.1 H3.out.ot).1
    have l3 := (Array.getElem?_eq_some_iff.1 H3.out.tm).1
    have lt9 := H3.out.lt
    have HG := Lib.hid H3.out.sx.gr
    have lt8 : ¬ tb = W.heap.size := by omega
    have lt7 : ¬ tb = W.heap.size + 1 := by omega
    have lt6 : ¬ tb = W.heap.size + 1 + 1 := by omega
    have lt5 : ¬ W.heap.size + 1 = tb := by omega
    have lt4 : ¬ W.heap.size + 1 + 1 = tb := by omega
    go_region
    all_goals
      go_wp2
      refine bodyPost_ret (v := .tuple #[sv (.slice ba m.length bc) j n1 (.slice na l.length nc) 0, (lf 1 (h : Int) 0 0 e0 0 0 0)]) (by simp [results, Tryz.results16, go_sem, y0, y1, y2, y3, y4, z0, z1, z2, z3, z4, z5, z6, z7, z8, l0, l1, l2]) rfl ?_
      refine ⟨⟨j, _, _, _, Hj.out, Hjr.out, by rw [← Hn1.out], ⟨_, _, [], by first | rfl | (rw [unf, if_pos hpE, hhI]) | (rw [unf, if_neg (by omega), hhI]), .inl ⟨rfl, _, _, rfl⟩, .inl ⟨rfl, _, _, rfl⟩, rfl⟩, ?_, Hn4.out, Hl4.out⟩, ((HG.out.set5 (g := W.heap.size + 1) (Nat.le_succ _) _ _ _ _ _).set9 (g := W.heap.size + 1 + 1) (by omega) _ _ _ _ _ _ _ _ _).trans (Gr.drew _ _)⟩
      exact Hs.out.gr (((HG.out.set5 (g := W.heap.size + 1) (Nat.le_succ _) _ _ _ _ _).set9 (g := W.heap.size + 1 + 1) (by omega) _ _ _ _ _ _ _ _ _).trans (Gr.drew _ _)) (fun _ _ e => e)
  · have hpT : Int.tmod (u : Int) 2 = 1 := by rw [Int.tmod_eq_emod_of_nonneg (by omega)]; omega
    have hpE : (u : Int) % 2 = 1 := by omega
    clear hp hh hu0
    have s2 := H1.out.turn g2
    obtain ⟨⟨x0, x1, x2, x3, x4⟩, xf0, xf1, xf2, xf3, xf4⟩ := five s2.sx.st
    have l0 := (Array.getElem?_eq_some_iff.1 s2.sx.st).1
    obtain ⟨⟨t0, t1, t2, t3, t4, t5, t6, t7, t8⟩, tf⟩ := nine s2.tm
    have tfX := tf 1
    have l3 := (Array.getElem?_eq_some_iff.1 s2.tm).1
    have lt8 : ¬ tb = W.heap.size := by have := s2.lt; omega
    have lt5 : ¬ W.heap.size = tb := by have := s2.lt; omega
    have q1 : Sp W W.heap.size tb (.slice ba m.length bc) (.slice na l.length nc) j n1 0 #[.int .i64 1, .int .i64 (h : Int), .complex .f64 0 0, .string e0, .int .i64 0, .int .u32 0, .int .u64 0, nl, nl] _ := (s2.set (Nat.le_refl _) (.slice ba m.length bc) (.slice na l.length nc) j n1 0 ((j : Nat) : Int) (by simp) (n1 : Int) rfl).cell (Nat.le_refl _) 1 (.int .i64 (h : Int))
    obtain ⟨⟨a0, a1, a2, a3, a4, a5, a6, a7, a8⟩, af⟩ := nine q1.tm
    have af1 := af 1
    have q2 : Sp W W.heap.size tb (.slice ba m.length bc) (.slice na l.length nc) j n1 0 #[.int .i64 1, .int .i64 (-(h : Int) - 1), .complex .f64 0 0, .string e0, .int .i64 0, .int .u32 0, .int .u64 0, nl, nl] _ := q1.cell (Nat.le_refl _) 1 (.int .i64 (-(h : Int) - 1))
    have H2 := Lib.hid (q2.turn (Gr.alloc _ (.cells #[(.slice ba m.length bc), .int .i64 ((j : Nat) : Int), .int .i64 (n1 : Int), (.slice na l.length nc), .int .i64 0] 51) _))
    clear q1 q2 s2 g2 H1 af
    go_wp2_with fail
    generalize World.alloc _ _ = Y2 at H2 ⊢
    clear x0 x1 x2 x3 x4 xf0 xf1 xf2 xf3 xf4 l0
    clear t0 t1 t2 t3 t4 t5 t6 t7 t8 tf tfX l3 lt8 lt5 a0 a1 a2 a3 a4 a5 a6 a7 a8 af1
    have hR := Lib.hid (fun w => refRight_int (-(h : Int) - 1) (by omega) (by omega) w)
    have hvv : inR (-(h : Int) - 1) = true := by have hz := HI.out; unfold unf at hz; rw [if_pos hpE, hhI] at hz; exact hz
    rw [hvv] at hR
    clear hvv
    have Hd := Lib.hid (H2.out.turn (Gr.drew _ (fun _ => False)))
    have s14 : S14 W.heap.size tb (.slice ba m.length bc) (.int .i64 ((j : Nat) : Int)) (.int .i64 (n1 : Int)) (.slice na l.length nc) (.int .i64 0) (.int .i64 1) (.int .i64 (-(h : Int) - 1)) (.complex .f64 0 0) (.string e0) (.int .i64 0) (.int .u32 0) (.int .u64 0) nl nl Y2.drew := Hd.out.s14
    refine wp_region_L (L := 4) (T := S14 W.heap.size tb (.slice ba m.length bc) (.int .i64 ((j : Nat) : Int)) (.int .i64 (n1 : Int)) (.slice na l.length nc) (.int .i64 0) (.int .i64 1) (.int .i64 (-(h : Int) - 1)) (.complex .f64 0 0) (.string e0) (.int .i64 0) (.int .u32 0) (.int .u64 0) nl nl) (by kernel_rfl) ?_
    refine wpAnyL_at (i := 0) (v := sv (.slice ba m.length bc) j n1 (.slice na l.length nc) 0) (some 77) rfl rfl (by kernel_rfl) (by kernel_rfl) (by kernel_rfl) (by kernel_rfl) (by decide) (fun _ _ _ h => h) (Or.inl ⟨by rfl, ?_⟩) s14 ?_
    · intro w hSw
      go_simp
    try simp only [Act.put, List.setIfInBounds_toArray, List.set_cons_zero, List.set_cons_succ]
    refine wpAnyL_at (i := 1) (v := (lf 1 (-(h : Int) - 1) 0 0 e0 0 0 0)) (some 78) rfl rfl (by kernel_rfl) (by kernel_rfl) (by kernel_rfl) (by kernel_rfl) (by decide) (fun _ _ _ h => h) (Or.inl ⟨by rfl, ?_⟩) s14 ?_
    · intro w hSw
      go_simp
    try simp only [Act.put, List.setIfInBounds_toArray, List.set_cons_zero, List.set_cons_succ]
    refine wpAnyL_one (i := 2) (by kernel_rfl) rfl (fun K hK => ?_)
    go_simp
    refine (hR.out _).mono ?_
    rintro e wr ⟨rfl, gr⟩
    have Hr := Lib.hid (Hd.out.turn gr)
    have s15 : S14 W.heap.size tb (.slice ba m.length bc) (.int .i64 ((j : Nat) : Int)) (.int .i64 (n1 : Int)) (.slice na l.length nc) (.int .i64 0) (.int .i64 1) (.int .i64 (-(h : Int) - 1)) (.complex .f64 0 0) (.string e0) (.int .i64 0) (.int .u32 0) (.int .u64 0) nl nl wr := Hr.out.s14
    refine hK.out _ _ (fun _ => s15) ?_
    clear hK K Hd s14
    try simp only [Act.put, List.setIfInBounds_toArray, List.set_cons_zero, List.set_cons_succ]
    refine wpAnyL_one (i := 3) (by kernel_rfl) rfl (fun K hK => ?_)
    go_simp
    refine (must_yes ba m.length bc na l.length nc j n1 0 _).mono ?_
    rintro e w3 ⟨rfl, g3⟩
    have s3 := Hr.out.turn g3
    obtain ⟨⟨x0, x1, x2, x3, x4⟩, xf0, xf1, xf2, xf3, xf4⟩ := five s3.sx.st
    have l0 := (Array.getElem?_eq_some_iff.1 s3.sx.st).1
    have s16 : S14 W.heap.size tb (.slice ba m.length bc) (.int .i64 ((j : Nat) : Int)) (.int .i64 (n1 : Int)) (.slice na l.length nc) (.int .i64 0) (.int .i64 1) (.int .i64 (-(h : Int) - 1)) (.complex .f64 0 0) (.string e0) (.int .i64 0) (.int .u32 0) (.int .u64 0) nl nl w3 := s3.s14
    have H3 := Lib.hid (s3.set (Nat.le_refl _) (.slice ba m.length bc) (.slice na l.length nc) j n1 0 ((j : Nat) : Int) (by simp) (n1 : Int) rfl)
    refine hK.out _ _ (fun _ => s16) ?_
    clear hK K s3 Hr s15
    try simp only [Act.put, List.setIfInBounds_toArray, List.set_cons_zero, List.set_cons_succ]
    refine wpAnyL_one (i := 4) (by kernel_rfl) rfl (fun K hK => ?_)
    go_simp
    refine hK.out _ _ (fun h => absurd rfl h) ?_
    clear hK K s16
    try simp only [Act.put, List.setIfInBounds_toArray, List.set_cons_zero, List.set_cons_succ]
    refine wpAnyL_done (by kernel_rfl) ?_ _
    refine NoPanic.normal ?_
    go_wp2_with fail
    generalize World.setCell (World.setCell (World.setCell (World.setCell (World.setCell w3 _ _) _ _) _ _) _ _) _ _ = Y3 at H3 ⊢
    clear x0 x1 x2 x3 x4 xf0 xf1 xf2 xf3 xf4 l0
    obtain ⟨⟨x0, x1, x2, x3, x4⟩, xf0, xf1, xf2, xf3, xf4⟩ := five H3.out.sx.st
    have l0 := (Array.getElem?_eq_some_iff.1 H3.out.sx.st).1
    obtain ⟨⟨y0, y1, y2, y3, y4⟩, yf0, yf1, yf2, yf3, yf4⟩ := five H3.out.sx.out
    obtain ⟨⟨z0, z1, z2, z3, z4, z5, z6, z7, z8⟩, zf⟩ := nine H3.out.ot
    obtain ⟨⟨t0, t1, t2, t3, t4, t5, t6, t7, t8⟩, tf⟩ := nine H3.out.tm
    have l1 := (Array.getElem?_eq_some_iff.1 H3.out.sx.out).1
    have l2 := (Array.getElem?_eq_some_iff.1 H3.out.ot).1
    have l3 := (Array.getElem?_eq_some_iff.1 H3.out.tm).1
    have lt9 := H3.out.lt
    have HG := Lib.hid H3.out.sx.gr
    have lt8 : ¬ tb = W.heap.size := by omega
    have lt7 : ¬ tb = W.heap.size + 1 := by omega
    have lt6 : ¬ tb = W.heap.size + 1 + 1 := by omega
    have lt5 : ¬ W.heap.size + 1 = tb := by omega
    have lt4 : ¬ W.heap.size + 1 + 1 = tb := by omega
    go_region
    all_goals
      go_wp2
      refine bodyPost_ret (v := .tuple #[sv (.slice ba m.length bc) j n1 (.slice na l.length nc) 0, (lf 1 (-(h : Int) - 1) 0 0 e0 0 0 0)]) (by simp [results, Tryz.results16, go_sem, y0, y1, y2, y3, y4, z0, z1, z2, z3, z4, z5, z6, z7, z8, l0, l1, l2]) rfl ?_
      refine ⟨⟨j, _, _, _, Hj.out, Hjr.out, by rw [← Hn1.out], ⟨_, _, [], by first | rfl | (rw [unf, if_pos hpE, hhI]) | (rw [unf, if_neg (by omega), hhI]), .inl ⟨rfl, _, _, rfl⟩, .inl ⟨rfl, _, _, rfl⟩, rfl⟩, ?_, Hn4.out, Hl4.out⟩, ((HG.out.set5 (g := W.heap.size + 1) (Nat.le_succ _) _ _ _ _ _).set9 (g := W.heap.size + 1 + 1) (by omega) _ _ _ _ _ _ _ _ _).trans (Gr.drew _ _)⟩
      exact Hs.out.gr (((HG.out.set5 (g := W.heap.size + 1) (Nat.le_succ _) _ _ _ _ _).set9 (g := W.heap.size + 1 + 1) (by omega) _ _ _ _ _ _ _ _ _).trans (Gr.drew _ _)) (fun _ _ e => e)
end Go.Proofs.YtmohehfkbhllpaaGreat

namespace Go.Proofs.YtmohehfkbhllpaaGreat
open Go.RowKit Go.Maps
variable {S S' Z : Nat → Prop} {W W1 W' : World}
set_option maxRecDepth 20000 in
set_option maxHeartbeats 800000 in
theorem wide_old (ba : Option Addr) (bl bc : Nat) (na : Option Addr) (nn nc : Nat) (i n : Nat) (k : Int) (hk : (k == 0) = false) (W : World) : Calls Tryz.prog 31 #[sv (.slice ba bl bc) i n (.slice na nn nc) k] W fun e w' => e = .returned (.tuple #[sv (.slice ba bl bc) i n (.slice na nn nc) k, .int .u64 0]) ∧ Gr (fun _ => False) W w' := by
  have hx := Lib.hid (Sx.new W (.slice ba bl bc) (.slice na nn nc) i n k)
  go_enter Tryz.func31, Tryz.ntmps31
  go_wp2_with fail
  generalize hW1 : World.alloc (World.alloc W _) _ = W1
  have H1 : Hid (Sx W W.heap.size (.slice ba bl bc) (.slice na nn nc) i n k W1) := Lib.hid (hW1 ▸ hx.out)
  clear hW1 hx
  obtain ⟨⟨p0, p1, p2, p3, p4⟩, d0, d1, d2, d3, d4⟩ := five H1.out.st
  obtain ⟨⟨q0, q1, q2, q3, q4⟩, f0, f1, f2, f3, f4⟩ := five H1.out.out
  have hl := (Array.getElem?_eq_some_iff.1 H1.out.st).1
  have hlo := (Array.getElem?_eq_some_iff.1 H1.out.out).1
  have P5 := Lib.hid (H1.out.put (Nat.le_refl _) (.slice ba bl bc) (.slice na nn nc) i n k (i : Int) (by simp))
  go_loopw [4, 5] (fun u v wr => u = .int .u64 0 ∧ v = .int .i64 0 ∧ wr = W1) (fun _ _ _ => 0)
  case atStart => exact ⟨rfl, rfl, rfl⟩
  case round =>
    obtain ⟨rfl, rfl, rfl⟩ := hrel
    go_wp2_with fail
    generalize World.setCell (World.setCell (World.setCell (World.setCell (World.setCell _ _ _) _ _) _ _) _ _) _ _ = wa at P5 ⊢
    obtain ⟨E5, G5⟩ := P5.out
    obtain ⟨⟨r0, r1, r2, r3, r4⟩, -⟩ := five E5
    exact bodyPost_ret (v := .tuple #[sv (.slice ba bl bc) i n (.slice na nn nc) k, .int .u64 0]) (by simp [results, Tryz.results31, go_sem, r0, r1, r2, r3, r4]) rfl ⟨rfl, G5⟩
/-- A second state in a block of its own. -/
structure Si (W : World) (N tb yb : Nat) (bv nv : Value) (i n : Nat) (c : Int) (i' n' : Nat) (c' : Int) (T : Array Value) (X : World) : Prop where
  sp : Sp W N tb bv nv i n c T X
  ys : X.heap[yb]? = some (.cells #[bv, .int .i64 (i' : Int), .int .i64 (n' : Int), nv, .int .i64 c'] 51 (0, 0))
  lt : tb < yb
section
variable {N tb yb : Nat} {bv nv : Value} {i n i' n' : Nat} {c c' : Int} {T : Array Value} {X X' : World}
theorem Si.turn (h : Si W N tb yb bv nv i n c i' n' c' T X) (g : Gr (fun _ => False) X X') : Si W N tb yb bv nv i n c i' n' c' T X' := ⟨h.sp.turn g, g.keep h.ys (fun e => e), h.lt⟩
theorem Sp.second (h : Sp W N tb bv nv i n c T X) (i' n' : Nat) (c' iv : Int) (e : iv = (i' : Int)) (yb : Nat) (hy : X.heap.size = yb) : Si W N tb yb bv nv i n c i' n' c' T (X.alloc (.cells #[bv, .int .i64 iv, .int .i64 (n' : Int), nv, .int .i64 c'] 51)) := by
  subst hy
  subst e
  exact ⟨h.turn (Gr.alloc _ _ _), heap_alloc_new _ _, (Array.getElem?_eq_some_iff.1 h.tm).1⟩
theorem Si.sety (hN : W.heap.size ≤ N) (h : Si W N tb yb bv nv i n c i' n' c' T X) (j k : Nat) (d iv : Int) (e : iv = (j : Int)) :
    Si W N tb yb bv nv i n c j k d T (((((X.setCell ⟨yb, 0, none⟩ bv).setCell ⟨yb, 1, none⟩ (.int .i64 iv)).setCell ⟨yb, 2, none⟩ (.int .i64 (k : Int))).setCell ⟨yb, 3, none⟩ nv).setCell ⟨yb, 4, none⟩ (.int .i64 d)) := by
  subst e
  have h1 := h.lt
  have h2 := h.sp.lt
  have g := Gr.own5 X yb bv (.int .i64 (j : Int)) (.int .i64 (k : Int)) nv (.int .i64 d)
  exact ⟨⟨⟨g.keep h.sp.sx.st (by omega), g.keep h.sp.sx.out (by omega), h.sp.sx.gr.trans' g (fun i hi e => by omega)⟩, g.keep h.sp.ot (by omega), g.keep h.sp.tm (by omega), h2⟩, set5_same h.ys, h1⟩
end
end Go.Proofs.YtmohehfkbhllpaaGreat
