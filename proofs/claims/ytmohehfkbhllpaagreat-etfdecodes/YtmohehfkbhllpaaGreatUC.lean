/-
  The reference's reader: a number.
-/
import Derived.Test.YtmohehfkbhllpaaGreatUA
import Derived.Test.YtmohehfkbhllpaaGreatKA
set_option linter.unusedVariables false
set_option linter.unusedSimpArgs false
namespace Go.Proofs.YtmohehfkbhllpaaGreat
open Go.RowKit Go.Maps
variable {S S' Z : Nat → Prop} {W W1 W' : World}

set_option maxRecDepth 20000 in
set_option maxHeartbeats 400000 in
theorem must_old (ba : Option Addr) (bl bc : Nat) (na : Option Addr) (nn nc : Nat) (i n : Nat) (k : Int) (hk : (k == 0) = false) (b : Bool) (W : World) : Calls Tryz.prog 32 #[sv (.slice ba bl bc) i n (.slice na nn nc) k, .bool b] W fun e w' => e = .returned (sv (.slice ba bl bc) i n (.slice na nn nc) k) ∧ Gr (fun _ => False) W w' := by
  cases b with
  | true => exact must_yes ba bl bc na nn nc i n k W
  | false =>
    have hf := fail_old ba bl bc na nn nc i n k 73 hk
    have hx := Sx.new W (.slice ba bl bc) (.slice na nn nc) i n k
    clear hk
    go_enter Tryz.func32, Tryz.ntmps32
    go_wp2_with fail
    refine (hf _).mono ?_
    rintro e w1 ⟨rfl, g1⟩
    have h1 := hx.turn g1
    obtain ⟨⟨q0, q1, q2, q3, q4⟩, f0, f1, f2, f3, f4⟩ := five h1.out
    have hl := (Array.getElem?_eq_some_iff.1 h1.out).1
    have E5 := Lib.hid (set5_same (v0 := .slice ba bl bc) (v1 := .int .i64 (i : Int)) (v2 := .int .i64 (n : Int)) (v3 := .slice na nn nc) (v4 := .int .i64 k) h1.out)
    have G5 := Lib.hid (Gr.own5 w1 (W.heap.size + 1) (.slice ba bl bc) (.int .i64 (i : Int)) (.int .i64 (n : Int)) (.slice na nn nc) (.int .i64 k))
    have H1 := Lib.hid h1
    clear h1 hx
    go_wp2_with fail
    generalize World.setCell (World.setCell (World.setCell (World.setCell (World.setCell w1 _ _) _ _) _ _) _ _) _ _ = wa at E5 G5 ⊢
    obtain ⟨⟨r0, r1, r2, r3, r4⟩, -⟩ := five E5.out
    exact bodyPost_ret (v := sv (.slice ba bl bc) i n (.slice na nn nc) k) (by simp [results, Tryz.results32, go_sem, r0, r1, r2, r3, r4]) rfl ⟨rfl, H1.out.gr.trans' G5.out (fun i hi e => by omega)⟩
/-- How reading a number ends. -/
def EndU (ba : Option Addr) (bc : Nat) (na : Option Addr) (nn nc : Nat) (m : List Int) (n : Nat) (e : Ending) : Except Int (Nat × List Int) → Prop
  | .ok (u, r) => ∃ j, j ≤ m.length ∧ m.drop j = r ∧ u < 18446744073709551616 ∧ e = .returned (.tuple #[sv (.slice ba m.length bc) j n (.slice na nn nc) 0, .int .u64 (u : Int)])
  | .error c => ∃ (j : Nat) (u : Int), e = .returned (.tuple #[sv (.slice ba m.length bc) j n (.slice na nn nc) c, .int .u64 u])
theorem addv7 (a c k : Nat) (ha : a < 2 ^ (7 * k)) (hk : k < 10) (hc : c < 256) (h9 : k = 9 → c ≤ 1) :
    a + c % 128 * 2 ^ (7 * k) < 18446744073709551616 ∧ (k < 9 → a + c % 128 * 2 ^ (7 * k) < 2 ^ (7 * (k + 1))) := ⟨(orv7 a c k ha hk hc h9).2.1, (orv7 a c k ha hk hc h9).2.2⟩
theorem wv7 (a c k : Nat) (h : a + c % 128 * 2 ^ (7 * k) < 18446744073709551616) : IntKind.u64.wrap ((a : Int) + IntKind.u64.wrap ((c : Int) % 128 * 2 ^ (7 * k))) = ((a + c % 128 * 2 ^ (7 * k) : Nat) : Int) := by
  have e : (c : Int) % 128 * 2 ^ (7 * k) = ((c % 128 * 2 ^ (7 * k) : Nat) : Int) := by simp
  rw [e, IntKind.wrap_u64, IntKind.wrap_u64]
  generalize c % 128 * 2 ^ (7 * k) = X at h ⊢
  omega
set_option maxRecDepth 20000 in
set_option maxHeartbeats 9600000 in
theorem wide_c (ba : Option Addr) (bc : Nat) (na : Option Addr) (nn nc : Nat) (m : List Int) (i n : Nat) (hi : i ≤ m.length) (W : World) (hq : Sq Z W (.slice ba m.length bc) m) : Calls Tryz.prog 31 #[sv (.slice ba m.length bc) i n (.slice na nn nc) 0] W fun e w' => EndU ba bc na nn nc m n e (nmb 10 0 0 (m.drop i)) ∧ Gr (fun _ => False) W w' := by
  obtain ⟨r, hr⟩ : ∃ r, nmb 10 0 0 (m.drop i) = r := ⟨_, rfl⟩
  rw [hr]
  have Hr := Lib.hid hr
  clear hr
  have hx := Lib.hid (Sx.new W (.slice ba m.length bc) (.slice na nn nc) i n 0)
  have Hq := Lib.hid hq
  have hml : (m.length : Int) ≤ 9223372036854775807 := by obtain ⟨_, _, e, h1, h2, _⟩ := hq; cases e; omega
  have hml0 : (0 : Int) ≤ (m.length : Int) := by omega
  have hi' := Lib.hid hi
  have hby := Lib.hid hq.byte
  clear hq hi
  go_enter Tryz.func31, Tryz.ntmps31
  go_wp2_with fail
  generalize hW1 : World.alloc (World.alloc W _) _ = W1
  have hx1 : Hid (Sx W W.heap.size (.slice ba m.length bc) (.slice na nn nc) i n 0 W1) := Lib.hid (hW1 ▸ hx.out)
  clear hW1 hx
  go_loopw [4, 5] (fun u v wr => ∃ (k a j : Nat), k < 10 ∧ u = .int .u64 (a : Int) ∧ v = .int .i64 (k : Int) ∧ Hid (a < 2 ^ (7 * k)) ∧ Hid (r = nmb (10 - k) k a (m.drop j)) ∧ Hid (j ≤ m.length) ∧ Hid (Sx W W.heap.size (.slice ba m.length bc) (.slice na nn nc) j n 0 wr)) (fun _ v _ => 10 - (intOf v).toNat)
  case atStart => exact ⟨0, 0, i, by omega, rfl, rfl, Lib.hid (by show 0 < 2 ^ 0; decide), Lib.hid Hr.out.symm, hi', hx1⟩
  case round =>
    obtain ⟨k, a, j, hk, rfl, rfl, Ha, Hm, hj, hS⟩ := hrel
    obtain ⟨f, hf⟩ : ∃ f, 10 - k = f + 1 := ⟨9 - k, by omega⟩
    rw [hf] at Hm
    have hkI : (k : Int) < 10 := by omega
    have hk0 : (0 : Int) ≤ (k : Int) := by omega
    obtain ⟨⟨c0, c1, c2, c3, c4⟩, z0, z1, z2, z3, z4⟩ := five hS.out.st
    have hl0 := (Array.getElem?_eq_some_iff.1 hS.out.st).1
    rcases Nat.lt_or_ge j m.length with hjl | hjl
    · obtain ⟨x, hx⟩ : ∃ x, m[j]? = some x := ⟨_, List.getElem?_eq_getElem hjl⟩
      have hxb := hby.out x (List.mem_of_getElem? hx)
      obtain ⟨c, rfl⟩ := Int.eq_ofNat_of_zero_le hxb.1
      have hd : m.drop j = (c : Int) :: m.drop (j + 1) := by
        obtain ⟨h', e'⟩ := List.getElem?_eq_some_iff.1 hx
        rw [List.drop_eq_getElem_cons h', e']
      have hone := Lib.hid (fun w g => rone_ok ba bc na nn nc j n m (c : Int) hx w (Hq.out.gr (g : Gr (fun _ => False) W w) (fun _ _ e => e)))
      have hcI : (c : Int) < 256 := hxb.2
      have hc0 : (0 : Int) ≤ (c : Int) := hxb.1
      have ht : (c : Int).tmod 128 = ((c % 128 : Nat) : Int) := by rw [Int.tmod_eq_emod_of_nonneg (by omega)]; omega
      have hjI : (j : Int) < (m.length : Int) := by omega
      have hj1 := Lib.hid (show j + 1 ≤ m.length by omega)
      rw [hd] at Hm
      clear hx hd hxb hjl
      by_cases hbad : (k = 9 ∧ (1 : Int) < c) ∨ (0 < k ∧ (c : Int) = 0)
      · have e : r = .error 73 := by rw [Hm.out, nmb, if_pos hbad]
        subst e
        clear Hm
        have hfail := Lib.hid (fail_new ba m.length bc na nn nc (j + 1) n 73)
        have hmust := Lib.hid (must_no ba m.length bc na nn nc (j + 1) n)
        rcases hbad with ⟨hk9, hc1⟩ | ⟨hk0', hc0'⟩
        · have hk9b : ((k : Int) == 9) = true := by simp; omega
          clear hk9
          go_wp2_with fail
          refine (hone.out _ hS.out.gr).mono ?_
          rintro e w1 ⟨rfl, g1⟩
          have s1 := hS.out.turn g1
          obtain ⟨⟨p0, p1, p2, p3, p4⟩, d0, d1, d2, d3, d4⟩ := five s1.st
          have hl1 := (Array.getElem?_eq_some_iff.1 s1.st).1
          have hS2 := Lib.hid (fun o => (s1.set (Nat.le_refl _) (.slice ba m.length bc) (.slice na nn nc) (j + 1) n 0).turn (Gr.alloc _ o _))
          clear s1
          go_wp2_with fail
          refine (hfail.out _).mono ?_
          rintro e w2 ⟨rfl, g2⟩
          have s3 := (hS2.out _).turn g2
          obtain ⟨⟨q0, q1, q2, q3, q4⟩, f0, f1, f2, f3, f4⟩ := five s3.out
          have hl3 := (Array.getElem?_eq_some_iff.1 s3.out).1
          have E5 := Lib.hid (set5_same (v0 := (.slice ba m.length bc)) (v1 := .int .i64 ((j : Int) + 1)) (v2 := .int .i64 (n : Int)) (v3 := (.slice na nn nc)) (v4 := .int .i64 73) s3.out)
          have G5 := Lib.hid (Gr.own5 w2 (W.heap.size + 1) (.slice ba m.length bc) (.int .i64 ((j : Int) + 1)) (.int .i64 (n : Int)) (.slice na nn nc) (.int .i64 73))
          have H3 := Lib.hid s3
          clear s3
          go_wp2_with fail
          generalize World.setCell (World.setCell (World.setCell (World.setCell (World.setCell w2 _ _) _ _) _ _) _ _) _ _ = wa at E5 G5 ⊢
          obtain ⟨⟨r0, r1, r2, r3, r4⟩, -⟩ := five E5.out
          exact bodyPost_ret (v := .tuple #[sv (.slice ba m.length bc) (j + 1) n (.slice na nn nc) 73, .int .u64 0]) (by simp [results, Tryz.results31, go_sem, r0, r1, r2, r3, r4]) rfl ⟨⟨_, _, rfl⟩, H3.out.gr.trans' G5.out (fun i hi e => by omega)⟩
        · have hk0b : ((k : Int) == 0) = false := by simp; omega
          have hcb : decide ((0 : Int) < (c : Int)) = false := by simp; omega
          have hcb2 : decide (0 < c) = false := by simp; omega
          have hc1 : ¬ (1 : Int) < (c : Int) := by omega
          have hc128 : (c : Int) < 128 := by omega
          by_cases hk9 : k = 9
          · have hk9b : ((k : Int) == 9) = true := by simp; omega
            clear hk9 hk0' hc0'
            go_wp2_with fail
            refine (hone.out _ hS.out.gr).mono ?_
            rintro e w1 ⟨rfl, g1⟩
            have s1 := hS.out.turn g1
            obtain ⟨⟨p0, p1, p2, p3, p4⟩, d0, d1, d2, d3, d4⟩ := five s1.st
            have hl1 := (Array.getElem?_eq_some_iff.1 s1.st).1
            have hS2 := Lib.hid (fun o => (s1.set (Nat.le_refl _) (.slice ba m.length bc) (.slice na nn nc) (j + 1) n 0).turn (Gr.alloc _ o _))
            clear s1
            go_wp2_with fail
            refine (hmust.out _).mono ?_
            rintro e w2 ⟨rfl, g2⟩
            have s3 := (hS2.out _).turn g2
            obtain ⟨⟨q0, q1, q2, q3, q4⟩, f0, f1, f2, f3, f4⟩ := five s3.out
            have hl3 := (Array.getElem?_eq_some_iff.1 s3.out).1
            have E5 := Lib.hid (set5_same (v0 := (.slice ba m.length bc)) (v1 := .int .i64 ((j : Int) + 1)) (v2 := .int .i64 (n : Int)) (v3 := (.slice na nn nc)) (v4 := .int .i64 73) s3.out)
            have G5 := Lib.hid (Gr.own5 w2 (W.heap.size + 1) (.slice ba m.length bc) (.int .i64 ((j : Int) + 1)) (.int .i64 (n : Int)) (.slice na nn nc) (.int .i64 73))
            have H3 := Lib.hid s3
            clear s3
            go_wp2_with fail
            generalize World.setCell (World.setCell (World.setCell (World.setCell (World.setCell w2 _ _) _ _) _ _) _ _) _ _ = wa at E5 G5 ⊢
            obtain ⟨⟨r0, r1, r2, r3, r4⟩, -⟩ := five E5.out
            exact bodyPost_ret (v := .tuple #[sv (.slice ba m.length bc) (j + 1) n (.slice na nn nc) 73, .int .u64 (IntKind.u64.wrap ((a : Int) + IntKind.u64.wrap ((c : Int) % 128 * 2 ^ (7 * k))))]) (by simp [results, Tryz.results31, go_sem, r0, r1, r2, r3, r4]) rfl ⟨⟨_, _, rfl⟩, H3.out.gr.trans' G5.out (fun i hi e => by omega)⟩
          · have hk9b : ((k : Int) == 9) = false := by simp; omega
            clear hk9 hk0' hc0'
            go_wp2_with fail
            refine (hone.out _ hS.out.gr).mono ?_
            rintro e w1 ⟨rfl, g1⟩
            have s1 := hS.out.turn g1
            obtain ⟨⟨p0, p1, p2, p3, p4⟩, d0, d1, d2, d3, d4⟩ := five s1.st
            have hl1 := (Array.getElem?_eq_some_iff.1 s1.st).1
            have hS2 := Lib.hid (fun o => (s1.set (Nat.le_refl _) (.slice ba m.length bc) (.slice na nn nc) (j + 1) n 0).turn (Gr.alloc _ o _))
            clear s1
            go_wp2_with fail
            refine (hmust.out _).mono ?_
            rintro e w2 ⟨rfl, g2⟩
            have s3 := (hS2.out _).turn g2
            obtain ⟨⟨q0, q1, q2, q3, q4⟩, f0, f1, f2, f3, f4⟩ := five s3.out
            have hl3 := (Array.getElem?_eq_some_iff.1 s3.out).1
            have E5 := Lib.hid (set5_same (v0 := (.slice ba m.length bc)) (v1 := .int .i64 ((j : Int) + 1)) (v2 := .int .i64 (n : Int)) (v3 := (.slice na nn nc)) (v4 := .int .i64 73) s3.out)
            have G5 := Lib.hid (Gr.own5 w2 (W.heap.size + 1) (.slice ba m.length bc) (.int .i64 ((j : Int) + 1)) (.int .i64 (n : Int)) (.slice na nn nc) (.int .i64 73))
            have H3 := Lib.hid s3
            clear s3
            go_wp2_with fail
            generalize World.setCell (World.setCell (World.setCell (World.setCell (World.setCell w2 _ _) _ _) _ _) _ _) _ _ = wa at E5 G5 ⊢
            obtain ⟨⟨r0, r1, r2, r3, r4⟩, -⟩ := five E5.out
            exact bodyPost_ret (v := .tuple #[sv (.slice ba m.length bc) (j + 1) n (.slice na nn nc) 73, .int .u64 (IntKind.u64.wrap ((a : Int) + IntKind.u64.wrap ((c : Int) % 128 * 2 ^ (7 * k))))]) (by simp [results, Tryz.results31, go_sem, r0, r1, r2, r3, r4]) rfl ⟨⟨_, _, rfl⟩, H3.out.gr.trans' G5.out (fun i hi e => by omega)⟩
      · have hv := Lib.hid (addv7 a c k Ha.out hk (by omega) (fun e => by omega))
        by_cases h128 : (c : Int) < 128
        · have e : r = .ok (a + c % 128 * 2 ^ (7 * k), m.drop (j + 1)) := by rw [Hm.out, nmb, if_neg hbad, if_pos h128]; rfl
          subst e
          clear Hm
          have hmust := Lib.hid (must_yes ba m.length bc na nn nc (j + 1) n 0)
          by_cases hc00 : (0 : Int) < (c : Int)
          · have hcb : decide ((0 : Int) < (c : Int)) = true := by simp; omega
            have hcb2 : decide (0 < c) = true := by simp; omega
            by_cases hk9 : k = 9
            · have hk9b : ((k : Int) == 9) = true := by simp; omega
              have hc1 : ¬ (1 : Int) < (c : Int) := by omega
              clear hk9 hbad hc00
              go_wp2_with fail
              refine (hone.out _ hS.out.gr).mono ?_
              rintro e w1 ⟨rfl, g1⟩
              have s1 := hS.out.turn g1
              obtain ⟨⟨p0, p1, p2, p3, p4⟩, d0, d1, d2, d3, d4⟩ := five s1.st
              have hl1 := (Array.getElem?_eq_some_iff.1 s1.st).1
              have hS2 := Lib.hid (fun o => (s1.set (Nat.le_refl _) (.slice ba m.length bc) (.slice na nn nc) (j + 1) n 0).turn (Gr.alloc _ o _))
              clear s1
              go_wp2_with fail
              refine (hmust.out _).mono ?_
              rintro e w2 ⟨rfl, g2⟩
              have s3 := (hS2.out _).turn g2
              obtain ⟨⟨q0, q1, q2, q3, q4⟩, f0, f1, f2, f3, f4⟩ := five s3.out
              have hl3 := (Array.getElem?_eq_some_iff.1 s3.out).1
              have E5 := Lib.hid (set5_same (v0 := (.slice ba m.length bc)) (v1 := .int .i64 ((j : Int) + 1)) (v2 := .int .i64 (n : Int)) (v3 := (.slice na nn nc)) (v4 := .int .i64 0) s3.out)
              have G5 := Lib.hid (Gr.own5 w2 (W.heap.size + 1) (.slice ba m.length bc) (.int .i64 ((j : Int) + 1)) (.int .i64 (n : Int)) (.slice na nn nc) (.int .i64 0))
              have H3 := Lib.hid s3
              clear s3
              go_wp2_with fail
              generalize World.setCell (World.setCell (World.setCell (World.setCell (World.setCell w2 _ _) _ _) _ _) _ _) _ _ = wa at E5 G5 ⊢
              obtain ⟨⟨r0, r1, r2, r3, r4⟩, -⟩ := five E5.out
              exact bodyPost_ret (v := .tuple #[sv (.slice ba m.length bc) (j + 1) n (.slice na nn nc) 0, .int .u64 (IntKind.u64.wrap ((a : Int) + IntKind.u64.wrap ((c : Int) % 128 * 2 ^ (7 * k))))]) (by simp [results, Tryz.results31, go_sem, r0, r1, r2, r3, r4]) rfl ⟨⟨j + 1, hj1.out, rfl, hv.out.1, by rw [wv7 a c k hv.out.1]⟩, H3.out.gr.trans' G5.out (fun i hi e => by omega)⟩
            · have hk9b : ((k : Int) == 9) = false := by simp; omega
              clear hk9 hbad hc00
              go_wp2_with fail
              refine (hone.out _ hS.out.gr).mono ?_
              rintro e w1 ⟨rfl, g1⟩
              have s1 := hS.out.turn g1
              obtain ⟨⟨p0, p1, p2, p3, p4⟩, d0, d1, d2, d3, d4⟩ := five s1.st
              have hl1 := (Array.getElem?_eq_some_iff.1 s1.st).1
              have hS2 := Lib.hid (fun o => (s1.set (Nat.le_refl _) (.slice ba m.length bc) (.slice na nn nc) (j + 1) n 0).turn (Gr.alloc _ o _))
              clear s1
              go_wp2_with fail
              refine (hmust.out _).mono ?_
              rintro e w2 ⟨rfl, g2⟩
              have s3 := (hS2.out _).turn g2
              obtain ⟨⟨q0, q1, q2, q3, q4⟩, f0, f1, f2, f3, f4⟩ := five s3.out
              have hl3 := (Array.getElem?_eq_some_iff.1 s3.out).1
              have E5 := Lib.hid (set5_same (v0 := (.slice ba m.length bc)) (v1 := .int .i64 ((j : Int) + 1)) (v2 := .int .i64 (n : Int)) (v3 := (.slice na nn nc)) (v4 := .int .i64 0) s3.out)
              have G5 := Lib.hid (Gr.own5 w2 (W.heap.size + 1) (.slice ba m.length bc) (.int .i64 ((j : Int) + 1)) (.int .i64 (n : Int)) (.slice na nn nc) (.int .i64 0))
              have H3 := Lib.hid s3
              clear s3
              go_wp2_with fail
              generalize World.setCell (World.setCell (World.setCell (World.setCell (World.setCell w2 _ _) _ _) _ _) _ _) _ _ = wa at E5 G5 ⊢
              obtain ⟨⟨r0, r1, r2, r3, r4⟩, -⟩ := five E5.out
              exact bodyPost_ret (v := .tuple #[sv (.slice ba m.length bc) (j + 1) n (.slice na nn nc) 0, .int .u64 (IntKind.u64.wrap ((a : Int) + IntKind.u64.wrap ((c : Int) % 128 * 2 ^ (7 * k))))]) (by simp [results, Tryz.results31, go_sem, r0, r1, r2, r3, r4]) rfl ⟨⟨j + 1, hj1.out, rfl, hv.out.1, by rw [wv7 a c k hv.out.1]⟩, H3.out.gr.trans' G5.out (fun i hi e => by omega)⟩
          · have hcb : decide ((0 : Int) < (c : Int)) = false := by simp; omega
            have hcb2 : decide (0 < c) = false := by simp; omega
            have hk0b : ((k : Int) == 0) = true := by simp; omega
            have hk9b : ((k : Int) == 9) = false := by simp; omega
            clear hbad hc00
            go_wp2_with fail
            refine (hone.out _ hS.out.gr).mono ?_
            rintro e w1 ⟨rfl, g1⟩
            have s1 := hS.out.turn g1
            obtain ⟨⟨p0, p1, p2, p3, p4⟩, d0, d1, d2, d3, d4⟩ := five s1.st
            have hl1 := (Array.getElem?_eq_some_iff.1 s1.st).1
            have hS2 := Lib.hid (fun o => (s1.set (Nat.le_refl _) (.slice ba m.length bc) (.slice na nn nc) (j + 1) n 0).turn (Gr.alloc _ o _))
            clear s1
            go_wp2_with fail
            refine (hmust.out _).mono ?_
            rintro e w2 ⟨rfl, g2⟩
            have s3 := (hS2.out _).turn g2
            obtain ⟨⟨q0, q1, q2, q3, q4⟩, f0, f1, f2, f3, f4⟩ := five s3.out
            have hl3 := (Array.getElem?_eq_some_iff.1 s3.out).1
            have E5 := Lib.hid (set5_same (v0 := (.slice ba m.length bc)) (v1 := .int .i64 ((j : Int) + 1)) (v2 := .int .i64 (n : Int)) (v3 := (.slice na nn nc)) (v4 := .int .i64 0) s3.out)
            have G5 := Lib.hid (Gr.own5 w2 (W.heap.size + 1) (.slice ba m.length bc) (.int .i64 ((j : Int) + 1)) (.int .i64 (n : Int)) (.slice na nn nc) (.int .i64 0))
            have H3 := Lib.hid s3
            clear s3
            go_wp2_with fail
            generalize World.setCell (World.setCell (World.setCell (World.setCell (World.setCell w2 _ _) _ _) _ _) _ _) _ _ = wa at E5 G5 ⊢
            obtain ⟨⟨r0, r1, r2, r3, r4⟩, -⟩ := five E5.out
            exact bodyPost_ret (v := .tuple #[sv (.slice ba m.length bc) (j + 1) n (.slice na nn nc) 0, .int .u64 (IntKind.u64.wrap ((a : Int) + IntKind.u64.wrap ((c : Int) % 128 * 2 ^ (7 * k))))]) (by simp [results, Tryz.results31, go_sem, r0, r1, r2, r3, r4]) rfl ⟨⟨j + 1, hj1.out, rfl, hv.out.1, by rw [wv7 a c k hv.out.1]⟩, H3.out.gr.trans' G5.out (fun i hi e => by omega)⟩
        · have hk9 : ¬ k = 9 := by omega
          have h9 := Lib.hid (show k < 9 by omega)
          have hk9b : ((k : Int) == 9) = false := by simp; omega
          have e : r = nmb f (k + 1) (a + c % 128 * 2 ^ (7 * k)) (m.drop (j + 1)) := by rw [Hm.out, nmb, if_neg hbad, if_neg h128]; rfl
          have He := Lib.hid e
          clear e Hm hbad hk9
          go_wp2_with fail
          refine (hone.out _ hS.out.gr).mono ?_
          rintro e w1 ⟨rfl, g1⟩
          have s1 := hS.out.turn g1
          obtain ⟨⟨p0, p1, p2, p3, p4⟩, d0, d1, d2, d3, d4⟩ := five s1.st
          have hl1 := (Array.getElem?_eq_some_iff.1 s1.st).1
          have hS2 := Lib.hid (fun o => (s1.set (Nat.le_refl _) (.slice ba m.length bc) (.slice na nn nc) (j + 1) n 0).turn (Gr.alloc _ o _))
          clear s1
          have hf1 : f = 10 - (k + 1) := by omega
          go_wp2_with fail
          exact ⟨⟨k + 1, a + c % 128 * 2 ^ (7 * k), j + 1, by have := h9.out; omega, by rw [wv7 a c k hv.out.1], by go_num, Lib.hid (hv.out.2 (by have := h9.out; omega)), Lib.hid (by rw [← hf1]; exact He.out), hj1, Lib.hid (hS2.out _)⟩, by simp [intOf]; omega⟩
    · obtain rfl : j = m.length := by have := hj.out; omega
      have e : r = .error 72 := by rw [Hm.out, List.drop_length]; rfl
      subst e
      clear Hm
      have hone := Lib.hid (rone_no ba bc na nn nc n m.length)
      have hmust := Lib.hid (must_old ba m.length bc na nn nc m.length n 72 (by decide))
      by_cases hk00 : k = 0
      · subst hk00
        go_wp2_with fail
        refine (hone.out _).mono ?_
        rintro e w1 ⟨rfl, g1⟩
        have s1 := hS.out.turn g1
        obtain ⟨⟨p0, p1, p2, p3, p4⟩, d0, d1, d2, d3, d4⟩ := five s1.st
        have hl1 := (Array.getElem?_eq_some_iff.1 s1.st).1
        have hS2 := Lib.hid (fun o => (s1.set (Nat.le_refl _) (.slice ba m.length bc) (.slice na nn nc) m.length n 72).turn (Gr.alloc _ o _))
        clear s1
        go_wp2_with fail
        refine (hmust.out _ _).mono ?_
        rintro e w2 ⟨rfl, g2⟩
        have s3 := (hS2.out _).turn g2
        obtain ⟨⟨q0, q1, q2, q3, q4⟩, f0, f1, f2, f3, f4⟩ := five s3.out
        have hl3 := (Array.getElem?_eq_some_iff.1 s3.out).1
        have E5 := Lib.hid (set5_same (v0 := (.slice ba m.length bc)) (v1 := .int .i64 ((m.length : Nat) : Int)) (v2 := .int .i64 (n : Int)) (v3 := (.slice na nn nc)) (v4 := .int .i64 72) s3.out)
        have G5 := Lib.hid (Gr.own5 w2 (W.heap.size + 1) (.slice ba m.length bc) (.int .i64 ((m.length : Nat) : Int)) (.int .i64 (n : Int)) (.slice na nn nc) (.int .i64 72))
        have H3 := Lib.hid s3
        clear s3
        go_wp2_with fail
        generalize World.setCell (World.setCell (World.setCell (World.setCell (World.setCell w2 _ _) _ _) _ _) _ _) _ _ = wa at E5 G5 ⊢
        obtain ⟨⟨r0, r1, r2, r3, r4⟩, -⟩ := five E5.out
        exact bodyPost_ret (v := .tuple #[sv (.slice ba m.length bc) (m.length) n (.slice na nn nc) 72, .int .u64 (IntKind.u64.wrap (a : Int))]) (by simp [results, Tryz.results31, go_sem, r0, r1, r2, r3, r4]) rfl ⟨⟨_, _, rfl⟩, H3.out.gr.trans' G5.out (fun i hi e => by omega)⟩
      · have hk0b : ((k : Int) == 0) = false := by simp; omega
        by_cases hk9 : k = 9
        · subst hk9
          go_wp2_with fail
          refine (hone.out _).mono ?_
          rintro e w1 ⟨rfl, g1⟩
          have s1 := hS.out.turn g1
          obtain ⟨⟨p0, p1, p2, p3, p4⟩, d0, d1, d2, d3, d4⟩ := five s1.st
          have hl1 := (Array.getElem?_eq_some_iff.1 s1.st).1
          have hS2 := Lib.hid (fun o => (s1.set (Nat.le_refl _) (.slice ba m.length bc) (.slice na nn nc) m.length n 72).turn (Gr.alloc _ o _))
          clear s1
          go_wp2_with fail
          refine (hmust.out _ _).mono ?_
          rintro e w2 ⟨rfl, g2⟩
          have s3 := (hS2.out _).turn g2
          obtain ⟨⟨q0, q1, q2, q3, q4⟩, f0, f1, f2, f3, f4⟩ := five s3.out
          have hl3 := (Array.getElem?_eq_some_iff.1 s3.out).1
          have E5 := Lib.hid (set5_same (v0 := (.slice ba m.length bc)) (v1 := .int .i64 ((m.length : Nat) : Int)) (v2 := .int .i64 (n : Int)) (v3 := (.slice na nn nc)) (v4 := .int .i64 72) s3.out)
          have G5 := Lib.hid (Gr.own5 w2 (W.heap.size + 1) (.slice ba m.length bc) (.int .i64 ((m.length : Nat) : Int)) (.int .i64 (n : Int)) (.slice na nn nc) (.int .i64 72))
          have H3 := Lib.hid s3
          clear s3
          go_wp2_with fail
          generalize World.setCell (World.setCell (World.setCell (World.setCell (World.setCell w2 _ _) _ _) _ _) _ _) _ _ = wa at E5 G5 ⊢
          obtain ⟨⟨r0, r1, r2, r3, r4⟩, -⟩ := five E5.out
          exact bodyPost_ret (v := .tuple #[sv (.slice ba m.length bc) (m.length) n (.slice na nn nc) 72, .int .u64 (IntKind.u64.wrap (a : Int))]) (by simp [results, Tryz.results31, go_sem, r0, r1, r2, r3, r4]) rfl ⟨⟨_, _, rfl⟩, H3.out.gr.trans' G5.out (fun i hi e => by omega)⟩
        · have hk9b : ((k : Int) == 9) = false := by simp; omega
          clear hk9 hk00
          go_wp2_with fail
          refine (hone.out _).mono ?_
          rintro e w1 ⟨rfl, g1⟩
          have s1 := hS.out.turn g1
          obtain ⟨⟨p0, p1, p2, p3, p4⟩, d0, d1, d2, d3, d4⟩ := five s1.st
          have hl1 := (Array.getElem?_eq_some_iff.1 s1.st).1
          have hS2 := Lib.hid (fun o => (s1.set (Nat.le_refl _) (.slice ba m.length bc) (.slice na nn nc) m.length n 72).turn (Gr.alloc _ o _))
          clear s1
          go_wp2_with fail
          refine (hmust.out _ _).mono ?_
          rintro e w2 ⟨rfl, g2⟩
          have s3 := (hS2.out _).turn g2
          obtain ⟨⟨q0, q1, q2, q3, q4⟩, f0, f1, f2, f3, f4⟩ := five s3.out
          have hl3 := (Array.getElem?_eq_some_iff.1 s3.out).1
          have E5 := Lib.hid (set5_same (v0 := (.slice ba m.length bc)) (v1 := .int .i64 ((m.length : Nat) : Int)) (v2 := .int .i64 (n : Int)) (v3 := (.slice na nn nc)) (v4 := .int .i64 72) s3.out)
          have G5 := Lib.hid (Gr.own5 w2 (W.heap.size + 1) (.slice ba m.length bc) (.int .i64 ((m.length : Nat) : Int)) (.int .i64 (n : Int)) (.slice na nn nc) (.int .i64 72))
          have H3 := Lib.hid s3
          clear s3
          go_wp2_with fail
          generalize World.setCell (World.setCell (World.setCell (World.setCell (World.setCell w2 _ _) _ _) _ _) _ _) _ _ = wa at E5 G5 ⊢
          obtain ⟨⟨r0, r1, r2, r3, r4⟩, -⟩ := five E5.out
          exact bodyPost_ret (v := .tuple #[sv (.slice ba m.length bc) (m.length) n (.slice na nn nc) 72, .int .u64 (IntKind.u64.wrap (a : Int))]) (by simp [results, Tryz.results31, go_sem, r0, r1, r2, r3, r4]) rfl ⟨⟨_, _, rfl⟩, H3.out.gr.trans' G5.out (fun i hi e => by omega)⟩
end Go.Proofs.YtmohehfkbhllpaaGreat
