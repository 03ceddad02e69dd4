/-
  The reference's reader: so many bytes, a float.
  The reference: which numbers and ids are right.
  The reference: names and the list of them. (Out of another seat of ours.)
-/
import Derived.Test.YtmohehfkbhllpaaGreatUC
import Derived.Test.YtmohehfkbhllpaaGreatKD
import Derived.Test.YtmohehfkbhllpaaGreatKA
import Derived.Test.YtmohehfkbhllpaaGreatR
import Derived.Test.YtmohehfkbhllpaaGreatZ
import Derived.Test.YtmohehfkbhllpaaGreatNA
import Derived.Deep.AppendSrc
set_option linter.unusedVariables false
set_option linter.unusedSimpArgs false
namespace Go.Proofs.YtmohehfkbhllpaaGreat
open Go.RowKit Go.Maps
variable {S S' Z : Nat → Prop} {W W1 W' : World}

theorem Sx.turn' {N : Nat} {bv nv : Value} {i n : Nat} {c : Int} {X X' : World} (h : Sx W N bv nv i n c X) (g : Gr S X X') (hs : ∀ k, S k → N + 2 ≤ k) (hN : W.heap.size ≤ N) : Sx W N bv nv i n c X' :=
  ⟨g.keep h.st (fun e => by have := hs _ e; omega), g.keep h.out (fun e => by have := hs _ e; omega), h.gr.trans' g (fun i hi e => by have := hs _ e; omega)⟩
theorem Sx.setI {N : Nat} {bv nv : Value} {i n : Nat} {c : Int} {X : World} (hN : W.heap.size ≤ N) (h : Sx W N bv nv i n c X) (bv' nv' : Value) (i' n' : Nat) (c' iv : Int) (e : iv = (i' : Int)) :
    Sx W N bv' nv' i' n' c' (((((X.setCell ⟨N, 0, none⟩ bv').setCell ⟨N, 1, none⟩ (.int .i64 iv)).setCell ⟨N, 2, none⟩ (.int .i64 (n' : Int))).setCell ⟨N, 3, none⟩ nv').setCell ⟨N, 4, none⟩ (.int .i64 c')) := e ▸ h.set hN bv' nv' i' n' c'
theorem lit_at (X : World) (h : Nat) (x : Int) (hs : X.heap.size = h) : Sb (X.alloc (.cells #[.int .u8 x] 5)) (.slice (some ⟨h, 0, none⟩) 1 1) [x] := by
  subst hs
  exact (Ob.lit 0 X [x] (by simp) (Nat.zero_le _) #[.int .u8 x] rfl 1 rfl).sb
/-- How reading so many bytes ends. -/
def EndS (ba : Option Addr) (bc : Nat) (na : Option Addr) (nn nc : Nat) (m : List Int) (n i q : Nat) (B : Nat) (e : Ending) (w' : World) : Prop :=
  if i + q ≤ m.length then ∃ u, e = .returned (.tuple #[sv (.slice ba m.length bc) (i + q) n (.slice na nn nc) 0, u]) ∧ Ob B w' u ((m.drop i).take q)
  else ∃ (j : Nat) (u : Value) (l : List Int), e = .returned (.tuple #[sv (.slice ba m.length bc) j n (.slice na nn nc) 72, u]) ∧ Ob B w' u l
set_option maxRecDepth 20000 in
set_option maxHeartbeats 3200000 in
theorem some_c (ba : Option Addr) (bc : Nat) (na : Option Addr) (nn nc : Nat) (m : List Int) (i n q : Nat) (hi : i ≤ m.length) (hq0 : q ≤ 5000) (W : World) (hq : Sq Z W (.slice ba m.length bc) m) : Calls Tryz.prog 34 #[sv (.slice ba m.length bc) i n (.slice na nn nc) 0, .int .i64 (q : Int)] W fun e w' => EndS ba bc na nn nc m n i q (W.heap.size + 2) e w' ∧ Gr (fun _ => False) W w' := by
  have hx := Lib.hid (Sx.new W (.slice ba m.length bc) (.slice na nn nc) i n 0)
  have Hq := Lib.hid hq
  have hml : (m.length : Int) ≤ 9223372036854775807 := by obtain ⟨_, _, e, h1, h2, _⟩ := hq; cases e; omega
  have hml0 : (0 : Int) ≤ (m.length : Int) := by omega
  have hi' := Lib.hid hi
  have hqI : (q : Int) ≤ 5000 := by omega
  clear hq hi
  go_enter Tryz.func34, Tryz.ntmps34
  go_wp2_with fail
  generalize hW1 : World.alloc (World.alloc W _) _ = W1
  have hx1 : Hid (Sx W W.heap.size (.slice ba m.length bc) (.slice na nn nc) i n 0 W1) := Lib.hid (hW1 ▸ hx.out)
  clear hW1 hx
  go_loopw [6, 7] (fun u v wr => ∃ (k : Nat) (l : List Int), k ≤ q ∧ l.length ≤ 5000 ∧ v = .int .i64 (k : Int) ∧ Hid (Ob (W.heap.size + 2) wr u l) ∧
      ((∃ j, Hid (j = i + k ∧ j ≤ m.length ∧ l = (m.drop i).take k) ∧ Hid (Sx W W.heap.size (.slice ba m.length bc) (.slice na nn nc) j n 0 wr)) ∨ (Hid (m.length < i + q) ∧ Hid (Sx W W.heap.size (.slice ba m.length bc) (.slice na nn nc) m.length n 72 wr)))) (fun _ v _ => q - (intOf v).toNat)
  case atStart => exact ⟨0, [], by omega, by simp, rfl, Lib.hid (Ob.nil _ _), .inl ⟨i, Lib.hid ⟨rfl, hi'.out, by simp⟩, hx1⟩⟩
  case round =>
    obtain ⟨k, l, hkq, hll, rfl, hO, h⟩ := hrel
    have hk0 : (0 : Int) ≤ (k : Int) := by omega
    rcases h with ⟨j, hj, hS⟩ | ⟨hlt, hS⟩
    · obtain ⟨⟨c0, c1, c2, c3, c4⟩, z0, z1, z2, z3, z4⟩ := five hS.out.st
      have hl0 := (Array.getElem?_eq_some_iff.1 hS.out.st).1
      have hjm := hj.out.2.1
      have hjm0 : (0 : Int) ≤ (j : Int) := by omega
      by_cases hkl : k < q
      · have hkI : (k : Int) < (q : Int) := by omega
        have hlk := hj.out
        have hln : Hid (l.length = k) := Lib.hid (by have := hlk.2.2; rw [this]; simp; omega)
        have hll2 : l.length < 5000 := by rw [hln.out]; omega
        clear hlk
        rcases Nat.lt_or_ge j m.length with hjl | hjl
        · obtain ⟨x, hx⟩ : ∃ x, m[j]? = some x := ⟨_, List.getElem?_eq_getElem hjl⟩
          have hone := Lib.hid (fun w g => rone_ok ba bc na nn nc j n m x hx w (Hq.out.gr (g : Gr (fun _ => False) W w) (fun _ _ e => e)))
          have hl' : Hid (l ++ [x] = (m.drop i).take (k + 1)) := Lib.hid (by
            have hh := hj.out
            rw [hh.2.2, List.take_add_one]
            have : (m.drop i)[k]? = some x := by rw [List.getElem?_drop, ← hh.1, hx]
            rw [this]; rfl)
          have hjI : (j : Int) < (m.length : Int) := by omega
          have hj1 : Hid (j + 1 = i + (k + 1) ∧ j + 1 ≤ m.length) := Lib.hid (by have := hj.out.1; omega)
          clear hx hjl hkl hjm
          go_wp2_with fail
          refine (hone.out _ hS.out.gr).mono ?_
          rintro e w1 ⟨rfl, g1⟩
          have s1 := hS.out.turn g1
          obtain ⟨⟨p0, p1, p2, p3, p4⟩, d0, d1, d2, d3, d4⟩ := five s1.st
          have hl1 := (Array.getElem?_eq_some_iff.1 s1.st).1
          have hS2 := Lib.hid (fun o o' => ((s1.setI (Nat.le_refl _) (.slice ba m.length bc) (.slice na nn nc) (j + 1) n 0 ((j : Int) + 1) (by simp)).turn (Gr.alloc _ o _)).turn (Gr.alloc _ o' _))
          have hO2 := Lib.hid (fun o o' => (((hO.out.g0 g1).gr (Gr.own5 w1 W.heap.size (.slice ba m.length bc) (.int .i64 ((j : Int) + 1)) (.int .i64 (n : Int)) (.slice na nn nc) (.int .i64 0)) (fun k hk _ e => by omega)).g0 (Gr.alloc _ o _)).g0 (Gr.alloc _ o' _))
          clear s1
          go_wp2_with (first
            | (at_builtin; refine wpList_ap rfl _ _ rfl (W.heap.size + 2) u6 (.slice (some ⟨w1.heap.size + 1, 0, none⟩) 1 1) l [x] rfl rfl (hO2.out _ _) (lit_at _ _ x (by simp only [World.size_alloc, World.size_setCell])) (by simp; omega) (by simp only [World.size_alloc, World.size_setCell]; omega) ?_; intro v1 w2 o1 g2; have hS3 := Lib.hid ((hS2.out _ _).turn' g2.gr (fun k e => (ownsRow_lt hO.out.row k e).1) (Nat.le_refl _)); have O1 := Lib.hid o1; clear o1 g2 hS2 hO2))
          exact ⟨⟨k + 1, l ++ [x], by omega, by simp; omega, by go_num, O1, .inl ⟨j + 1, Lib.hid ⟨hj1.out.1, hj1.out.2, hl'.out⟩, hS3⟩⟩, by simp [intOf]; omega⟩
        · obtain rfl : j = m.length := by omega
          have hone := Lib.hid (rone_no ba bc na nn nc n m.length)
          have hlt : Hid (m.length < i + q) := Lib.hid (by have := hj.out.1; omega)
          clear hjl hkl hjm
          go_wp2_with fail
          refine (hone.out _).mono ?_
          rintro e w1 ⟨rfl, g1⟩
          have s1 := hS.out.turn g1
          obtain ⟨⟨p0, p1, p2, p3, p4⟩, d0, d1, d2, d3, d4⟩ := five s1.st
          have hl1 := (Array.getElem?_eq_some_iff.1 s1.st).1
          have hS2 := Lib.hid (fun o o' => ((s1.setI (Nat.le_refl _) (.slice ba m.length bc) (.slice na nn nc) m.length n 72 ((m.length : Nat) : Int) (by simp)).turn (Gr.alloc _ o _)).turn (Gr.alloc _ o' _))
          have hO2 := Lib.hid (fun o o' => (((hO.out.g0 g1).gr (Gr.own5 w1 W.heap.size (.slice ba m.length bc) (.int .i64 ((m.length : Nat) : Int)) (.int .i64 (n : Int)) (.slice na nn nc) (.int .i64 72)) (fun k hk _ e => by omega)).g0 (Gr.alloc _ o _)).g0 (Gr.alloc _ o' _))
          clear s1
          go_wp2_with (first
            | (at_builtin; refine wpList_ap rfl _ _ rfl (W.heap.size + 2) u6 (.slice (some ⟨w1.heap.size + 1, 0, none⟩) 1 1) l [0] rfl rfl (hO2.out _ _) (lit_at _ _ 0 (by simp only [World.size_alloc, World.size_setCell])) (by simp; omega) (by simp only [World.size_alloc, World.size_setCell]; omega) ?_; intro v1 w2 o1 g2; have hS3 := Lib.hid ((hS2.out _ _).turn' g2.gr (fun k e => (ownsRow_lt hO.out.row k e).1) (Nat.le_refl _)); have O1 := Lib.hid o1; clear o1 g2 hS2 hO2))
          exact ⟨⟨k + 1, l ++ [0], by omega, by simp; omega, by go_num, O1, .inr ⟨hlt, hS3⟩⟩, by simp [intOf]; omega⟩
      · have hkI : ¬ (k : Int) < (q : Int) := by omega
        have hf := Lib.hid (show i + q ≤ m.length ∧ j = i + q ∧ l = (m.drop i).take q by have := hj.out; have e : k = q := (by omega); rw [e] at this; exact ⟨by omega, this.1, this.2.2⟩)
        clear hkl hjm
        have s3 := hS.out
        obtain ⟨⟨q0, q1, q2, q3, q4⟩, f0, f1, f2, f3, f4⟩ := five s3.out
        have hl3 := (Array.getElem?_eq_some_iff.1 s3.out).1
        have E5 := Lib.hid (set5_same (v0 := (.slice ba m.length bc)) (v1 := .int .i64 ((j : Nat) : Int)) (v2 := .int .i64 (n : Int)) (v3 := (.slice na nn nc)) (v4 := .int .i64 0) s3.out)
        have G5 := Lib.hid (Gr.own5 wr (W.heap.size + 1) (.slice ba m.length bc) (.int .i64 ((j : Nat) : Int)) (.int .i64 (n : Int)) (.slice na nn nc) (.int .i64 0))
        have H3 := Lib.hid s3
        clear s3
        go_wp2_with fail
        have hOf := hO.out.gr G5.out (fun k hk _ e => by omega)
        generalize World.setCell (World.setCell (World.setCell (World.setCell (World.setCell wr _ _) _ _) _ _) _ _) _ _ = wa at E5 G5 hOf ⊢
        obtain ⟨⟨r0, r1, r2, r3, r4⟩, -⟩ := five E5.out
        exact bodyPost_ret (v := .tuple #[sv (.slice ba m.length bc) j n (.slice na nn nc) 0, u6]) (by simp [results, Tryz.results34, go_sem, r0, r1, r2, r3, r4]) rfl ⟨by unfold EndS; rw [if_pos hf.out.1]; exact ⟨u6, by rw [hf.out.2.1], hf.out.2.2 ▸ hOf⟩, H3.out.gr.trans' G5.out (fun i hi e => by omega)⟩
    · obtain ⟨⟨c0, c1, c2, c3, c4⟩, z0, z1, z2, z3, z4⟩ := five hS.out.st
      have hl0 := (Array.getElem?_eq_some_iff.1 hS.out.st).1
      by_cases hkI : (k : Int) < (q : Int)
      · skip
        have s3 := hS.out
        obtain ⟨⟨q0, q1, q2, q3, q4⟩, f0, f1, f2, f3, f4⟩ := five s3.out
        have hl3 := (Array.getElem?_eq_some_iff.1 s3.out).1
        have E5 := Lib.hid (set5_same (v0 := (.slice ba m.length bc)) (v1 := .int .i64 ((m.length : Nat) : Int)) (v2 := .int .i64 (n : Int)) (v3 := (.slice na nn nc)) (v4 := .int .i64 72) s3.out)
        have G5 := Lib.hid (Gr.own5 wr (W.heap.size + 1) (.slice ba m.length bc) (.int .i64 ((m.length : Nat) : Int)) (.int .i64 (n : Int)) (.slice na nn nc) (.int .i64 72))
        have H3 := Lib.hid s3
        clear s3
        go_wp2_with fail
        have hOf := hO.out.gr G5.out (fun k hk _ e => by omega)
        generalize World.setCell (World.setCell (World.setCell (World.setCell (World.setCell wr _ _) _ _) _ _) _ _) _ _ = wa at E5 G5 hOf ⊢
        obtain ⟨⟨r0, r1, r2, r3, r4⟩, -⟩ := five E5.out
        exact bodyPost_ret (v := .tuple #[sv (.slice ba m.length bc) m.length n (.slice na nn nc) 72, u6]) (by simp [results, Tryz.results34, go_sem, r0, r1, r2, r3, r4]) rfl ⟨by unfold EndS; rw [if_neg (by have := hlt.out; omega)]; exact ⟨_, u6, l, rfl, hOf⟩, H3.out.gr.trans' G5.out (fun i hi e => by omega)⟩
      · skip
        have s3 := hS.out
        obtain ⟨⟨q0, q1, q2, q3, q4⟩, f0, f1, f2, f3, f4⟩ := five s3.out
        have hl3 := (Array.getElem?_eq_some_iff.1 s3.out).1
        have E5 := Lib.hid (set5_same (v0 := (.slice ba m.length bc)) (v1 := .int .i64 ((m.length : Nat) : Int)) (v2 := .int .i64 (n : Int)) (v3 := (.slice na nn nc)) (v4 := .int .i64 72) s3.out)
        have G5 := Lib.hid (Gr.own5 wr (W.heap.size + 1) (.slice ba m.length bc) (.int .i64 ((m.length : Nat) : Int)) (.int .i64 (n : Int)) (.slice na nn nc) (.int .i64 72))
        have H3 := Lib.hid s3
        clear s3
        go_wp2_with fail
        have hOf := hO.out.gr G5.out (fun k hk _ e => by omega)
        generalize World.setCell (World.setCell (World.setCell (World.setCell (World.setCell wr _ _) _ _) _ _) _ _) _ _ = wa at E5 G5 hOf ⊢
        obtain ⟨⟨r0, r1, r2, r3, r4⟩, -⟩ := five E5.out
        exact bodyPost_ret (v := .tuple #[sv (.slice ba m.length bc) m.length n (.slice na nn nc) 72, u6]) (by simp [results, Tryz.results34, go_sem, r0, r1, r2, r3, r4]) rfl ⟨by unfold EndS; rw [if_neg (by have := hlt.out; omega)]; exact ⟨_, u6, l, rfl, hOf⟩, H3.out.gr.trans' G5.out (fun i hi e => by omega)⟩
set_option maxRecDepth 20000 in
set_option maxHeartbeats 400000 in
theorem some_old (ba : Option Addr) (bl bc : Nat) (na : Option Addr) (nn nc : Nat) (i n : Nat) (k q : Int) (hk : (k == 0) = false) (W : World) : Calls Tryz.prog 34 #[sv (.slice ba bl bc) i n (.slice na nn nc) k, .int .i64 q] W fun e w' => e = .returned (.tuple #[sv (.slice ba bl bc) i n (.slice na nn nc) k, .slice none 0 0]) ∧ Gr (fun _ => False) W w' := by
  have hk2 : ¬ k = 0 := by simpa using hk
  have hx := Lib.hid (Sx.new W (.slice ba bl bc) (.slice na nn nc) i n k)
  go_enter Tryz.func34, Tryz.ntmps34
  go_wp2_with fail
  generalize hW1 : World.alloc (World.alloc W _) _ = W1
  have hx1 : Hid (Sx W W.heap.size (.slice ba bl bc) (.slice na nn nc) i n k W1) := Lib.hid (hW1 ▸ hx.out)
  clear hW1 hx
  go_loopw [6, 7] (fun u v wr => u = .slice none 0 0 ∧ v = .int .i64 0 ∧ Hid (Sx W W.heap.size (.slice ba bl bc) (.slice na nn nc) i n k wr)) (fun _ _ _ => 0)
  case atStart => exact ⟨rfl, rfl, hx1⟩
  case round =>
    obtain ⟨rfl, rfl, hS⟩ := hrel
    obtain ⟨⟨c0, c1, c2, c3, c4⟩, z0, z1, z2, z3, z4⟩ := five hS.out.st
    have hl0 := (Array.getElem?_eq_some_iff.1 hS.out.st).1
    have s3 := hS.out
    obtain ⟨⟨q0, q1, q2, q3, q4⟩, f0, f1, f2, f3, f4⟩ := five s3.out
    have hl3 := (Array.getElem?_eq_some_iff.1 s3.out).1
    have E5 := Lib.hid (set5_same (v0 := .slice ba bl bc) (v1 := .int .i64 (i : Int)) (v2 := .int .i64 (n : Int)) (v3 := .slice na nn nc) (v4 := .int .i64 k) s3.out)
    have G5 := Lib.hid (Gr.own5 wr (W.heap.size + 1) (.slice ba bl bc) (.int .i64 (i : Int)) (.int .i64 (n : Int)) (.slice na nn nc) (.int .i64 k))
    have H3 := Lib.hid s3
    clear s3
    by_cases hq : 0 < q
    all_goals
      go_wp2_with fail
      generalize World.setCell (World.setCell (World.setCell (World.setCell (World.setCell wr _ _) _ _) _ _) _ _) _ _ = wa at E5 G5 ⊢
      obtain ⟨⟨r0, r1, r2, r3, r4⟩, -⟩ := five E5.out
      exact bodyPost_ret (v := .tuple #[sv (.slice ba bl bc) i n (.slice na nn nc) k, .slice none 0 0]) (by simp [results, Tryz.results34, go_sem, r0, r1, r2, r3, r4]) rfl ⟨rfl, H3.out.gr.trans' G5.out (fun i hi e => by omega)⟩
set_option maxRecDepth 20000 in
set_option maxHeartbeats 800000 in
theorem float_c (W : World) (v : Value) (l : List Int) (hl : l.length = 8) (hq : Sq Z W v l) : Calls Tryz.prog 35 #[v] W fun e w' => e = .returned (.float .f64 (be l)) ∧ w' = W := by
  have hby := hq.byte
  obtain ⟨a, c, rfl, hc1, hc2, -, hcell⟩ := hq
  obtain ⟨g, o, rfl, hzg, hcl⟩ := hcell (fun e => by rw [e] at hl; simp at hl)
  rw [hl]
  clear hc1 hc2 hcell
  replace hcl := Lib.hid hcl
  go_enter Tryz.func35, Tryz.ntmps35
  go_wp2_with fail
  go_loopw [3, 4] (fun u v wr => ∃ k : Nat, k ≤ 8 ∧ u = .int .u64 ((be (l.take k) : Nat) : Int) ∧ v = .int .i64 (k : Int) ∧ wr = W) (fun _ v _ => 8 - (intOf v).toNat)
  case atStart => exact ⟨0, by omega, rfl, rfl, rfl⟩
  case round =>
    obtain ⟨k, hk, rfl, rfl, rfl⟩ := hrel
    have hkI : (k : Int) ≤ 8 := by omega
    by_cases hlt : k < 8
    · obtain ⟨x, hx⟩ : ∃ x, l[k]? = some x := ⟨_, List.getElem?_eq_getElem (by omega)⟩
      have hb := hby x (List.mem_of_getElem? hx)
      have hcx := hcl.out k x hx
      obtain ⟨x, rfl⟩ := Int.eq_ofNat_of_zero_le hb.1
      have hlt2 : (k : Int) < 8 := by omega
      have hsn : be (l.take (k + 1)) = be (l.take k) * 256 + x := by rw [List.take_add_one, hx]; exact be_snoc _ _
      have hbl : be (l.take k) < 72057594037927936 := by
        have := be_lt (l.take k) (fun x hx => hby x (List.mem_of_mem_take hx))
        have h2 : 256 ^ (l.take k).length ≤ 256 ^ 7 := Nat.pow_le_pow_right (by decide) (by rw [List.length_take]; omega)
        omega
      obtain ⟨A', hA'⟩ : ∃ A', be (l.take (k + 1)) = A' := ⟨_, rfl⟩
      obtain ⟨A, hAA⟩ : ∃ A, be (l.take k) = A := ⟨_, rfl⟩
      rw [hA', hAA] at hsn
      rw [hAA] at hbl
      rw [hAA]
      have hA : (A : Int) < 72057594037927936 := by omega
      have hA0 : (0 : Int) ≤ (A : Int) := by omega
      have hx0 : (0 : Int) ≤ (x : Int) := by omega
      have hx1 : (x : Int) < 256 := by omega
      have hfin : Hid ((A' : Int) = (A : Int) * 256 + (x : Int)) := Lib.hid (by omega)
      replace hA' := Lib.hid hA'
      clear hx hb hsn hAA hbl
      go_wp2_with fail
      exact ⟨⟨k + 1, by omega, by rw [hA'.out, hfin.out], by congr 1, trivial⟩, by simp [intOf]; omega⟩
    · obtain rfl : k = 8 := by omega
      rw [List.take_of_length_le (by omega)]
      go_wp2_with fail
      go_ret
      exact ⟨rfl, rfl⟩
end Go.Proofs.YtmohehfkbhllpaaGreat

namespace Go.Proofs.YtmohehfkbhllpaaGreat
open Go.RowKit Go.Maps
variable {S S' Z : Nat → Prop} {W W1 W' : World}

section
open Ieee
theorem cmp_not_lt {a b : Int} (h : b ≤ a) : compare a b ≠ .lt := by
  intro e
  simp only [compare, compareOfLessAndEq] at e
  split at e
  · omega
  · split at e <;> cases e
theorem fin_min (x : Nat) (h : x % 9223372036854775808 < 9218868437227405312) : ((ord x 18442240474082181119 == some .gt) || (ord x 18442240474082181119 == some .eq)) = true := by
  obtain ⟨n, m, i, hr, _, hm, hi1, hi2, _⟩ := read_fin x h
  have e : ord x 18442240474082181119 = some (compare (signed n m (i - min i 971).toNat) (signed true 9007199254740991 (971 - min i 971).toNat)) := by
    show (double.read x).order (double.read 18442240474082181119) = _
    rw [hr, read_min]; rfl
  have hb : min i 971 = i := by omega
  rw [hb] at e
  have h0 : (i - i).toNat = 0 := by omega
  rw [h0] at e
  have h1 := (signed_abs n m 0).1
  have h2 : signed true 9007199254740991 (971 - i).toNat = -((9007199254740991 <<< (971 - i).toNat : Nat) : Int) := rfl
  have h3 := shl_le (k := (971 - i).toNat) hm
  rw [Nat.shiftLeft_zero] at h1
  have h4 := cmp_not_lt (a := signed n m 0) (b := signed true 9007199254740991 (971 - i).toNat) (by rw [h2]; omega)
  rw [e]
  cases hc : compare (signed n m 0) (signed true 9007199254740991 (971 - i).toNat) with
  | gt => rfl
  | eq => rfl
  | lt => exact absurd hc h4
end
set_option maxRecDepth 20000 in
theorem refFinite_c (x : Nat) (w : World) : Calls Tryz.prog 56 #[.float .f64 x] w fun e w' => e = .returned (.bool (fin x)) ∧ w = w' := by
  by_cases h : x % 9223372036854775808 < 9218868437227405312
  · have h1 := fin_min x h
    have h2 := (fin_max x h).2
    rw [show fin x = true by simp [fin, h]]
    clear h
    go_enter Tryz.func56, Tryz.ntmps56
    go_wp2
    go_ret
    exact ⟨by simp [h1, h2], rfl⟩
  · rw [show fin x = false by simp [fin, h]]
    by_cases h3 : x % 9223372036854775808 = 9218868437227405312
    · obtain ⟨h1, h2⟩ := inf_max x h3
      cases hb : (x / 9223372036854775808 % 2 == 1) with
      | true =>
        rw [hb] at h1 h2
        simp only [if_true] at h1 h2
        clear h h3 hb
        go_enter Tryz.func56, Tryz.ntmps56
        go_wp2
        go_ret
        exact ⟨rfl, rfl⟩
      | false =>
        rw [hb] at h1 h2
        simp only [Bool.false_eq_true, if_false] at h1 h2
        clear h h3 hb
        go_enter Tryz.func56, Tryz.ntmps56
        go_wp2
        go_ret
        exact ⟨rfl, rfl⟩
    · have h1 := nan_any x 18442240474082181119 (by omega)
      clear h h3
      go_enter Tryz.func56, Tryz.ntmps56
      go_wp2
      go_ret
      exact ⟨rfl, rfl⟩
theorem q0 (w : World) : (binOp .quo 86 (.float .f64 4607182418800017408) (.float .f64 0)).run Tryz.prog w = .ok (.float .f64 9218868437227405312) w := by kernel_rfl
theorem qm (w : World) : (binOp .quo 86 (.float .f64 4607182418800017408) (.float .f64 9223372036854775808)).run Tryz.prog w = .ok (.float .f64 18442240474082181120) w := by kernel_rfl
theorem oi : FloatKind.f64.format.order 9218868437227405312 0 = some .gt := by decide
theorem om : FloatKind.f64.format.order 18442240474082181120 0 = some .lt := by decide
theorem o00 : FloatKind.f64.format.order 0 0 = some .eq := by decide
theorem om0 : FloatKind.f64.format.order 9223372036854775808 0 = some .eq := by decide
set_option maxRecDepth 20000 in
theorem refMinus_c (x : Nat) (hx : x < 18446744073709551616) (w : World) : Calls Tryz.prog 57 #[.float .f64 x] w fun e w' => e = .returned (.bool (decide (x = 9223372036854775808))) ∧ w = w' := by
  have a1 := q0
  have a2 := qm
  have a3 := oi
  have a4 := om
  have hz := zero_iff x
  by_cases h0 : x % 9223372036854775808 = 0
  · have h1 : x = 0 ∨ x = 9223372036854775808 := by omega
    clear hz h0 hx
    rcases h1 with rfl | rfl
    · have a5 := o00
      go_enter Tryz.func57, Tryz.ntmps57
      go_wp2
      go_ret
      exact ⟨rfl, rfl⟩
    · have a5 := om0
      go_enter Tryz.func57, Tryz.ntmps57
      go_wp2
      go_ret
      exact ⟨rfl, rfl⟩
  · simp only [h0, decide_false] at hz
    rw [show decide (x = 9223372036854775808) = false by simp; omega]
    clear h0 hx
    go_enter Tryz.func57, Tryz.ntmps57
    go_wp2
    go_ret
    exact ⟨rfl, rfl⟩

set_option maxRecDepth 200000 in
set_option maxHeartbeats 1600000 in
theorem bare_cx (x y : Nat) (W : World) : Calls Tryz.prog 54 #[lf 2 0 x y e0 0 0 0] W fun e w' => e = .returned (.bool true) ∧ Gr (fun _ => False) W w' := by
  go_enter Tryz.func54, Tryz.ntmps54
  go_wp2
  exact bodyPost_ret (v := .bool true) (by simp [results, Tryz.results54, go_sem]) rfl ⟨rfl, Gr.alloc _ _ _⟩

set_option maxRecDepth 200000 in
set_option maxHeartbeats 1600000 in
theorem refRight_cx (x y : Nat) (hx : x < 18446744073709551616) (hy : y < 18446744073709551616) (W : World) : Calls Tryz.prog 33 #[lf 2 0 x y e0 0 0 0] W fun e w' => e = .returned (.bool (rp x && rp y)) ∧ Gr (fun _ => False) W w' := by
  have f1 := fun W => refFinite_c x W
  have f2 := fun W => refFinite_c y W
  have m1 := fun W => refMinus_c x hx W
  have m2 := fun W => refMinus_c y hy W
  obtain ⟨p, hp⟩ : ∃ p, (rp x && rp y) = p := ⟨_, rfl⟩
  rw [hp]
  unfold rp at hp
  replace hp := Lib.hid hp
  go_enter Tryz.func33, Tryz.ntmps33
  go_wp2_with fail
  generalize hW1 : World.alloc W _ = W1
  have hg1 : Gr (fun _ => False) W W1 := hW1 ▸ Gr.alloc _ _ _
  have hx1 : W1.heap[W.heap.size]? = some (.cells #[.int .i64 2, .int .i64 0, .complex .f64 x y, .string e0, .int .i64 0, .int .u32 0, .int .u64 0, nl, nl] 31 (0, 0)) := by
    subst hW1; simp only [al, World.size_alloc]; repeat (first | rw [if_pos trivial] | rw [if_pos (by omega)] | rw [if_neg (by omega)])
  clear hW1
  refine (bare_cx x y _).mono ?_
  rintro e w2 ⟨rfl, hg2⟩
  obtain ⟨⟨z0, z1, z2, z3, z4, z5, z6, z7, z8⟩, zf⟩ := nine (hg2.keep hx1 (fun e => e))
  go_wp2_with fail
  refine (f1 _).mono ?_
  rintro e w3 ⟨rfl, rfl⟩
  cases q1 : fin x with
  | false =>
    have e : p = false := by rw [← hp.out, q1]; rfl
    subst e
    go_wp2_with fail
    exact bodyPost_ret (v := .bool false) (by simp [results, Tryz.results33, go_sem]) rfl ⟨rfl, hg1.trans hg2⟩
  | true =>
    go_wp2_with fail
    refine (f2 _).mono ?_
    rintro e w3 ⟨rfl, rfl⟩
    cases q2 : fin y with
    | false =>
      have e : p = false := by rw [← hp.out, q2]; simp
      subst e
      go_wp2_with fail
      exact bodyPost_ret (v := .bool false) (by simp [results, Tryz.results33, go_sem]) rfl ⟨rfl, hg1.trans hg2⟩
    | true =>
      go_wp2_with fail
      refine (m1 _).mono ?_
      rintro e w3 ⟨rfl, rfl⟩
      cases q3 : decide (x = 9223372036854775808) with
      | true =>
        have e : p = false := by rw [← hp.out, q3]; simp
        subst e
        go_wp2_with fail
        exact bodyPost_ret (v := .bool false) (by simp [results, Tryz.results33, go_sem]) rfl ⟨rfl, hg1.trans hg2⟩
      | false =>
        go_wp2_with fail
        refine (m2 _).mono ?_
        rintro e w3 ⟨rfl, rfl⟩
        have e : p = !decide (y = 9223372036854775808) := by rw [← hp.out, q1, q2, q3]; simp
        subst e
        go_wp2_with fail
        exact bodyPost_ret (v := .bool (!decide (y = 9223372036854775808))) (by simp [results, Tryz.results33, go_sem]) rfl ⟨rfl, hg1.trans hg2⟩

theorem td2 (n : Int) : n.tdiv 2 * 2 + n.tmod 2 = n ∧ (0 ≤ n → 0 ≤ n.tmod 2 ∧ n.tmod 2 < 2) ∧ (n < 0 → -2 < n.tmod 2 ∧ n.tmod 2 ≤ 0) := by
  rcases Int.le_total 0 n with h | h
  · have h1 := Int.tmod_eq_emod_of_nonneg (b := 2) h
    have h2 := Int.tdiv_eq_ediv_of_nonneg (b := 2) h
    omega
  · obtain ⟨m, rfl⟩ : ∃ m, n = -m := ⟨-n, by omega⟩
    have h1 := Int.tmod_eq_emod_of_nonneg (a := m) (b := 2) (by omega)
    have h2 := Int.tdiv_eq_ediv_of_nonneg (a := m) (b := 2) (by omega)
    rw [Int.neg_tdiv, Int.neg_tmod]
    omega
set_option maxRecDepth 20000 in
theorem refIn_c (n : Int) (hn1 : -9223372036854775808 ≤ n) (hn2 : n ≤ 9223372036854775807) (w : World) : Calls Tryz.prog 55 #[.int .i64 n] w fun e w' => e = .returned (.bool (inR n)) ∧ w = w' := by
  obtain ⟨d1, d2, d3⟩ := td2 n
  by_cases h1 : -4611686018427387904 ≤ n
  · by_cases h2 : n ≤ 4611686018427387903
    · rw [show inR n = true by simp [inR, h1, h2]]
      have a1 : (-2305843009213693952 : Int) ≤ n.tdiv 2 := by omega
      have a2 : n.tdiv 2 ≤ (2305843009213693951 : Int) := by omega
      by_cases h0 : 0 ≤ n
      · clear d1 d2 d3; go_enter Tryz.func55, Tryz.ntmps55
        go_wp2
        go_ret
        exact ⟨rfl, rfl⟩
      · by_cases h3 : n.tmod 2 = 0
        · have h3b : (n.tmod 2 == 0) = true := by simp [h3]
          clear h3
          clear d1 d2 d3; go_enter Tryz.func55, Tryz.ntmps55
          go_wp2
          go_ret
          exact ⟨rfl, rfl⟩
        · have h3b : (n.tmod 2 == 0) = false := by simp [h3]
          have a3 : (-2305843009213693952 : Int) < n.tdiv 2 := by omega
          clear h3
          clear d1 d2 d3; go_enter Tryz.func55, Tryz.ntmps55
          go_wp2
          go_ret
          exact ⟨rfl, rfl⟩
    · rw [show inR n = false by simp [inR, h2]]
      have a1 : (-2305843009213693952 : Int) ≤ n.tdiv 2 := by omega
      have a2 : ¬ n.tdiv 2 ≤ (2305843009213693951 : Int) := by omega
      clear d1 d2 d3; go_enter Tryz.func55, Tryz.ntmps55
      go_wp2
      go_ret
      exact ⟨rfl, rfl⟩
  · rw [show inR n = false by simp [inR, h1]]
    by_cases a1 : (-2305843009213693952 : Int) ≤ n.tdiv 2
    · have a2 : n.tdiv 2 ≤ (2305843009213693951 : Int) := by omega
      have h0 : ¬ 0 ≤ n := by omega
      have h3b : (n.tmod 2 == 0) = false := by simp; omega
      have a3 : ¬ (-2305843009213693952 : Int) < n.tdiv 2 := by omega
      clear d1 d2 d3; go_enter Tryz.func55, Tryz.ntmps55
      go_wp2
      go_ret
      exact ⟨rfl, rfl⟩
    · clear d1 d2 d3; go_enter Tryz.func55, Tryz.ntmps55
      go_wp2
      go_ret
      exact ⟨rfl, rfl⟩
set_option maxRecDepth 200000 in
set_option maxHeartbeats 1600000 in
theorem bare_int (n : Int) (W : World) : Calls Tryz.prog 54 #[lf 1 n 0 0 e0 0 0 0] W fun e w' => e = .returned (.bool true) ∧ Gr (fun _ => False) W w' := by
  go_enter Tryz.func54, Tryz.ntmps54
  go_wp2
  exact bodyPost_ret (v := .bool true) (by simp [results, Tryz.results54, go_sem]) rfl ⟨rfl, Gr.alloc _ _ _⟩
set_option maxRecDepth 200000 in
set_option maxHeartbeats 1600000 in
theorem refRight_int (n : Int) (hn1 : -9223372036854775808 ≤ n) (hn2 : n ≤ 9223372036854775807) (W : World) : Calls Tryz.prog 33 #[lf 1 n 0 0 e0 0 0 0] W fun e w' => e = .returned (.bool (inR n)) ∧ Gr (fun _ => False) W w' := by
  have f1 := fun W => refIn_c n hn1 hn2 W
  generalize inR n = p at f1 ⊢
  have a5 := o00
  go_enter Tryz.func33, Tryz.ntmps33
  go_wp2_with fail
  generalize hW1 : World.alloc W _ = W1
  have hg1 : Gr (fun _ => False) W W1 := hW1 ▸ Gr.alloc _ _ _
  have hx1 : W1.heap[W.heap.size]? = some (.cells #[.int .i64 1, .int .i64 n, .complex .f64 0 0, .string e0, .int .i64 0, .int .u32 0, .int .u64 0, nl, nl] 31 (0, 0)) := by
    subst hW1; simp only [al, World.size_alloc]; repeat (first | rw [if_pos trivial] | rw [if_pos (by omega)] | rw [if_neg (by omega)])
  clear hW1
  refine (bare_int n _).mono ?_
  rintro e w2 ⟨rfl, hg2⟩
  obtain ⟨⟨z0, z1, z2, z3, z4, z5, z6, z7, z8⟩, zf⟩ := nine (hg2.keep hx1 (fun e => e))
  go_wp2_with fail
  refine (f1 _).mono ?_
  rintro e w3 ⟨rfl, rfl⟩
  go_wp2_with fail
  exact bodyPost_ret (v := .bool p) (by simp [results, Tryz.results33, go_sem]) rfl ⟨rfl, hg1.trans hg2⟩
set_option maxRecDepth 20000 in
set_option maxHeartbeats 800000 in
theorem refId_c (a c d : Int) (h1 : 0 ≤ a) (h2 : 0 ≤ c) (h3 : 0 ≤ d) (W : World) : Calls Tryz.prog 37 #[.agg #[.int .i64 a, .int .u32 c, .int .u64 d]] W fun e w' => e = .returned (.bool (decide (1 ≤ a) && (decide (a ≤ 64) && (decide (1 ≤ c) && decide (1 ≤ d))))) ∧ Gr (fun _ => False) W w' := by
  by_cases q1 : 0 < a
  · rw [show decide (1 ≤ a) = true by simp; omega]
    by_cases q2 : a ≤ 64
    · rw [show decide (a ≤ 64) = true by simp; omega]
      by_cases q3 : 0 < c
      · rw [show decide (1 ≤ c) = true by simp; omega]
        by_cases q4 : 0 < d
        · rw [show decide (1 ≤ d) = true by simp; omega]
          go_enter Tryz.func37, Tryz.ntmps37
          go_wp2
          exact bodyPost_ret (v := .bool true) (by simp [results, Tryz.results37, go_sem]) rfl ⟨rfl, Gr.alloc _ _ _⟩
        · rw [show decide (1 ≤ d) = false by simp; omega]
          go_enter Tryz.func37, Tryz.ntmps37
          go_wp2
          exact bodyPost_ret (v := .bool false) (by simp [results, Tryz.results37, go_sem]) rfl ⟨rfl, Gr.alloc _ _ _⟩
      · rw [show decide (1 ≤ c) = false by simp; omega]
        go_enter Tryz.func37, Tryz.ntmps37
        go_wp2
        exact bodyPost_ret (v := .bool false) (by simp [results, Tryz.results37, go_sem]) rfl ⟨by simp, Gr.alloc _ _ _⟩
    · rw [show decide (a ≤ 64) = false by simp; omega]
      go_enter Tryz.func37, Tryz.ntmps37
      go_wp2
      exact bodyPost_ret (v := .bool false) (by simp [results, Tryz.results37, go_sem]) rfl ⟨by simp, Gr.alloc _ _ _⟩
  · rw [show decide (1 ≤ a) = false by simp; omega]
    go_enter Tryz.func37, Tryz.ntmps37
    go_wp2
    exact bodyPost_ret (v := .bool false) (by simp [results, Tryz.results37, go_sem]) rfl ⟨by simp, Gr.alloc _ _ _⟩
end Go.Proofs.YtmohehfkbhllpaaGreat

namespace Go.Proofs.YtmohehfkbhllpaaGreat
open Go.RowKit Go.Maps

def okAt (s : ByteArray) (k : Nat) : Bool := low (bt s k) || (decide (k ≠ 0) && oth (bt s k))
def allO (s : ByteArray) (k : Nat) : Bool := (List.range k).all fun j => okAt s j
theorem allO_succ (s : ByteArray) (k : Nat) : allO s (k + 1) = (allO s k && okAt s k) := by
  simp [allO, List.range_succ]
theorem allO_false (s : ByteArray) (k n : Nat) (hk : k < n) (h : okAt s k = false) : allO s n = false := by
  unfold allO
  rw [Bool.eq_false_iff]
  intro ha
  rw [List.all_eq_true] at ha
  have := ha k (List.mem_range.2 hk)
  rw [h] at this; cases this
theorem allO_eq (s : ByteArray) (k : Nat) : allO s (k + 1) = (low (bt s 0) && allN s (k + 1)) := by
  induction k with
  | zero => rw [allO_succ, allN_succ]; simp [allO, allN, okAt, inNa]
            cases low (bt s 0) <;> simp
  | succ k ih => rw [allO_succ, ih, allN_succ s (k + 1)]; simp [okAt, inNa, Bool.and_assoc]
theorem isName_eq (s : ByteArray) : isName s = (decide (1 ≤ s.size) && decide (s.size ≤ 32) && allO s s.size) := by
  unfold isName
  rcases h : s.size with _ | n
  · simp
  · rw [allO_eq]; simp [Bool.and_assoc]
theorem retF (s : ByteArray) (k : Nat) (hlt : k < s.size) (h : okAt s k = false) : Ending.returned (Value.bool false) = Ending.returned (Value.bool (isName s)) := by
  have : isName s = false := by simp [isName_eq, allO_false s k s.size hlt h]
  rw [this]
theorem relO (s : ByteArray) (k : Nat) (hlt : k < s.size) (ha : allO s k = true) (h : okAt s k = true) : ∃ k', k' ≤ s.size ∧ Value.int IntKind.i64 ((k : Int) + 1) = Value.int IntKind.i64 (k' : Int) ∧ allO s k' = true :=
  ⟨k + 1, by omega, by simp, by rw [allO_succ, ha, h]; rfl⟩
theorem measO (s : ByteArray) (k : Nat) (hlt : k < s.size) : s.size - (intOf (Value.int IntKind.i64 ((k : Int) + 1))).toNat < s.size - (intOf (Value.int IntKind.i64 (k : Int))).toNat := by
  simp only [intOf]; omega
theorem relZ (s : ByteArray) (k : Nat) (hz : k = 0) (hlt : k < s.size) (ha : allO s k = true) (h : okAt s k = true) : ∃ k', k' ≤ s.size ∧ Value.int IntKind.i64 1 = Value.int IntKind.i64 (k' : Int) ∧ allO s k' = true := by
  subst hz; exact relO s 0 hlt ha h
theorem measZ (s : ByteArray) (k : Nat) (hz : k = 0) (hlt : k < s.size) : s.size - (intOf (Value.int IntKind.i64 1)).toNat < s.size - (intOf (Value.int IntKind.i64 (k : Int))).toNat := by
  subst hz; exact measO s 0 hlt
set_option maxHeartbeats 1600000 in
theorem refName_c (s : ByteArray) (w : World) : Calls Tryz.prog 59 #[.string s] w fun e w' => e = .returned (.bool (isName s)) ∧ w = w' := by
  by_cases h1 : 1 ≤ s.size
  · by_cases h2 : s.size ≤ 32
    · have h1' : ((s.size : Int) == 0) = false := beq_eq_false_iff_ne.2 (by omega)
      go_enter Tryz.func59, Tryz.ntmps59
      go_wp2
      go_loop [3] (fun i => ∃ k : Nat, k ≤ s.size ∧ i = .int .i64 k ∧ allO s k = true) (fun i => s.size - (intOf i).toNat)
      case atStart => exact ⟨0, Nat.zero_le _, rfl, rfl⟩
      case round =>
        obtain ⟨k, hk, rfl, ha⟩ := hrel
        by_cases hlt : k < s.size
        · have hk0 := ix s k hlt
          have hz0 : k = 0 → bt s k = bt s 0 := fun h => by rw [h]
          go_wp2
          all_goals (cases hok : okAt s k)
          all_goals first
            | (exfalso; go_light; clear hk0; simp only [okAt, oth, low, Bool.or_eq_true, Bool.and_eq_true, decide_eq_true_eq, beq_iff_eq, Bool.not_eq_true', decide_eq_false_iff_not, Bool.not_eq_false', beq_eq_false_iff_ne, ne_eq, Bool.or_eq_false_iff, Bool.and_eq_false_iff] at *; omega)
            | (go_ret; exact ⟨retF s k hlt hok, rfl⟩)
            | (go_round
               case rel => exact relO s k hlt ha hok
               case measure => exact measO s k hlt)
            | (go_round
               case rel => exact relZ s k (by assumption) hlt ha hok
               case measure => exact measZ s k (by assumption) hlt)
        · have : k = s.size := by omega
          subst this
          go_wp2
          go_ret
          have : isName s = true := by simp [isName_eq, ha, h1, h2]
          exact ⟨by rw [this]; rfl, rfl⟩
    · have hn : isName s = false := by simp [isName, h2]
      rw [hn]
      have h1' : ((s.size : Int) == 0) = false := beq_eq_false_iff_ne.2 (by omega)
      go_enter Tryz.func59, Tryz.ntmps59
      go_wp2
      go_ret
      exact ⟨rfl, rfl⟩
  · have hn : isName s = false := by simp [isName, h1]
    rw [hn]
    have h1' : s.size = 0 := by omega
    go_enter Tryz.func59, Tryz.ntmps59
    go_wp2
    go_ret
    exact ⟨rfl, rfl⟩
theorem toList_ne {a b : ByteArray} (h : ¬ a = b) : (a.toList == b.toList) = false := by
  rw [beq_eq_false_iff_ne, ByteArray.toList_eq, ByteArray.toList_eq]
  exact fun e => h (ByteArray.ext (Array.toList_inj.1 e))
/-- The name at a place. -/
def at_ (l : List ByteArray) (k : Nat) : ByteArray := l.getD k ⟨#[]⟩
/-- The slice sv holds the names xs. -/
def Snap (W : World) (sv : Value) (xs : List ByteArray) : Prop :=
  xs.length ≤ 4096 ∧ ((xs = [] ∧ ∃ a cap, sv = .slice a 0 cap) ∨ ∃ g cap, sv = .slice (some ⟨g, 0, none⟩) xs.length cap ∧ ∀ k, k < xs.length → W.cell? ⟨g, k, none⟩ = some (.string (at_ xs k)))
theorem Snap.gr {S : Nat → Prop} {W W' : World} {sv : Value} {xs : List ByteArray} (h : Snap W sv xs) (g : Gr S W W') (hS : ∀ k, sv.ownBlock = some k → ¬ S k) : Snap W' sv xs := by
  refine ⟨h.1, ?_⟩
  rcases h.2 with h0 | ⟨gb, cap, rfl, hc⟩
  · exact .inl h0
  · refine .inr ⟨gb, cap, rfl, fun k hk => ?_⟩
    have h1 := hc k hk
    have hlt : gb < W.heap.size := by
      simp only [World.cell?] at h1
      rcases hh : W.heap[gb]? with _ | o
      · rw [hh] at h1; cases h1
      · exact (Array.getElem?_eq_some_iff.1 hh).1
    rw [World.cell?_of_block (w' := W') (w := W) (a := ⟨gb, k, none⟩) (g.block gb hlt (hS gb rfl))]
    exact h1
theorem Snap.sv {W : World} {sv : Value} {l : List ByteArray} (h : Snap W sv l) : ∃ a cap, sv = .slice a l.length cap := by
  rcases h.2 with ⟨rfl, a, cap, rfl⟩ | ⟨g, cap, rfl, _⟩
  · exact ⟨a, cap, rfl⟩
  · exact ⟨_, cap, rfl⟩
theorem Snap.cell {W : World} {a : Option Addr} {cap : Nat} {l : List ByteArray} (h : Snap W (.slice a l.length cap) l) {k : Nat} (hk : k < l.length) : ∃ g, a = some ⟨g, 0, none⟩ ∧ W.cell? ⟨g, k, none⟩ = some (.string (at_ l k)) := by
  rcases h.2 with ⟨rfl, _⟩ | ⟨g, cap, e, hc⟩
  · simp at hk
  · cases e; exact ⟨g, rfl, hc k hk⟩
theorem fnd_append (a b : List ByteArray) (s : ByteArray) : ∀ n, fnd (a ++ b) s n = (fnd a s n).or (fnd b s (n + a.length)) := by
  induction a with
  | nil => intro n; simp [fnd]
  | cons x r ih =>
    intro n
    by_cases h : x = s
    · simp [fnd, h]
    · simp only [List.cons_append, fnd, h, if_false, ih, List.length_cons]
      rw [show n + 1 + r.length = n + (r.length + 1) by omega]
theorem take_at {l : List ByteArray} {k : Nat} (hk : k < l.length) : l.take (k + 1) = l.take k ++ [at_ l k] := by
  have e : at_ l k = l[k] := by simp [at_, hk]
  rw [e, List.take_succ_eq_append_getElem hk]
theorem fnd_hit {l : List ByteArray} {s : ByteArray} {k : Nat} (hk : k < l.length) (h : fnd (l.take k) s 0 = none) (e : at_ l k = s) : fnd l s 0 = some k := by
  have h1 : fnd (l.take (k + 1)) s 0 = some k := by rw [take_at hk, fnd_snoc, h]; simp [e]; omega
  rw [← List.take_append_drop (k + 1) l, fnd_append, h1]
  rfl
theorem fnd_miss {l : List ByteArray} {s : ByteArray} {k : Nat} (hk : k < l.length) (h : fnd (l.take k) s 0 = none) (e : ¬ at_ l k = s) : fnd (l.take (k + 1)) s 0 = none := by
  rw [take_at hk, fnd_snoc, h]; simp [e]
/-- Where a name stands; how many there are, if it is none of them. -/
def fv7 (l : List ByteArray) (s : ByteArray) : Int := match fnd l s 0 with | some k => (k : Int) | none => (l.length : Int)
set_option maxRecDepth 100000 in
set_option maxHeartbeats 1600000 in
theorem refFind_c (W : World) (lv : Value) (l : List ByteArray) (s : ByteArray) (hl : Snap W lv l) :
    Calls Tryz.prog 60 #[lv, .string s] W fun e W' => e = .returned (.int .i64 (fv7 l s)) ∧ W = W' := by
  obtain ⟨al, cl, rfl⟩ := hl.sv
  have hll : (l.length : Int) ≤ 4096 := by have := hl.1; omega
  go_enter Tryz.func60, Tryz.ntmps60
  go_wp2
  go_loop [5] (fun i => ∃ k : Nat, k ≤ l.length ∧ i = .int .i64 k ∧ fnd (l.take k) s 0 = none) (fun i => l.length - (intOf i).toNat)
  case atStart => exact ⟨0, Nat.zero_le _, rfl, rfl⟩
  case round =>
    obtain ⟨k, hk, rfl, hf⟩ := hrel
    by_cases hlt : k < l.length
    · obtain ⟨g, rfl, cg⟩ := hl.cell hlt
      by_cases e : at_ l k = s
      · rw [e] at cg
        have hr : fv7 l s = (k : Int) := by simp [fv7, fnd_hit hlt hf e]
        go_wp2
        go_ret
        exact ⟨rfl, rfl⟩
      · have hb := toList_ne e
        go_wp2
        go_round
        case rel => exact ⟨k + 1, by omega, by simp, fnd_miss hlt hf e⟩
        case measure => go_light; simp only [intOf]; omega
    · obtain rfl : k = l.length := by omega
      have hr : fv7 l s = (l.length : Int) := by rw [List.take_length] at hf; simp [fv7, hf]
      go_wp2
      go_ret
      exact ⟨rfl, rfl⟩
theorem snap_cells {X : World} {g : Nat} {l : List ByteArray} (hc : ∀ k, k < l.length → X.cell? ⟨g, k, none⟩ = some (.string (at_ l k))) : ∀ j u, (l.map Value.string)[j]? = some u → X.cell? ((⟨g, 0, none⟩ : Addr).add j) = some u := by
  intro j u hj
  have hjl : j < l.length := by
    rcases Nat.lt_or_ge j l.length with h | h
    · exact h
    · simp [List.getElem?_eq_none (show (l.map Value.string).length ≤ j by simpa using h)] at hj
  have e2 : (⟨g, 0, none⟩ : Addr).add j = ⟨g, j, none⟩ := by simp [Addr.add_lit]
  rw [e2, hc j hjl]
  simp [hjl] at hj
  simp [at_, hjl, hj]
theorem snap_src {X : World} {al : Option Addr} {cl : Nat} {l : List ByteArray} (h : Snap X (.slice al l.length cl) l) : Src Tryz.prog 1 49 (.slice al l.length cl) l.length (l.map Value.string) X := by
  rcases h.2 with ⟨rfl, a, cap, e⟩ | ⟨g, cap, e, hc⟩
  · cases al with
    | none => exact Src.ofNil X (tx := 49) Tryz.underlying49 cl
    | some a => exact Src.ofSlice X (tx := 49) Tryz.underlying49 a 0 cl [] rfl (by simp) (by simp)
  · cases e
    exact Src.ofSlice X (tx := 49) Tryz.underlying49 ⟨g, 0, none⟩ l.length cl (l.map Value.string) (by simp) (snap_cells hc) (by simp [Value.oneCell'])
/-- A copy of the list, made by append onto an empty one. -/
theorem app_all (X : World) (al : Option Addr) (cl : Nat) (l : List ByteArray) (hl : Snap X (.slice al l.length cl) l) :
    ∃ v1 w1, (Builtin.append_ #[49, 49] 49 #[.slice (some ⟨X.heap.size, 0, none⟩) 0 0, .slice al l.length cl]).run Tryz.prog (X.alloc (.cells #[] 9)) = .ok v1 w1 ∧
      w1.ownsRow 0 9 1 v1 l.length (l.map Value.string) ∧ Gr (fun _ => False) X w1 ∧ ∀ k, v1.ownBlock = some k → X.heap.size ≤ k := by
  obtain ⟨i0, hi, hz0, hz1, hz2⟩ := info_parts info9
  have hl2 : Snap (X.alloc (.cells #[] 9)) (.slice al l.length cl) l := hl.gr (Gr.alloc X _ (fun _ => False)) (fun _ _ e => e)
  have hs := snap_src hl2
  have hlen := hl.1
  by_cases h0 : l.length = 0
  · have hn : l = [] := List.eq_nil_of_length_eq_zero h0
    subst hn
    have hr := run_append_room_src (P := Tryz.prog) (X.alloc (.cells #[] 9)) 49 49 49 9 i0 Tryz.underlying49 hi X.heap.size 0 0 0 _ 0 [] (by rw [hz1]; exact hs) (Nat.le_refl _) (by simp) (by simp)
    refine ⟨_, _, hr, ?_, Gr.alloc X _ _, fun k e => by cases e; exact Nat.le_refl _⟩
    exact ⟨rfl, .inr ⟨X.heap.size, 0, #[], rfl, Nat.zero_le _, heap_alloc_new _ _, Nat.le_refl _, Nat.zero_le _, rfl, rfl⟩⟩
  · rcases hl2.2 with ⟨e, _⟩ | ⟨g, cap, e, hc⟩
    · rw [e] at h0; exact absurd rfl h0
    · cases e
      have hown : (X.alloc (.cells #[] 9)).ownsRow 0 9 1 (.slice (some ⟨X.heap.size, 0, none⟩) 0 0) 0 [] := ⟨rfl, .inr ⟨X.heap.size, 0, #[], rfl, Nat.zero_le _, heap_alloc_new _ _, Nat.le_refl _, Nat.zero_le _, rfl, rfl⟩⟩
      obtain ⟨v1, w1, hr, ho, hg, _, hloc⟩ := run_append_own_at (P := Tryz.prog) (X.alloc (.cells #[] 9)) 0 49 49 9 i0 (.string ⟨#[]⟩) 1 16 Tryz.underlying49 hi hz0 hz1 hz2 rfl (by decide) _ 0 [] hown ⟨g, 0, none⟩ l.length cl (l.map Value.string) (by simp) (snap_cells hc) (by simp [Value.oneCell']) (by unfold maxLen; omega) (by omega) (Nat.zero_le _)
      refine ⟨v1, w1, hr, by simpa using ho, ?_, fun k hk => ?_⟩
      · exact (Gr.alloc X (.cells #[] 9) (fun _ => False)).trans' (Gr.of_grown (S := fun i => i = X.heap.size) hg (fun k e => by simp [Value.ownBlock] at e; exact e.symm)) (fun i hi e => by omega)
      · rcases hloc with e | e
        · rw [e] at hk; simp [Value.ownBlock] at hk; omega
        · rw [e] at hk; simp at hk; omega
theorem wpList_apprun (w : World) {ops : Array Oper} {rest : List Oper} {o : Oper} {a : Act} {Q : Exit → Act → World → Prop} (hgd : o.guard = none) (s x : Operand)
    (ho : o.op = .call { callee := .builtin .append, args := #[s, x], argTypes := #[49, 49] }) (sv xv : Value) (hs : a.eval s = sv) (hx : a.eval x = xv) {v1 : Value} {w1 : World}
    (hr : (Builtin.append_ #[49, 49] o.type #[sv, xv]).run Tryz.prog w = .ok v1 w1) (h : wpList Tryz.prog ops Q rest (a.put o.dst v1) w1) :
    wpList Tryz.prog ops Q (o :: rest) a w := by
  refine wpList_plain hgd fun K hK => ?_
  unfold Oper.wp execOp
  simp only [ho, resolve, invoke, builtin, Sem.run_bind, Sem.run_pure, Result.andThen_ok, List.map_toArray, List.map_cons, List.map_nil, hs, hx, hr]
  exact hK _ _ h
theorem app_end {W w1 w3 : World} {v1 : Value} {g : Nat} {o : Obj} (hg1 : Gr (fun _ => False) W w1) (hb1 : ∀ k, v1.ownBlock = some k → W.heap.size ≤ k)
    (hloc : (v1.ownBlock = some g ∧ (w1.alloc o).grownBy w3 (some g)) ∨ (g = (w1.alloc o).heap.size ∧ (w1.alloc o).grownBy w3 none)) : Gr (fun _ => False) W w3 ∧ W.heap.size ≤ g := by
  have hs := hg1.size
  rcases hloc with ⟨e, hg⟩ | ⟨e, hg⟩
  · have h := hb1 g e
    exact ⟨(hg1.trans (Gr.alloc w1 o _)).trans' (Gr.of_grown (S := fun i => i = g) hg (fun k e => by cases e; rfl)) (fun i hi e => by omega), h⟩
  · simp at e
    exact ⟨(hg1.trans (Gr.alloc w1 o _)).trans (Gr.of_grown hg (fun k e => by cases e)), by omega⟩
theorem ownsRow_snap {X : World} {v : Value} {l : List ByteArray} (hl : l.length ≤ 4096) (h : X.ownsRow 0 9 1 v l.length (l.map Value.string)) : Snap X v l := by
  refine ⟨hl, ?_⟩
  rcases h.2 with ⟨rfl, e⟩ | ⟨g, cap, cur, rfl, _⟩
  · exact .inl ⟨List.eq_nil_of_length_eq_zero e, _, _, rfl⟩
  · refine .inr ⟨g, cap, rfl, fun k hk => ?_⟩
    have := h.cellAt (g := g) k (by omega)
    rw [this]
    simp [hk, at_]

end Go.Proofs.YtmohehfkbhllpaaGreat
