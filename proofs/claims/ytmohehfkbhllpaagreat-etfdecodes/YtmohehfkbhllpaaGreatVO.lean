/-
  The reference's reader: tuples and lists that give up ahead of their elements.
-/
import Derived.Test.YtmohehfkbhllpaaGreatVN
set_option linter.unusedVariables false
set_option linter.unusedSimpArgs false
namespace Go.Proofs.YtmohehfkbhllpaaGreat
open Go.RowKit Go.Maps
variable {S S' Z : Nat → Prop} {W W1 W' : World}
set_option maxRecDepth 20000 in
set_option maxHeartbeats 800000 in
theorem part_6e (ba : Option Addr) (bc : Nat) (na : Option Addr) (nc : Nat) (m : List Int) (l : List ByteArray) (i n : Nat) (d : Int) (hi : i ≤ m.length) (hn : n ≤ 4096) (W : World) (hd : d ≤ 24) (x : Int) (hb : n < 4096) (hmx : m[i]? = some x) (hq : Sq Z W (.slice ba m.length bc) m) (hx3 : x = 6) (c : Int) (hr : nmb 10 0 0 (m.drop (i + 1)) = .error c) : Calls Tryz.prog 16 #[sv (.slice ba m.length bc) i n (.slice na l.length nc) 0, .int .i64 d] W fun e w' => (EndP ba bc m W e w' (.error c)) ∧ Gr (fun _ => False) W w' := by
  have hx := Lib.hid (Sq0.new W (.slice ba m.length bc) (.slice na l.length nc) i n 0)
  have hnI : (n : Int) ≤ 4096 := by omega
  have hn0 : (0 : Int) ≤ (n : Int) := by omega
  obtain ⟨n1, hn1⟩ : ∃ n1, n + 1 = n1 := ⟨_, rfl⟩
  have hn1I : (n : Int) + 1 = (n1 : Int) := by omega
  have hn1b : (n1 : Int) ≤ 5000 := by omega
  have hn1c : (0 : Int) ≤ (n1 : Int) := by omega
  have Hn1 := Lib.hid hn1
  have Hn := Lib.hid hn
  clear hn1 hn
  have hdI : decide ((24 : Int) < d) = false := by simp; omega
  clear hd
  have hbI : decide ((4096 : Int) < (n1 : Int)) = false := by simp; omega
  have h1 := Lib.hid (fun w g => rone_ok ba bc na l.length nc i n1 m x hmx w (hq.gr (g : Gr (fun _ => False) W w) (fun _ _ e => e)))
  have hxb := hq.byte x (List.mem_of_getElem? hmx)
  have hx0 : (0 : Int) ≤ x := hxb.1
  have hx1 : x < 256 := hxb.2
  have h31 := Lib.hid (fun w (g : Gr (fun _ => False) W w) => wide_e ba bc na l.length nc m (i + 1) n1 (by have := (List.getElem?_eq_some_iff.1 hmx).1; omega) w (hq.gr g (fun _ _ e => e)))
  rw [hr] at h31
  have hc := nmb_er _ _ _ _ _ hr
  clear hb hmx hq hxb hr hx0 hx1
  subst hx3
  go_enter Tryz.func16, Tryz.ntmps16
  go_wp2_with fail
  generalize hW1 : World.alloc (World.alloc (World.alloc W _) _) _ = W1
  have H0 : Hid (Sq0 W W.heap.size (.slice ba m.length bc) (.slice na l.length nc) i n1 0 W1) := Lib.hid (hW1 ▸ Sq0.new W (.slice ba m.length bc) (.slice na l.length nc) i n1 0)
  clear hW1 hx
  refine (h1.out _ H0.out.sx.gr).mono ?_
  rintro e w1 ⟨rfl, g1⟩
  have s1 := H0.out.turn g1
  obtain ⟨⟨x0, x1, x2, x3, x4⟩, xf0, xf1, xf2, xf3, xf4⟩ := five s1.sx.st
  have l0 := (Array.getElem?_eq_some_iff.1 s1.sx.st).1
  have H1 := Lib.hid ((s1.set (Nat.le_refl _) (.slice ba m.length bc) (.slice na l.length nc) (i + 1) n1 0 ((i : Int) + 1) (by simp) (n1 : Int) rfl).term #[.int .i64 6, .int .i64 0, .complex .f64 0 0, .string e0, .int .i64 0, .int .u32 0, .int .u64 0, nl, nl] w1.heap.size (by simp))
  clear s1 g1 H0
  go_wp2_with fail
  generalize World.alloc _ _ = Y1 at H1 ⊢
  generalize w1.heap.size = tb at H1 ⊢
  clear x0 x1 x2 x3 x4 xf0 xf1 xf2 xf3 xf4 l0
  refine (h31.out _ H1.out.sx.gr).mono ?_
  rintro e w2 ⟨⟨j, uI, hu0, hu1, rfl⟩, g2⟩
  obtain ⟨u, rfl⟩ := Int.eq_ofNat_of_zero_le hu0
  have s2 := H1.out.turn g2
  have H2 := Lib.hid (s2.second j n1 c ((j : Nat) : Int) (by simp) w2.heap.size rfl)
  clear s2 g2 H1
  go_wp2_with fail
  generalize World.alloc _ _ = Y2 at H2 ⊢
  generalize w2.heap.size = yb at H2 ⊢
  refine (must_old ba m.length bc na l.length nc j n1 c hc _ _).mono ?_
  rintro e w3 ⟨rfl, g3⟩
  have s3 := H2.out.turn g3
  obtain ⟨⟨x0, x1, x2, x3, x4⟩, xf0, xf1, xf2, xf3, xf4⟩ := five s3.sp.sx.st
  have l0 := (Array.getElem?_eq_some_iff.1 s3.sp.sx.st).1
  have H3 := Lib.hid (s3.sp.set (Nat.le_refl _) (.slice ba m.length bc) (.slice na l.length nc) j n1 c ((j : Nat) : Int) (by simp) (n1 : Int) rfl)
  clear s3 g3 H2
  go_wp2_with fail
  generalize World.setCell (World.setCell (World.setCell (World.setCell (World.setCell w3 _ _) _ _) _ _) _ _) _ _ = Y3 at H3 ⊢
  clear x0 x1 x2 x3 x4 xf0 xf1 xf2 xf3 xf4 l0
  go_loopw [18] (fun v wr => v = .int .u64 0 ∧ Hid (Sp W W.heap.size tb (.slice ba m.length bc) (.slice na l.length nc) j n1 c #[.int .i64 6, .int .i64 0, .complex .f64 0 0, .string e0, .int .i64 0, .int .u32 0, .int .u64 0, nl, nl] wr)) (fun _ _ => 0)
  case atStart => exact ⟨rfl, H3⟩
  case round =>
    obtain ⟨rfl, H4⟩ := hrel
    clear H3
    rcases Nat.eq_zero_or_pos u with hz | hz
    · have hzI : decide ((0 : Int) < (u : Int)) = false := by simp; omega
      have hzN : decide (0 < u) = false := by simp; omega
      clear hz
      obtain ⟨⟨x0, x1, x2, x3, x4⟩, xf0, xf1, xf2, xf3, xf4⟩ := five H4.out.sx.st
      have l0 := (Array.getElem?_eq_some_iff.1 H4.out.sx.st).1
      go_wp2_with fail
      clear x0 x1 x2 x3 x4 xf0 xf1 xf2 xf3 xf4 l0
      obtain ⟨⟨x0, x1, x2, x3, x4⟩, xf0, xf1, xf2, xf3, xf4⟩ := five H4.out.sx.st
      have l0 := (Array.getElem?_eq_some_iff.1 H4.out.sx.st).1
      obtain ⟨⟨y0, y1, y2, y3, y4⟩, yf0, yf1, yf2, yf3, yf4⟩ := five H4.out.sx.out
      obtain ⟨⟨z0, z1, z2, z3, z4, z5, z6, z7, z8⟩, zf⟩ := nine H4.out.ot
      obtain ⟨⟨t0, t1, t2, t3, t4, t5, t6, t7, t8⟩, tf⟩ := nine H4.out.tm
      have l1 := (Array.getElem?_eq_some_iff.1 H4.out.sx.out).1
      have l2 := (Array.getElem?_eq_some_iff.1 H4.out.ot).1
      have l3 := (Array.getElem?_eq_some_iff.1 H4.out.tm).1
      have lt9 := H4.out.lt
      have HG := Lib.hid H4.out.sx.gr
      have lt8 : ¬ tb = W.heap.size := by omega
      have lt7 : ¬ tb = W.heap.size + 1 := by omega
      have lt6 : ¬ tb = W.heap.size + 1 + 1 := by omega
      have lt5 : ¬ W.heap.size + 1 = tb := by omega
      have lt4 : ¬ W.heap.size + 1 + 1 = tb := by omega
      go_region
      all_goals
        go_wp2
        refine bodyPost_ret (v := .tuple #[sv (.slice ba m.length bc) j n1 (.slice na l.length nc) c, lf 6 0 0 0 e0 0 0 0]) (by simp [results, Tryz.results16, go_sem, y0, y1, y2, y3, y4, z0, z1, z2, z3, z4, z5, z6, z7, z8, l0, l1, l2]) rfl ?_
        exact ⟨⟨_, _, _, _, _, _, _, _, _, _, _, _, _, _, _, _, _, _, _, rfl⟩, ((HG.out.set5 (g := W.heap.size + 1) (Nat.le_succ _) _ _ _ _ _).set9 (g := W.heap.size + 1 + 1) (by omega) _ _ _ _ _ _ _ _ _).trans (Gr.drew _ _)⟩
    · have hzI : (0 : Int) < (u : Int) := by omega
      have hzN : decide (0 < u) = true := by simp; omega
      clear hz
      obtain ⟨⟨x0, x1, x2, x3, x4⟩, xf0, xf1, xf2, xf3, xf4⟩ := five H4.out.sx.st
      have l0 := (Array.getElem?_eq_some_iff.1 H4.out.sx.st).1
      go_wp2_with fail
      clear x0 x1 x2 x3 x4 xf0 xf1 xf2 xf3 xf4 l0
      obtain ⟨⟨x0, x1, x2, x3, x4⟩, xf0, xf1, xf2, xf3, xf4⟩ := five H4.out.sx.st
      have l0 := (Array.getElem?_eq_some_iff.1 H4.out.sx.st).1
      obtain ⟨⟨y0, y1, y2, y3, y4⟩, yf0, yf1, yf2, yf3, yf4⟩ := five H4.out.sx.out
      obtain ⟨⟨z0, z1, z2, z3, z4, z5, z6, z7, z8⟩, zf⟩ := nine H4.out.ot
      obtain ⟨⟨t0, t1, t2, t3, t4, t5, t6, t7, t8⟩, tf⟩ := nine H4.out.tm
      have l1 := (Array.getElem?_eq_some_iff.1 H4.out.sx.out).1
      have l2 := (Array.getElem?_eq_some_iff.1 H4.out.ot).1
      have l3 := (Array.getElem?_eq_some_iff.1 H4.out.tm).1
      have lt9 := H4.out.lt
      have HG := Lib.hid H4.out.sx.gr
      have lt8 : ¬ tb = W.heap.size := by omega
      have lt7 : ¬ tb = W.heap.size + 1 := by omega
      have lt6 : ¬ tb = W.heap.size + 1 + 1 := by omega
      have lt5 : ¬ W.heap.size + 1 = tb := by omega
      have lt4 : ¬ W.heap.size + 1 + 1 = tb := by omega
      go_region
      all_goals
        go_wp2
        refine bodyPost_ret (v := .tuple #[sv (.slice ba m.length bc) j n1 (.slice na l.length nc) c, lf 6 0 0 0 e0 0 0 0]) (by simp [results, Tryz.results16, go_sem, y0, y1, y2, y3, y4, z0, z1, z2, z3, z4, z5, z6, z7, z8, l0, l1, l2]) rfl ?_
        exact ⟨⟨_, _, _, _, _, _, _, _, _, _, _, _, _, _, _, _, _, _, _, rfl⟩, ((HG.out.set5 (g := W.heap.size + 1) (Nat.le_succ _) _ _ _ _ _).set9 (g := W.heap.size + 1 + 1) (by omega) _ _ _ _ _ _ _ _ _).trans (Gr.drew _ _)⟩
set_option maxRecDepth 20000 in
set_option maxHeartbeats 800000 in
theorem part_6n (ba : Option Addr) (bc : Nat) (na : Option Addr) (nc : Nat) (m : List Int) (l : List ByteArray) (i n : Nat) (d : Int) (hi : i ≤ m.length) (hn : n ≤ 4096) (W : World) (hd : d ≤ 24) (x : Int) (hb : n < 4096) (hmx : m[i]? = some x) (hq : Sq Z W (.slice ba m.length bc) m) (hx3 : x = 6) (u : Nat) (r : List Int) (hr : nmb 10 0 0 (m.drop (i + 1)) = .ok (u, r)) (hg : 256 < u) : Calls Tryz.prog 16 #[sv (.slice ba m.length bc) i n (.slice na l.length nc) 0, .int .i64 d] W fun e w' => (EndP ba bc m W e w' (.error 73)) ∧ Gr (fun _ => False) W w' := by
  have hx := Lib.hid (Sq0.new W (.slice ba m.length bc) (.slice na l.length nc) i n 0)
  have hnI : (n : Int) ≤ 4096 := by omega
  have hn0 : (0 : Int) ≤ (n : Int) := by omega
  obtain ⟨n1, hn1⟩ : ∃ n1, n + 1 = n1 := ⟨_, rfl⟩
  have hn1I : (n : Int) + 1 = (n1 : Int) := by omega
  have hn1b : (n1 : Int) ≤ 5000 := by omega
  have hn1c : (0 : Int) ≤ (n1 : Int) := by omega
  have Hn1 := Lib.hid hn1
  have Hn := Lib.hid hn
  clear hn1 hn
  have hdI : decide ((24 : Int) < d) = false := by simp; omega
  clear hd
  have hbI : decide ((4096 : Int) < (n1 : Int)) = false := by simp; omega
  have h1 := Lib.hid (fun w g => rone_ok ba bc na l.length nc i n1 m x hmx w (hq.gr (g : Gr (fun _ => False) W w) (fun _ _ e => e)))
  have hxb := hq.byte x (List.mem_of_getElem? hmx)
  have hx0 : (0 : Int) ≤ x := hxb.1
  have hx1 : x < 256 := hxb.2
  have h31 := Lib.hid (fun w (g : Gr (fun _ => False) W w) => wide_e ba bc na l.length nc m (i + 1) n1 (by have := (List.getElem?_eq_some_iff.1 hmx).1; omega) w (hq.gr g (fun _ _ e => e)))
  rw [hr] at h31
  have hgI : decide ((u : Int) ≤ 256) = false := by simp; omega
  have hgN : decide (u ≤ 256) = false := by simp; omega
  clear hb hmx hq hxb hr hx0 hx1
  subst hx3
  go_enter Tryz.func16, Tryz.ntmps16
  go_wp2_with fail
  generalize hW1 : World.alloc (World.alloc (World.alloc W _) _) _ = W1
  have H0 : Hid (Sq0 W W.heap.size (.slice ba m.length bc) (.slice na l.length nc) i n1 0 W1) := Lib.hid (hW1 ▸ Sq0.new W (.slice ba m.length bc) (.slice na l.length nc) i n1 0)
  clear hW1 hx
  refine (h1.out _ H0.out.sx.gr).mono ?_
  rintro e w1 ⟨rfl, g1⟩
  have s1 := H0.out.turn g1
  obtain ⟨⟨x0, x1, x2, x3, x4⟩, xf0, xf1, xf2, xf3, xf4⟩ := five s1.sx.st
  have l0 := (Array.getElem?_eq_some_iff.1 s1.sx.st).1
  have H1 := Lib.hid ((s1.set (Nat.le_refl _) (.slice ba m.length bc) (.slice na l.length nc) (i + 1) n1 0 ((i : Int) + 1) (by simp) (n1 : Int) rfl).term #[.int .i64 6, .int .i64 0, .complex .f64 0 0, .string e0, .int .i64 0, .int .u32 0, .int .u64 0, nl, nl] w1.heap.size (by simp))
  clear s1 g1 H0
  go_wp2_with fail
  generalize World.alloc _ _ = Y1 at H1 ⊢
  generalize w1.heap.size = tb at H1 ⊢
  clear x0 x1 x2 x3 x4 xf0 xf1 xf2 xf3 xf4 l0
  refine (h31.out _ H1.out.sx.gr).mono ?_
  rintro e w2 ⟨⟨j, hj, hjr, hu, rfl⟩, g2⟩
  have Hj := Lib.hid hj
  have Hjr := Lib.hid hjr
  have huI : (u : Int) < 18446744073709551616 := by omega
  have hu0 : (0 : Int) ≤ (u : Int) := by omega
  clear hj hjr hu
  have s2 := H1.out.turn g2
  have H2 := Lib.hid (s2.second j n1 0 ((j : Nat) : Int) (by simp) w2.heap.size rfl)
  clear s2 g2 H1
  go_wp2_with fail
  generalize World.alloc _ _ = Y2 at H2 ⊢
  generalize w2.heap.size = yb at H2 ⊢
  refine (must_no ba m.length bc na l.length nc j n1 _).mono ?_
  rintro e w3 ⟨rfl, g3⟩
  have s3 := H2.out.turn g3
  obtain ⟨⟨x0, x1, x2, x3, x4⟩, xf0, xf1, xf2, xf3, xf4⟩ := five s3.sp.sx.st
  have l0 := (Array.getElem?_eq_some_iff.1 s3.sp.sx.st).1
  have H3 := Lib.hid (s3.sp.set (Nat.le_refl _) (.slice ba m.length bc) (.slice na l.length nc) j n1 73 ((j : Nat) : Int) (by simp) (n1 : Int) rfl)
  clear s3 g3 H2
  go_wp2_with fail
  generalize World.setCell (World.setCell (World.setCell (World.setCell (World.setCell w3 _ _) _ _) _ _) _ _) _ _ = Y3 at H3 ⊢
  clear x0 x1 x2 x3 x4 xf0 xf1 xf2 xf3 xf4 l0
  go_loopw [18] (fun v wr => v = .int .u64 0 ∧ Hid (Sp W W.heap.size tb (.slice ba m.length bc) (.slice na l.length nc) j n1 73 #[.int .i64 6, .int .i64 0, .complex .f64 0 0, .string e0, .int .i64 0, .int .u32 0, .int .u64 0, nl, nl] wr)) (fun _ _ => 0)
  case atStart => exact ⟨rfl, H3⟩
  case round =>
    obtain ⟨rfl, H4⟩ := hrel
    clear H3
    have hzI : (0 : Int) < (u : Int) := by omega
    have hzN : decide (0 < u) = true := by simp; omega
    obtain ⟨⟨x0, x1, x2, x3, x4⟩, xf0, xf1, xf2, xf3, xf4⟩ := five H4.out.sx.st
    have l0 := (Array.getElem?_eq_some_iff.1 H4.out.sx.st).1
    go_wp2_with fail
    clear x0 x1 x2 x3 x4 xf0 xf1 xf2 xf3 xf4 l0
    obtain ⟨⟨x0, x1, x2, x3, x4⟩, xf0, xf1, xf2, xf3, xf4⟩ := five H4.out.sx.st
    have l0 := (Array.getElem?_eq_some_iff.1 H4.out.sx.st).1
    obtain ⟨⟨y0, y1, y2, y3, y4⟩, yf0, yf1, yf2, yf3, yf4⟩ := five H4.out.sx.out
    obtain ⟨⟨z0, z1, z2, z3, z4, z5, z6, z7, z8⟩, zf⟩ := nine H4.out.ot
    obtain ⟨⟨t0, t1, t2, t3, t4, t5, t6, t7, t8⟩, tf⟩ := nine H4.out.tm
    have l1 := (Array.getElem?_eq_some_iff.1 H4.out.sx.out).1
    have l2 := (Array.getElem?_eq_some_iff.1 H4.out.ot).1
    have l3 := (Array.getElem?_eq_some_iff.1 H4.out.tm).1
    have lt9 := H4.out.lt
    have HG := Lib.hid H4.out.sx.gr
    have lt8 : ¬ tb = W.heap.size := by omega
    have lt7 : ¬ tb = W.heap.size + 1 := by omega
    have lt6 : ¬ tb = W.heap.size + 1 + 1 := by omega
    have lt5 : ¬ W.heap.size + 1 = tb := by omega
    have lt4 : ¬ W.heap.size + 1 + 1 = tb := by omega
    go_region
    all_goals
      go_wp2
      refine bodyPost_ret (v := .tuple #[sv (.slice ba m.length bc) j n1 (.slice na l.length nc) 73, lf 6 0 0 0 e0 0 0 0]) (by simp [results, Tryz.results16, go_sem, y0, y1, y2, y3, y4, z0, z1, z2, z3, z4, z5, z6, z7, z8, l0, l1, l2]) rfl ?_
      exact ⟨⟨_, _, _, _, _, _, _, _, _, _, _, _, _, _, _, _, _, _, _, rfl⟩, ((HG.out.set5 (g := W.heap.size + 1) (Nat.le_succ _) _ _ _ _ _).set9 (g := W.heap.size + 1 + 1) (by omega) _ _ _ _ _ _ _ _ _).trans (Gr.drew _ _)⟩
set_option maxRecDepth 20000 in
set_option maxHeartbeats 800000 in
theorem part_7e (ba : Option Addr) (bc : Nat) (na : Option Addr) (nc : Nat) (m : List Int) (l : List ByteArray) (i n : Nat) (d : Int) (hi : i ≤ m.length) (hn : n ≤ 4096) (W : World) (hd : d ≤ 24) (x : Int) (hb : n < 4096) (hmx : m[i]? = some x) (hq : Sq Z W (.slice ba m.length bc) m) (hx3 : x = 7) (c : Int) (hr : nmb 10 0 0 (m.drop (i + 1)) = .error c) : Calls Tryz.prog 16 #[sv (.slice ba m.length bc) i n (.slice na l.length nc) 0, .int .i64 d] W fun e w' => (EndP ba bc m W e w' (.error c)) ∧ Gr (fun _ => False) W w' := by
  have hx := Lib.hid (Sq0.new W (.slice ba m.length bc) (.slice na l.length nc) i n 0)
  have hnI : (n : Int) ≤ 4096 := by omega
  have hn0 : (0 : Int) ≤ (n : Int) := by omega
  obtain ⟨n1, hn1⟩ : ∃ n1, n + 1 = n1 := ⟨_, rfl⟩
  have hn1I : (n : Int) + 1 = (n1 : Int) := by omega
  have hn1b : (n1 : Int) ≤ 5000 := by omega
  have hn1c : (0 : Int) ≤ (n1 : Int) := by omega
  have Hn1 := Lib.hid hn1
  have Hn := Lib.hid hn
  clear hn1 hn
  have hdI : decide ((24 : Int) < d) = false := by simp; omega
  clear hd
  have hbI : decide ((4096 : Int) < (n1 : Int)) = false := by simp; omega
  have h1 := Lib.hid (fun w g => rone_ok ba bc na l.length nc i n1 m x hmx w (hq.gr (g : Gr (fun _ => False) W w) (fun _ _ e => e)))
  have hxb := hq.byte x (List.mem_of_getElem? hmx)
  have hx0 : (0 : Int) ≤ x := hxb.1
  have hx1 : x < 256 := hxb.2
  have h31 := Lib.hid (fun w (g : Gr (fun _ => False) W w) => wide_e ba bc na l.length nc m (i + 1) n1 (by have := (List.getElem?_eq_some_iff.1 hmx).1; omega) w (hq.gr g (fun _ _ e => e)))
  rw [hr] at h31
  have hc := nmb_er _ _ _ _ _ hr
  clear hb hmx hq hxb hr hx0 hx1
  subst hx3
  go_enter Tryz.func16, Tryz.ntmps16
  go_wp2_with fail
  generalize hW1 : World.alloc (World.alloc (World.alloc W _) _) _ = W1
  have H0 : Hid (Sq0 W W.heap.size (.slice ba m.length bc) (.slice na l.length nc) i n1 0 W1) := Lib.hid (hW1 ▸ Sq0.new W (.slice ba m.length bc) (.slice na l.length nc) i n1 0)
  clear hW1 hx
  refine (h1.out _ H0.out.sx.gr).mono ?_
  rintro e w1 ⟨rfl, g1⟩
  have s1 := H0.out.turn g1
  obtain ⟨⟨x0, x1, x2, x3, x4⟩, xf0, xf1, xf2, xf3, xf4⟩ := five s1.sx.st
  have l0 := (Array.getElem?_eq_some_iff.1 s1.sx.st).1
  have H1 := Lib.hid ((s1.set (Nat.le_refl _) (.slice ba m.length bc) (.slice na l.length nc) (i + 1) n1 0 ((i : Int) + 1) (by simp) (n1 : Int) rfl).term #[.int .i64 7, .int .i64 0, .complex .f64 0 0, .string e0, .int .i64 0, .int .u32 0, .int .u64 0, nl, nl] w1.heap.size (by simp))
  clear s1 g1 H0
  go_wp2_with fail
  generalize World.alloc _ _ = Y1 at H1 ⊢
  generalize w1.heap.size = tb at H1 ⊢
  clear x0 x1 x2 x3 x4 xf0 xf1 xf2 xf3 xf4 l0
  refine (h31.out _ H1.out.sx.gr).mono ?_
  rintro e w2 ⟨⟨j, uI, hu0, hu1, rfl⟩, g2⟩
  obtain ⟨u, rfl⟩ := Int.eq_ofNat_of_zero_le hu0
  have s2 := H1.out.turn g2
  have H2 := Lib.hid (s2.second j n1 c ((j : Nat) : Int) (by simp) w2.heap.size rfl)
  clear s2 g2 H1
  go_wp2_with fail
  generalize World.alloc _ _ = Y2 at H2 ⊢
  generalize w2.heap.size = yb at H2 ⊢
  refine (must_old ba m.length bc na l.length nc j n1 c hc _ _).mono ?_
  rintro e w3 ⟨rfl, g3⟩
  have s3 := H2.out.turn g3
  obtain ⟨⟨x0, x1, x2, x3, x4⟩, xf0, xf1, xf2, xf3, xf4⟩ := five s3.sp.sx.st
  have l0 := (Array.getElem?_eq_some_iff.1 s3.sp.sx.st).1
  have H3 := Lib.hid (s3.sp.set (Nat.le_refl _) (.slice ba m.length bc) (.slice na l.length nc) j n1 c ((j : Nat) : Int) (by simp) (n1 : Int) rfl)
  clear s3 g3 H2
  go_wp2_with fail
  generalize World.setCell (World.setCell (World.setCell (World.setCell (World.setCell w3 _ _) _ _) _ _) _ _) _ _ = Y3 at H3 ⊢
  clear x0 x1 x2 x3 x4 xf0 xf1 xf2 xf3 xf4 l0
  go_loopw [18] (fun v wr => v = .int .u64 0 ∧ Hid (Sp W W.heap.size tb (.slice ba m.length bc) (.slice na l.length nc) j n1 c #[.int .i64 7, .int .i64 0, .complex .f64 0 0, .string e0, .int .i64 0, .int .u32 0, .int .u64 0, nl, nl] wr)) (fun _ _ => 0)
  case atStart => exact ⟨rfl, H3⟩
  case round =>
    obtain ⟨rfl, H4⟩ := hrel
    clear H3
    rcases Nat.eq_zero_or_pos u with hz | hz
    · have hzI : decide ((0 : Int) < (u : Int)) = false := by simp; omega
      have hzN : decide (0 < u) = false := by simp; omega
      clear hz
      obtain ⟨⟨x0, x1, x2, x3, x4⟩, xf0, xf1, xf2, xf3, xf4⟩ := five H4.out.sx.st
      have l0 := (Array.getElem?_eq_some_iff.1 H4.out.sx.st).1
      go_wp2_with fail
      clear x0 x1 x2 x3 x4 xf0 xf1 xf2 xf3 xf4 l0
      obtain ⟨⟨x0, x1, x2, x3, x4⟩, xf0, xf1, xf2, xf3, xf4⟩ := five H4.out.sx.st
      have l0 := (Array.getElem?_eq_some_iff.1 H4.out.sx.st).1
      obtain ⟨⟨y0, y1, y2, y3, y4⟩, yf0, yf1, yf2, yf3, yf4⟩ := five H4.out.sx.out
      obtain ⟨⟨z0, z1, z2, z3, z4, z5, z6, z7, z8⟩, zf⟩ := nine H4.out.ot
      obtain ⟨⟨t0, t1, t2, t3, t4, t5, t6, t7, t8⟩, tf⟩ := nine H4.out.tm
      have l1 := (Array.getElem?_eq_some_iff.1 H4.out.sx.out).1
      have l2 := (Array.getElem?_eq_some_iff.1 H4.out.ot).1
      have l3 := (Array.getElem?_eq_some_iff.1 H4.out.tm).1
      have lt9 := H4.out.lt
      have HG := Lib.hid H4.out.sx.gr
      have lt8 : ¬ tb = W.heap.size := by omega
      have lt7 : ¬ tb = W.heap.size + 1 := by omega
      have lt6 : ¬ tb = W.heap.size + 1 + 1 := by omega
      have lt5 : ¬ W.heap.size + 1 = tb := by omega
      have lt4 : ¬ W.heap.size + 1 + 1 = tb := by omega
      go_region
      all_goals
        go_wp2
        refine bodyPost_ret (v := .tuple #[sv (.slice ba m.length bc) j n1 (.slice na l.length nc) c, lf 7 0 0 0 e0 0 0 0]) (by simp [results, Tryz.results16, go_sem, y0, y1, y2, y3, y4, z0, z1, z2, z3, z4, z5, z6, z7, z8, l0, l1, l2]) rfl ?_
        exact ⟨⟨_, _, _, _, _, _, _, _, _, _, _, _, _, _, _, _, _, _, _, rfl⟩, ((HG.out.set5 (g := W.heap.size + 1) (Nat.le_succ _) _ _ _ _ _).set9 (g := W.heap.size + 1 + 1) (by omega) _ _ _ _ _ _ _ _ _).trans (Gr.drew _ _)⟩
    · have hzI : (0 : Int) < (u : Int) := by omega
      have hzN : decide (0 < u) = true := by simp; omega
      clear hz
      obtain ⟨⟨x0, x1, x2, x3, x4⟩, xf0, xf1, xf2, xf3, xf4⟩ := five H4.out.sx.st
      have l0 := (Array.getElem?_eq_some_iff.1 H4.out.sx.st).1
      go_wp2_with fail
      clear x0 x1 x2 x3 x4 xf0 xf1 xf2 xf3 xf4 l0
      obtain ⟨⟨x0, x1, x2, x3, x4⟩, xf0, xf1, xf2, xf3, xf4⟩ := five H4.out.sx.st
      have l0 := (Array.getElem?_eq_some_iff.1 H4.out.sx.st).1
      obtain ⟨⟨y0, y1, y2, y3, y4⟩, yf0, yf1, yf2, yf3, yf4⟩ := five H4.out.sx.out
      obtain ⟨⟨z0, z1, z2, z3, z4, z5, z6, z7, z8⟩, zf⟩ := nine H4.out.ot
      obtain ⟨⟨t0, t1, t2, t3, t4, t5, t6, t7, t8⟩, tf⟩ := nine H4.out.tm
      have l1 := (Array.getElem?_eq_some_iff.1 H4.out.sx.out).1
      have l2 := (Array.getElem?_eq_some_iff.1 H4.out.ot).1
      have l3 := (Array.getElem?_eq_some_iff.1 H4.out.tm).1
      have lt9 := H4.out.lt
      have HG := Lib.hid H4.out.sx.gr
      have lt8 : ¬ tb = W.heap.size := by omega
      have lt7 : ¬ tb = W.heap.size + 1 := by omega
      have lt6 : ¬ tb = W.heap.size + 1 + 1 := by omega
      have lt5 : ¬ W.heap.size + 1 = tb := by omega
      have lt4 : ¬ W.heap.size + 1 + 1 = tb := by omega
      go_region
      all_goals
        go_wp2
        refine bodyPost_ret (v := .tuple #[sv (.slice ba m.length bc) j n1 (.slice na l.length nc) c, lf 7 0 0 0 e0 0 0 0]) (by simp [results, Tryz.results16, go_sem, y0, y1, y2, y3, y4, z0, z1, z2, z3, z4, z5, z6, z7, z8, l0, l1, l2]) rfl ?_
        exact ⟨⟨_, _, _, _, _, _, _, _, _, _, _, _, _, _, _, _, _, _, _, rfl⟩, ((HG.out.set5 (g := W.heap.size + 1) (Nat.le_succ _) _ _ _ _ _).set9 (g := W.heap.size + 1 + 1) (by omega) _ _ _ _ _ _ _ _ _).trans (Gr.drew _ _)⟩
set_option maxRecDepth 20000 in
set_option maxHeartbeats 800000 in
theorem part_7n (ba : Option Addr) (bc : Nat) (na : Option Addr) (nc : Nat) (m : List Int) (l : List ByteArray) (i n : Nat) (d : Int) (hi : i ≤ m.length) (hn : n ≤ 4096) (W : World) (hd : d ≤ 24) (x : Int) (hb : n < 4096) (hmx : m[i]? = some x) (hq : Sq Z W (.slice ba m.length bc) m) (hx3 : x = 7) (u : Nat) (r : List Int) (hr : nmb 10 0 0 (m.drop (i + 1)) = .ok (u, r)) (hg : 256 < u) : Calls Tryz.prog 16 #[sv (.slice ba m.length bc) i n (.slice na l.length nc) 0, .int .i64 d] W fun e w' => (EndP ba bc m W e w' (.error 73)) ∧ Gr (fun _ => False) W w' := by
  have hx := Lib.hid (Sq0.new W (.slice ba m.length bc) (.slice na l.length nc) i n 0)
  have hnI : (n : Int) ≤ 4096 := by omega
  have hn0 : (0 : Int) ≤ (n : Int) := by omega
  obtain ⟨n1, hn1⟩ : ∃ n1, n + 1 = n1 := ⟨_, rfl⟩
  have hn1I : (n : Int) + 1 = (n1 : Int) := by omega
  have hn1b : (n1 : Int) ≤ 5000 := by omega
  have hn1c : (0 : Int) ≤ (n1 : Int) := by omega
  have Hn1 := Lib.hid hn1
  have Hn := Lib.hid hn
  clear hn1 hn
  have hdI : decide ((24 : Int) < d) = false := by simp; omega
  clear hd
  have hbI : decide ((4096 : Int) < (n1 : Int)) = false := by simp; omega
  have h1 := Lib.hid (fun w g => rone_ok ba bc na l.length nc i n1 m x hmx w (hq.gr (g : Gr (fun _ => False) W w) (fun _ _ e => e)))
  have hxb := hq.byte x (List.mem_of_getElem? hmx)
  have hx0 : (0 : Int) ≤ x := hxb.1
  have hx1 : x < 256 := hxb.2
  have h31 := Lib.hid (fun w (g : Gr (fun _ => False) W w) => wide_e ba bc na l.length nc m (i + 1) n1 (by have := (List.getElem?_eq_some_iff.1 hmx).1; omega) w (hq.gr g (fun _ _ e => e)))
  rw [hr] at h31
  have hgI : decide ((u : Int) ≤ 256) = false := by simp; omega
  have hgN : decide (u ≤ 256) = false := by simp; omega
  clear hb hmx hq hxb hr hx0 hx1
  subst hx3
  go_enter Tryz.func16, Tryz.ntmps16
  go_wp2_with fail
  generalize hW1 : World.alloc (World.alloc (World.alloc W _) _) _ = W1
  have H0 : Hid (Sq0 W W.heap.size (.slice ba m.length bc) (.slice na l.length nc) i n1 0 W1) := Lib.hid (hW1 ▸ Sq0.new W (.slice ba m.length bc) (.slice na l.length nc) i n1 0)
  clear hW1 hx
  refine (h1.out _ H0.out.sx.gr).mono ?_
  rintro e w1 ⟨rfl, g1⟩
  have s1 := H0.out.turn g1
  obtain ⟨⟨x0, x1, x2, x3, x4⟩, xf0, xf1, xf2, xf3, xf4⟩ := five s1.sx.st
  have l0 := (Array.getElem?_eq_some_iff.1 s1.sx.st).1
  have H1 := Lib.hid ((s1.set (Nat.le_refl _) (.slice ba m.length bc) (.slice na l.length nc) (i + 1) n1 0 ((i : Int) + 1) (by simp) (n1 : Int) rfl).term #[.int .i64 7, .int .i64 0, .complex .f64 0 0, .string e0, .int .i64 0, .int .u32 0, .int .u64 0, nl, nl] w1.heap.size (by simp))
  clear s1 g1 H0
  go_wp2_with fail
  generalize World.alloc _ _ = Y1 at H1 ⊢
  generalize w1.heap.size = tb at H1 ⊢
  clear x0 x1 x2 x3 x4 xf0 xf1 xf2 xf3 xf4 l0
  refine (h31.out _ H1.out.sx.gr).mono ?_
  rintro e w2 ⟨⟨j, hj, hjr, hu, rfl⟩, g2⟩
  have Hj := Lib.hid hj
  have Hjr := Lib.hid hjr
  have huI : (u : Int) < 18446744073709551616 := by omega
  have hu0 : (0 : Int) ≤ (u : Int) := by omega
  clear hj hjr hu
  have s2 := H1.out.turn g2
  have H2 := Lib.hid (s2.second j n1 0 ((j : Nat) : Int) (by simp) w2.heap.size rfl)
  clear s2 g2 H1
  go_wp2_with fail
  generalize World.alloc _ _ = Y2 at H2 ⊢
  generalize w2.heap.size = yb at H2 ⊢
  refine (must_no ba m.length bc na l.length nc j n1 _).mono ?_
  rintro e w3 ⟨rfl, g3⟩
  have s3 := H2.out.turn g3
  obtain ⟨⟨x0, x1, x2, x3, x4⟩, xf0, xf1, xf2, xf3, xf4⟩ := five s3.sp.sx.st
  have l0 := (Array.getElem?_eq_some_iff.1 s3.sp.sx.st).1
  have H3 := Lib.hid (s3.sp.set (Nat.le_refl _) (.slice ba m.length bc) (.slice na l.length nc) j n1 73 ((j : Nat) : Int) (by simp) (n1 : Int) rfl)
  clear s3 g3 H2
  go_wp2_with fail
  generalize World.setCell (World.setCell (World.setCell (World.setCell (World.setCell w3 _ _) _ _) _ _) _ _) _ _ = Y3 at H3 ⊢
  clear x0 x1 x2 x3 x4 xf0 xf1 xf2 xf3 xf4 l0
  go_loopw [18] (fun v wr => v = .int .u64 0 ∧ Hid (Sp W W.heap.size tb (.slice ba m.length bc) (.slice na l.length nc) j n1 73 #[.int .i64 7, .int .i64 0, .complex .f64 0 0, .string e0, .int .i64 0, .int .u32 0, .int .u64 0, nl, nl] wr)) (fun _ _ => 0)
  case atStart => exact ⟨rfl, H3⟩
  case round =>
    obtain ⟨rfl, H4⟩ := hrel
    clear H3
    have hzI : (0 : Int) < (u : Int) := by omega
    have hzN : decide (0 < u) = true := by simp; omega
    obtain ⟨⟨x0, x1, x2, x3, x4⟩, xf0, xf1, xf2, xf3, xf4⟩ := five H4.out.sx.st
    have l0 := (Array.getElem?_eq_some_iff.1 H4.out.sx.st).1
    go_wp2_with fail
    clear x0 x1 x2 x3 x4 xf0 xf1 xf2 xf3 xf4 l0
    obtain ⟨⟨x0, x1, x2, x3, x4⟩, xf0, xf1, xf2, xf3, xf4⟩ := five H4.out.sx.st
    have l0 := (Array.getElem?_eq_some_iff.1 H4.out.sx.st).1
    obtain ⟨⟨y0, y1, y2, y3, y4⟩, yf0, yf1, yf2, yf3, yf4⟩ := five H4.out.sx.out
    obtain ⟨⟨z0, z1, z2, z3, z4, z5, z6, z7, z8⟩, zf⟩ := nine H4.out.ot
    obtain ⟨⟨t0, t1, t2, t3, t4, t5, t6, t7, t8⟩, tf⟩ := nine H4.out.tm
    have l1 := (Array.getElem?_eq_some_iff.1 H4.out.sx.out).1
    have l2 := (Array.getElem?_eq_some_iff.1 H4.out.ot).1
    have l3 := (Array.getElem?_eq_some_iff.1 H4.out.tm).1
    have lt9 := H4.out.lt
    have HG := Lib.hid H4.out.sx.gr
    have lt8 : ¬ tb = W.heap.size := by omega
    have lt7 : ¬ tb = W.heap.size + 1 := by omega
    have lt6 : ¬ tb = W.heap.size + 1 + 1 := by omega
    have lt5 : ¬ W.heap.size + 1 = tb := by omega
    have lt4 : ¬ W.heap.size + 1 + 1 = tb := by omega
    go_region
    all_goals
      go_wp2
      refine bodyPost_ret (v := .tuple #[sv (.slice ba m.length bc) j n1 (.slice na l.length nc) 73, lf 7 0 0 0 e0 0 0 0]) (by simp [results, Tryz.results16, go_sem, y0, y1, y2, y3, y4, z0, z1, z2, z3, z4, z5, z6, z7, z8, l0, l1, l2]) rfl ?_
      exact ⟨⟨_, _, _, _, _, _, _, _, _, _, _, _, _, _, _, _, _, _, _, rfl⟩, ((HG.out.set5 (g := W.heap.size + 1) (Nat.le_succ _) _ _ _ _ _).set9 (g := W.heap.size + 1 + 1) (by omega) _ _ _ _ _ _ _ _ _).trans (Gr.drew _ _)⟩
end Go.Proofs.YtmohehfkbhllpaaGreat
