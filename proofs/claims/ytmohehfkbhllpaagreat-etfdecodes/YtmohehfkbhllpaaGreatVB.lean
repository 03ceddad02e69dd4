/-
  The reference's reader: a part that gives up at once.
  The reference's reader: an atom.
  The reference's reader: bytes.
  The reference's reader: bytes that are there.
-/
import Derived.Test.YtmohehfkbhllpaaGreatUM
set_option linter.unusedVariables false
set_option linter.unusedSimpArgs false
namespace Go.Proofs.YtmohehfkbhllpaaGreat
open Go.RowKit Go.Maps
variable {S S' Z : Nat → Prop} {W W1 W' : World}
set_option maxRecDepth 20000 in
set_option maxHeartbeats 800000 in
theorem part_big (ba : Option Addr) (bc : Nat) (na : Option Addr) (nc : Nat) (m : List Int) (l : List ByteArray) (i n : Nat) (d : Int) (hi : i ≤ m.length) (hn : n ≤ 4096) (W : World) (hd : d ≤ 24) (hb : n = 4096) : Calls Tryz.prog 16 #[sv (.slice ba m.length bc) i n (.slice na l.length nc) 0, .int .i64 d] W fun e w' => (EndP ba bc m W e w' (.error 21)) ∧ Gr (fun _ => False) W w' := by
  have hx := Lib.hid (Sq0.new W (.slice ba m.length bc) (.slice na l.length nc) i n 0)
  have hnI : (n : Int) ≤ 4096 := by omega
  have hn0 : (0 : Int) ≤ (n : Int) := by omega
  obtain ⟨n1, hn1⟩ : ∃ n1, n + 1 = n1 := ⟨_, rfl⟩
  have hn1I : (n : Int) + 1 = (n1 : Int) := by omega
  have hn1b : (n1 : Int) ≤ 5000 := by omega
  have hn1c : (0 : Int) ≤ (n1 : Int) := by omega
  have Hn1 := Lib.hid hn1
  have Hn := Lib.hid hn
  clear hn1 hn
  have hdI : decide ((24 : Int) < d) = false := by simp; omega
  clear hd
  have hbI : (4096 : Int) < (n1 : Int) := by omega
  clear hb
  go_enter Tryz.func16, Tryz.ntmps16
  go_wp2_with fail
  generalize hW1 : World.alloc (World.alloc (World.alloc W _) _) _ = W1
  have H0 : Hid (Sq0 W W.heap.size (.slice ba m.length bc) (.slice na l.length nc) i n1 0 W1) := Lib.hid (hW1 ▸ Sq0.new W (.slice ba m.length bc) (.slice na l.length nc) i n1 0)
  clear hW1 hx
  refine (fail_new ba m.length bc na l.length nc i n1 21 _).mono ?_
  rintro e w1 ⟨rfl, g1⟩
  have s1 := H0.out.turn g1
  obtain ⟨⟨x0, x1, x2, x3, x4⟩, xf0, xf1, xf2, xf3, xf4⟩ := five s1.sx.st
  have l0 := (Array.getElem?_eq_some_iff.1 s1.sx.st).1
  have H1 := Lib.hid (s1.set (Nat.le_refl _) (.slice ba m.length bc) (.slice na l.length nc) i n1 21 ((i : Nat) : Int) (by simp) (n1 : Int) rfl)
  clear s1 g1 H0
  go_wp2_with fail
  generalize World.setCell (World.setCell (World.setCell (World.setCell (World.setCell w1 _ _) _ _) _ _) _ _) _ _ = X2 at H1 ⊢
  clear x0 x1 x2 x3 x4 xf0 xf1 xf2 xf3 xf4 l0
  refine (one_old ba m.length bc na l.length nc i n1 21 (by decide) _).mono ?_
  rintro e w2 ⟨rfl, g2⟩
  have s2 := H1.out.turn g2
  obtain ⟨⟨x0, x1, x2, x3, x4⟩, xf0, xf1, xf2, xf3, xf4⟩ := five s2.sx.st
  have l0 := (Array.getElem?_eq_some_iff.1 s2.sx.st).1
  have H2 := Lib.hid ((s2.set (Nat.le_refl _) (.slice ba m.length bc) (.slice na l.length nc) i n1 21 ((i : Nat) : Int) (by simp) (n1 : Int) rfl).term #[.int .i64 0, .int .i64 0, .complex .f64 0 0, .string e0, .int .i64 0, .int .u32 0, .int .u64 0, nl, nl] w2.heap.size (by simp))
  clear s2 g2 H1
  go_wp2_with fail
  generalize World.alloc _ _ = Y2 at H2 ⊢
  generalize w2.heap.size = tb at H2 ⊢
  clear x0 x1 x2 x3 x4 xf0 xf1 xf2 xf3 xf4 l0
  obtain ⟨⟨x0, x1, x2, x3, x4⟩, xf0, xf1, xf2, xf3, xf4⟩ := five H2.out.sx.st
  have l0 := (Array.getElem?_eq_some_iff.1 H2.out.sx.st).1
  obtain ⟨⟨y0, y1, y2, y3, y4⟩, yf0, yf1, yf2, yf3, yf4⟩ := five H2.out.sx.out
  obtain ⟨⟨z0, z1, z2, z3, z4, z5, z6, z7, z8⟩, zf⟩ := nine H2.out.ot
  obtain ⟨⟨t0, t1, t2, t3, t4, t5, t6, t7, t8⟩, tf⟩ := nine H2.out.tm
  have l1 := (Array.getElem?_eq_some_iff.1 H2.out.sx.out).1
  have l2 := (Array.getElem?_eq_some_iff.1 H2.out.ot).1
  have l3 := (Array.getElem?_eq_some_iff.1 H2.out.tm).1
  have lt9 := H2.out.lt
  have HG := Lib.hid H2.out.sx.gr
  have lt8 : ¬ tb = W.heap.size := by omega
  have lt7 : ¬ tb = W.heap.size + 1 := by omega
  have lt6 : ¬ tb = W.heap.size + 1 + 1 := by omega
  have lt5 : ¬ W.heap.size + 1 = tb := by omega
  have lt4 : ¬ W.heap.size + 1 + 1 = tb := by omega
  go_region
  all_goals
    go_wp2
    refine bodyPost_ret (v := .tuple #[sv (.slice ba m.length bc) i n1 (.slice na l.length nc) 21, lf 0 0 0 0 e0 0 0 0]) (by simp [results, Tryz.results16, go_sem, y0, y1, y2, y3, y4, z0, z1, z2, z3, z4, z5, z6, z7, z8, l0, l1, l2]) rfl ?_
    exact ⟨⟨_, _, _, _, _, _, _, _, _, _, _, _, _, _, _, _, _, _, _, rfl⟩, ((HG.out.set5 (g := W.heap.size + 1) (Nat.le_succ _) _ _ _ _ _).set9 (g := W.heap.size + 1 + 1) (by omega) _ _ _ _ _ _ _ _ _).trans (Gr.drew _ _)⟩
set_option maxRecDepth 20000 in
set_option maxHeartbeats 800000 in
theorem part_no (ba : Option Addr) (bc : Nat) (na : Option Addr) (nc : Nat) (m : List Int) (l : List ByteArray) (i n : Nat) (d : Int) (hi : i ≤ m.length) (hn : n ≤ 4096) (W : World) (hd : d ≤ 24) (hb : n < 4096) (hm : i = m.length) : Calls Tryz.prog 16 #[sv (.slice ba m.length bc) i n (.slice na l.length nc) 0, .int .i64 d] W fun e w' => (EndP ba bc m W e w' (.error 72)) ∧ Gr (fun _ => False) W w' := by
  have hx := Lib.hid (Sq0.new W (.slice ba m.length bc) (.slice na l.length nc) i n 0)
  have hnI : (n : Int) ≤ 4096 := by omega
  have hn0 : (0 : Int) ≤ (n : Int) := by omega
  obtain ⟨n1, hn1⟩ : ∃ n1, n + 1 = n1 := ⟨_, rfl⟩
  have hn1I : (n : Int) + 1 = (n1 : Int) := by omega
  have hn1b : (n1 : Int) ≤ 5000 := by omega
  have hn1c : (0 : Int) ≤ (n1 : Int) := by omega
  have Hn1 := Lib.hid hn1
  have Hn := Lib.hid hn
  clear hn1 hn
  have hdI : decide ((24 : Int) < d) = false := by simp; omega
  clear hd
  have hbI : decide ((4096 : Int) < (n1 : Int)) = false := by simp; omega
  clear hb
  subst hm
  go_enter Tryz.func16, Tryz.ntmps16
  go_wp2_with fail
  generalize hW1 : World.alloc (World.alloc (World.alloc W _) _) _ = W1
  have H0 : Hid (Sq0 W W.heap.size (.slice ba m.length bc) (.slice na l.length nc) m.length n1 0 W1) := Lib.hid (hW1 ▸ Sq0.new W (.slice ba m.length bc) (.slice na l.length nc) m.length n1 0)
  clear hW1 hx
  refine (rone_no ba bc na l.length nc n1 m.length _).mono ?_
  rintro e w1 ⟨rfl, g1⟩
  have s1 := H0.out.turn g1
  obtain ⟨⟨x0, x1, x2, x3, x4⟩, xf0, xf1, xf2, xf3, xf4⟩ := five s1.sx.st
  have l0 := (Array.getElem?_eq_some_iff.1 s1.sx.st).1
  have H1 := Lib.hid ((s1.set (Nat.le_refl _) (.slice ba m.length bc) (.slice na l.length nc) m.length n1 72 ((m.length : Nat) : Int) (by simp) (n1 : Int) rfl).term #[.int .i64 0, .int .i64 0, .complex .f64 0 0, .string e0, .int .i64 0, .int .u32 0, .int .u64 0, nl, nl] w1.heap.size (by simp))
  clear s1 g1 H0
  go_wp2_with fail
  generalize World.alloc _ _ = Y1 at H1 ⊢
  generalize w1.heap.size = tb at H1 ⊢
  clear x0 x1 x2 x3 x4 xf0 xf1 xf2 xf3 xf4 l0
  obtain ⟨⟨x0, x1, x2, x3, x4⟩, xf0, xf1, xf2, xf3, xf4⟩ := five H1.out.sx.st
  have l0 := (Array.getElem?_eq_some_iff.1 H1.out.sx.st).1
  obtain ⟨⟨y0, y1, y2, y3, y4⟩, yf0, yf1, yf2, yf3, yf4⟩ := five H1.out.sx.out
  obtain ⟨⟨z0, z1, z2, z3, z4, z5, z6, z7, z8⟩, zf⟩ := nine H1.out.ot
  obtain ⟨⟨t0, t1, t2, t3, t4, t5, t6, t7, t8⟩, tf⟩ := nine H1.out.tm
  have l1 := (Array.getElem?_eq_some_iff.1 H1.out.sx.out).1
  have l2 := (Array.getElem?_eq_some_iff.1 H1.out.ot).1
  have l3 := (Array.getElem?_eq_some_iff.1 H1.out.tm).1
  have lt9 := H1.out.lt
  have HG := Lib.hid H1.out.sx.gr
  have lt8 : ¬ tb = W.heap.size := by omega
  have lt7 : ¬ tb = W.heap.size + 1 := by omega
  have lt6 : ¬ tb = W.heap.size + 1 + 1 := by omega
  have lt5 : ¬ W.heap.size + 1 = tb := by omega
  have lt4 : ¬ W.heap.size + 1 + 1 = tb := by omega
  go_region
  all_goals
    go_wp2
    refine bodyPost_ret (v := .tuple #[sv (.slice ba m.length bc) m.length n1 (.slice na l.length nc) 72, lf 0 0 0 0 e0 0 0 0]) (by simp [results, Tryz.results16, go_sem, y0, y1, y2, y3, y4, z0, z1, z2, z3, z4, z5, z6, z7, z8, l0, l1, l2]) rfl ?_
    exact ⟨⟨_, _, _, _, _, _, _, _, _, _, _, _, _, _, _, _, _, _, _, rfl⟩, ((HG.out.set5 (g := W.heap.size + 1) (Nat.le_succ _) _ _ _ _ _).set9 (g := W.heap.size + 1 + 1) (by omega) _ _ _ _ _ _ _ _ _).trans (Gr.drew _ _)⟩
set_option maxRecDepth 20000 in
set_option maxHeartbeats 800000 in
theorem part_other (ba : Option Addr) (bc : Nat) (na : Option Addr) (nc : Nat) (m : List Int) (l : List ByteArray) (i n : Nat) (d : Int) (hi : i ≤ m.length) (hn : n ≤ 4096) (W : World) (hd : d ≤ 24) (x : Int) (hb : n < 4096) (hmx : m[i]? = some x) (hq : Sq Z W (.slice ba m.length bc) m) (hx8 : x < 1 ∨ 8 < x) : Calls Tryz.prog 16 #[sv (.slice ba m.length bc) i n (.slice na l.length nc) 0, .int .i64 d] W fun e w' => (EndP ba bc m W e w' (.error 73)) ∧ Gr (fun _ => False) W w' := by
  have hx := Lib.hid (Sq0.new W (.slice ba m.length bc) (.slice na l.length nc) i n 0)
  have hnI : (n : Int) ≤ 4096 := by omega
  have hn0 : (0 : Int) ≤ (n : Int) := by omega
  obtain ⟨n1, hn1⟩ : ∃ n1, n + 1 = n1 := ⟨_, rfl⟩
  have hn1I : (n : Int) + 1 = (n1 : Int) := by omega
  have hn1b : (n1 : Int) ≤ 5000 := by omega
  have hn1c : (0 : Int) ≤ (n1 : Int) := by omega
  have Hn1 := Lib.hid hn1
  have Hn := Lib.hid hn
  clear hn1 hn
  have hdI : decide ((24 : Int) < d) = false := by simp; omega
  clear hd
  have hbI : decide ((4096 : Int) < (n1 : Int)) = false := by simp; omega
  have h1 := Lib.hid (fun w g => rone_ok ba bc na l.length nc i n1 m x hmx w (hq.gr (g : Gr (fun _ => False) W w) (fun _ _ e => e)))
  have hxb := hq.byte x (List.mem_of_getElem? hmx)
  have hx0 : (0 : Int) ≤ x := hxb.1
  have hx1 : x < 256 := hxb.2
  have hk1 : (x == 1) = false := by simp; omega
  have hk2 : (x == 2) = false := by simp; omega
  have hk3 : (x == 3) = false := by simp; omega
  have hk4 : (x == 4) = false := by simp; omega
  have hk5 : (x == 5) = false := by simp; omega
  have hk6 : (x == 6) = false := by simp; omega
  have hk7 : (x == 7) = false := by simp; omega
  have hk8 : (x == 8) = false := by simp; omega
  clear hb hmx hq hxb hx8
  go_enter Tryz.func16, Tryz.ntmps16
  go_wp2_with fail
  generalize hW1 : World.alloc (World.alloc (World.alloc W _) _) _ = W1
  have H0 : Hid (Sq0 W W.heap.size (.slice ba m.length bc) (.slice na l.length nc) i n1 0 W1) := Lib.hid (hW1 ▸ Sq0.new W (.slice ba m.length bc) (.slice na l.length nc) i n1 0)
  clear hW1 hx
  refine (h1.out _ H0.out.sx.gr).mono ?_
  rintro e w1 ⟨rfl, g1⟩
  have s1 := H0.out.turn g1
  obtain ⟨⟨x0, x1, x2, x3, x4⟩, xf0, xf1, xf2, xf3, xf4⟩ := five s1.sx.st
  have l0 := (Array.getElem?_eq_some_iff.1 s1.sx.st).1
  have H1 := Lib.hid ((s1.set (Nat.le_refl _) (.slice ba m.length bc) (.slice na l.length nc) (i + 1) n1 0 ((i : Int) + 1) (by simp) (n1 : Int) rfl).term #[.int .i64 x, .int .i64 0, .complex .f64 0 0, .string e0, .int .i64 0, .int .u32 0, .int .u64 0, nl, nl] w1.heap.size (by simp))
  clear s1 g1 H0
  go_wp2_with fail
  generalize World.alloc _ _ = Y1 at H1 ⊢
  generalize w1.heap.size = tb at H1 ⊢
  clear x0 x1 x2 x3 x4 xf0 xf1 xf2 xf3 xf4 l0
  refine (fail_new ba m.length bc na l.length nc (i + 1) n1 73 _).mono ?_
  rintro e w2 ⟨rfl, g2⟩
  have s2 := H1.out.turn g2
  obtain ⟨⟨x0, x1, x2, x3, x4⟩, xf0, xf1, xf2, xf3, xf4⟩ := five s2.sx.st
  have l0 := (Array.getElem?_eq_some_iff.1 s2.sx.st).1
  have H2 := Lib.hid (s2.set (Nat.le_refl _) (.slice ba m.length bc) (.slice na l.length nc) (i + 1) n1 73 ((i : Int) + 1) (by simp) (n1 : Int) rfl)
  clear s2 H1
  go_wp2_with fail
  generalize World.setCell (World.setCell (World.setCell (World.setCell (World.setCell w2 _ _) _ _) _ _) _ _) _ _ = Y2 at H2 ⊢
  clear x0 x1 x2 x3 x4 xf0 xf1 xf2 xf3 xf4 l0
  obtain ⟨⟨x0, x1, x2, x3, x4⟩, xf0, xf1, xf2, xf3, xf4⟩ := five H2.out.sx.st
  have l0 := (Array.getElem?_eq_some_iff.1 H2.out.sx.st).1
  obtain ⟨⟨y0, y1, y2, y3, y4⟩, yf0, yf1, yf2, yf3, yf4⟩ := five H2.out.sx.out
  obtain ⟨⟨z0, z1, z2, z3, z4, z5, z6, z7, z8⟩, zf⟩ := nine H2.out.ot
  obtain ⟨⟨t0, t1, t2, t3, t4, t5, t6, t7, t8⟩, tf⟩ := nine H2.out.tm
  have l1 := (Array.getElem?_eq_some_iff.1 H2.out.sx.out).1
  have l2 := (Array.getElem?_eq_some_iff.1 H2.out.ot).1
  have l3 := (Array.getElem?_eq_some_iff.1 H2.out.tm).1
  have lt9 := H2.out.lt
  have HG := Lib.hid H2.out.sx.gr
  have lt8 : ¬ tb = W.heap.size := by omega
  have lt7 : ¬ tb = W.heap.size + 1 := by omega
  have lt6 : ¬ tb = W.heap.size + 1 + 1 := by omega
  have lt5 : ¬ W.heap.size + 1 = tb := by omega
  have lt4 : ¬ W.heap.size + 1 + 1 = tb := by omega
  go_region
  all_goals
    go_wp2
    refine bodyPost_ret (v := .tuple #[sv (.slice ba m.length bc) (i + 1) n1 (.slice na l.length nc) 73, lf x 0 0 0 e0 0 0 0]) (by simp [results, Tryz.results16, go_sem, y0, y1, y2, y3, y4, z0, z1, z2, z3, z4, z5, z6, z7, z8, l0, l1, l2]) rfl ?_
    exact ⟨⟨_, _, _, _, _, _, _, _, _, _, _, _, _, _, _, _, _, _, _, rfl⟩, ((HG.out.set5 (g := W.heap.size + 1) (Nat.le_succ _) _ _ _ _ _).set9 (g := W.heap.size + 1 + 1) (by omega) _ _ _ _ _ _ _ _ _).trans (Gr.drew _ _)⟩
end Go.Proofs.YtmohehfkbhllpaaGreat

namespace Go.Proofs.YtmohehfkbhllpaaGreat
open Go.RowKit Go.Maps
variable {S S' Z : Nat → Prop} {W W1 W' : World}
set_option maxRecDepth 20000 in
set_option maxHeartbeats 800000 in
theorem part_3e (ba : Option Addr) (bc : Nat) (na : Option Addr) (nc : Nat) (m : List Int) (l : List ByteArray) (i n : Nat) (d : Int) (hi : i ≤ m.length) (hn : n ≤ 4096) (W : World) (hd : d ≤ 24) (x : Int) (hb : n < 4096) (hmx : m[i]? = some x) (hq : Sq Z W (.slice ba m.length bc) m) (hs : Snap W (.slice na l.length nc) l) (hl : l.length ≤ n) (hx3 : x = 3) (c : Int) (hr : nmq (m.drop (i + 1)) l = .error c) : Calls Tryz.prog 16 #[sv (.slice ba m.length bc) i n (.slice na l.length nc) 0, .int .i64 d] W fun e w' => (EndP ba bc m W e w' (.error c)) ∧ Gr (fun _ => False) W w' := by
  have hx := Lib.hid (Sq0.new W (.slice ba m.length bc) (.slice na l.length nc) i n 0)
  have hnI : (n : Int) ≤ 4096 := by omega
  have hn0 : (0 : Int) ≤ (n : Int) := by omega
  obtain ⟨n1, hn1⟩ : ∃ n1, n + 1 = n1 := ⟨_, rfl⟩
  have hn1I : (n : Int) + 1 = (n1 : Int) := by omega
  have hn1b : (n1 : Int) ≤ 5000 := by omega
  have hn1c : (0 : Int) ≤ (n1 : Int) := by omega
  have Hn1 := Lib.hid hn1
  have Hn := Lib.hid hn
  clear hn1 hn
  have hdI : decide ((24 : Int) < d) = false := by simp; omega
  clear hd
  have hbI : decide ((4096 : Int) < (n1 : Int)) = false := by simp; omega
  have h1 := Lib.hid (fun w g => rone_ok ba bc na l.length nc i n1 m x hmx w (hq.gr (g : Gr (fun _ => False) W w) (fun _ _ e => e)))
  have hxb := hq.byte x (List.mem_of_getElem? hmx)
  have hx0 : (0 : Int) ≤ x := hxb.1
  have hx1 : x < 256 := hxb.2
  have h36 := Lib.hid (fun w (g : Gr (fun _ => False) W w) => refname_c ba bc na nc m l (i + 1) n1 (by have := (List.getElem?_eq_some_iff.1 hmx).1; omega) (by omega) w (hq.gr g (fun _ _ e => e)) (hs.gr g (fun _ _ e => e)))
  rw [hr] at h36
  clear hb hmx hq hxb hs hr hl hx0 hx1
  subst hx3
  go_enter Tryz.func16, Tryz.ntmps16
  go_wp2_with fail
  generalize hW1 : World.alloc (World.alloc (World.alloc W _) _) _ = W1
  have H0 : Hid (Sq0 W W.heap.size (.slice ba m.length bc) (.slice na l.length nc) i n1 0 W1) := Lib.hid (hW1 ▸ Sq0.new W (.slice ba m.length bc) (.slice na l.length nc) i n1 0)
  clear hW1 hx
  refine (h1.out _ H0.out.sx.gr).mono ?_
  rintro e w1 ⟨rfl, g1⟩
  have s1 := H0.out.turn g1
  obtain ⟨⟨x0, x1, x2, x3, x4⟩, xf0, xf1, xf2, xf3, xf4⟩ := five s1.sx.st
  have l0 := (Array.getElem?_eq_some_iff.1 s1.sx.st).1
  have H1 := Lib.hid ((s1.set (Nat.le_refl _) (.slice ba m.length bc) (.slice na l.length nc) (i + 1) n1 0 ((i : Int) + 1) (by simp) (n1 : Int) rfl).term #[.int .i64 3, .int .i64 0, .complex .f64 0 0, .string e0, .int .i64 0, .int .u32 0, .int .u64 0, nl, nl] w1.heap.size (by simp))
  clear s1 g1 H0
  go_wp2_with fail
  generalize World.alloc _ _ = Y1 at H1 ⊢
  generalize w1.heap.size = tb at H1 ⊢
  clear x0 x1 x2 x3 x4 xf0 xf1 xf2 xf3 xf4 l0
  refine (h36.out _ H1.out.sx.gr).mono ?_
  rintro e w2 ⟨⟨j, s, rfl⟩, g2⟩
  have s2 := H1.out.turn g2
  obtain ⟨⟨x0, x1, x2, x3, x4⟩, xf0, xf1, xf2, xf3, xf4⟩ := five s2.sx.st
  have l0 := (Array.getElem?_eq_some_iff.1 s2.sx.st).1
  obtain ⟨⟨t0, t1, t2, t3, t4, t5, t6, t7, t8⟩, tf⟩ := nine s2.tm
  have tfX := tf 3
  have l3 := (Array.getElem?_eq_some_iff.1 s2.tm).1
  have lt8 : ¬ tb = W.heap.size := by have := s2.lt; omega
  have lt5 : ¬ W.heap.size = tb := by have := s2.lt; omega
  have H2 : Hid (Sp W W.heap.size tb (.slice ba m.length bc) (.slice na l.length nc) j n1 c #[.int .i64 3, .int .i64 0, .complex .f64 0 0, .string s, .int .i64 0, .int .u32 0, .int .u64 0, nl, nl] _) := Lib.hid ((s2.set (Nat.le_refl _) (.slice ba m.length bc) (.slice na l.length nc) j n1 c ((j : Nat) : Int) (by simp) (n1 : Int) rfl).cell (Nat.le_refl _) 3 (.string s))
  clear s2 g2 H1
  go_wp2_with fail
  generalize World.setCell _ ⟨tb, 3, none⟩ (.string s) = Y2 at H2 ⊢
  clear x0 x1 x2 x3 x4 xf0 xf1 xf2 xf3 xf4 l0
  clear t0 t1 t2 t3 t4 t5 t6 t7 t8 tf tfX l3 lt8 lt5
  obtain ⟨⟨x0, x1, x2, x3, x4⟩, xf0, xf1, xf2, xf3, xf4⟩ := five H2.out.sx.st
  have l0 := (Array.getElem?_eq_some_iff.1 H2.out.sx.st).1
  obtain ⟨⟨y0, y1, y2, y3, y4⟩, yf0, yf1, yf2, yf3, yf4⟩ := five H2.out.sx.out
  obtain ⟨⟨z0, z1, z2, z3, z4, z5, z6, z7, z8⟩, zf⟩ := nine H2.out.ot
  obtain ⟨⟨t0, t1, t2, t3, t4, t5, t6, t7, t8⟩, tf⟩ := nine H2.out.tm
  have l1 := (Array.getElem?_eq_some_iff.1 H2.out.sx.out).1
  have l2 := (Array.getElem?_eq_some_iff.1 H2.out.ot).1
  have l3 := (Array.getElem?_eq_some_iff.1 H2.out.tm).1
  have lt9 := H2.out.lt
  have HG := Lib.hid H2.out.sx.gr
  have lt8 : ¬ tb = W.heap.size := by omega
  have lt7 : ¬ tb = W.heap.size + 1 := by omega
  have lt6 : ¬ tb = W.heap.size + 1 + 1 := by omega
  have lt5 : ¬ W.heap.size + 1 = tb := by omega
  have lt4 : ¬ W.heap.size + 1 + 1 = tb := by omega
  go_region
  all_goals
    go_wp2
    refine bodyPost_ret (v := .tuple #[sv (.slice ba m.length bc) j n1 (.slice na l.length nc) c, lf 3 0 0 0 s 0 0 0]) (by simp [results, Tryz.results16, go_sem, y0, y1, y2, y3, y4, z0, z1, z2, z3, z4, z5, z6, z7, z8, l0, l1, l2]) rfl ?_
    exact ⟨⟨_, _, _, _, _, _, _, _, _, _, _, _, _, _, _, _, _, _, _, rfl⟩, ((HG.out.set5 (g := W.heap.size + 1) (Nat.le_succ _) _ _ _ _ _).set9 (g := W.heap.size + 1 + 1) (by omega) _ _ _ _ _ _ _ _ _).trans (Gr.drew _ _)⟩
set_option maxRecDepth 20000 in
set_option maxHeartbeats 800000 in
theorem part_3o (ba : Option Addr) (bc : Nat) (na : Option Addr) (nc : Nat) (m : List Int) (l : List ByteArray) (i n : Nat) (d : Int) (hi : i ≤ m.length) (hn : n ≤ 4096) (W : World) (hd : d ≤ 24) (x : Int) (hb : n < 4096) (hmx : m[i]? = some x) (hq : Sq Z W (.slice ba m.length bc) m) (hs : Snap W (.slice na l.length nc) l) (hl : l.length ≤ n) (hx3 : x = 3) (s : ByteArray) (r : List Int) (l' : List ByteArray) (hr : nmq (m.drop (i + 1)) l = .ok (s, r, l')) (hl' : l'.length ≤ l.length + 1) : Calls Tryz.prog 16 #[sv (.slice ba m.length bc) i n (.slice na l.length nc) 0, .int .i64 d] W fun e w' => (EndP ba bc m W e w' (.ok (.mk { k := 3, s := s } [] [], r, n + 1, l'))) ∧ Gr (fun _ => False) W w' := by
  have hx := Lib.hid (Sq0.new W (.slice ba m.length bc) (.slice na l.length nc) i n 0)
  have hnI : (n : Int) ≤ 4096 := by omega
  have hn0 : (0 : Int) ≤ (n : Int) := by omega
  obtain ⟨n1, hn1⟩ : ∃ n1, n + 1 = n1 := ⟨_, rfl⟩
  have hn1I : (n : Int) + 1 = (n1 : Int) := by omega
  have hn1b : (n1 : Int) ≤ 5000 := by omega
  have hn1c : (0 : Int) ≤ (n1 : Int) := by omega
  have Hn1 := Lib.hid hn1
  have Hn := Lib.hid hn
  clear hn1 hn
  have hdI : decide ((24 : Int) < d) = false := by simp; omega
  clear hd
  have hbI : decide ((4096 : Int) < (n1 : Int)) = false := by simp; omega
  have h1 := Lib.hid (fun w g => rone_ok ba bc na l.length nc i n1 m x hmx w (hq.gr (g : Gr (fun _ => False) W w) (fun _ _ e => e)))
  have hxb := hq.byte x (List.mem_of_getElem? hmx)
  have hx0 : (0 : Int) ≤ x := hxb.1
  have hx1 : x < 256 := hxb.2
  have h36 := Lib.hid (fun w (g : Gr (fun _ => False) W w) => refname_c ba bc na nc m l (i + 1) n1 (by have := (List.getElem?_eq_some_iff.1 hmx).1; omega) (by omega) w (hq.gr g (fun _ _ e => e)) (hs.gr g (fun _ _ e => e)))
  rw [hr] at h36
  have Hn4 : Hid (n + 1 ≤ 4096) := Lib.hid hb
  have Hl4 : Hid (l'.length ≤ n + 1) := Lib.hid (by omega)
  clear hb hmx hq hxb hs hr hx0 hx1 hl hl'
  subst hx3
  go_enter Tryz.func16, Tryz.ntmps16
  go_wp2_with fail
  generalize hW1 : World.alloc (World.alloc (World.alloc W _) _) _ = W1
  have H0 : Hid (Sq0 W W.heap.size (.slice ba m.length bc) (.slice na l.length nc) i n1 0 W1) := Lib.hid (hW1 ▸ Sq0.new W (.slice ba m.length bc) (.slice na l.length nc) i n1 0)
  clear hW1 hx
  refine (h1.out _ H0.out.sx.gr).mono ?_
  rintro e w1 ⟨rfl, g1⟩
  have s1 := H0.out.turn g1
  obtain ⟨⟨x0, x1, x2, x3, x4⟩, xf0, xf1, xf2, xf3, xf4⟩ := five s1.sx.st
  have l0 := (Array.getElem?_eq_some_iff.1 s1.sx.st).1
  have H1 := Lib.hid ((s1.set (Nat.le_refl _) (.slice ba m.length bc) (.slice na l.length nc) (i + 1) n1 0 ((i : Int) + 1) (by simp) (n1 : Int) rfl).term #[.int .i64 3, .int .i64 0, .complex .f64 0 0, .string e0, .int .i64 0, .int .u32 0, .int .u64 0, nl, nl] w1.heap.size (by simp))
  clear s1 g1 H0
  go_wp2_with fail
  generalize World.alloc _ _ = Y1 at H1 ⊢
  generalize w1.heap.size = tb at H1 ⊢
  clear x0 x1 x2 x3 x4 xf0 xf1 xf2 xf3 xf4 l0
  refine (h36.out _ H1.out.sx.gr).mono ?_
  rintro e w2 ⟨⟨j, na', nc', hj, hjr, rfl, hsn⟩, g2⟩
  have Hj := Lib.hid hj
  have Hjr := Lib.hid hjr
  have s2 := H1.out.turn g2
  have SNP : Hid (Snap _ (.slice na' l'.length nc') l') := Lib.hid (s2.snap hsn (((Gr.own5 w2 W.heap.size (.slice ba m.length bc) (.int .i64 ((j : Nat) : Int)) (.int .i64 (n1 : Int)) (.slice na' l'.length nc') (.int .i64 0)).mono (fun _ _ e => .inl e)).trans ((own1 _ tb 3 (.string s)).mono (fun _ _ e => .inr (.inr (.inr e))))))
  clear hj hjr hsn
  obtain ⟨⟨x0, x1, x2, x3, x4⟩, xf0, xf1, xf2, xf3, xf4⟩ := five s2.sx.st
  have l0 := (Array.getElem?_eq_some_iff.1 s2.sx.st).1
  obtain ⟨⟨t0, t1, t2, t3, t4, t5, t6, t7, t8⟩, tf⟩ := nine s2.tm
  have tfX := tf 3
  have l3 := (Array.getElem?_eq_some_iff.1 s2.tm).1
  have lt8 : ¬ tb = W.heap.size := by have := s2.lt; omega
  have lt5 : ¬ W.heap.size = tb := by have := s2.lt; omega
  have H2 : Hid (Sp W W.heap.size tb (.slice ba m.length bc) (.slice na' l'.length nc') j n1 0 #[.int .i64 3, .int .i64 0, .complex .f64 0 0, .string s, .int .i64 0, .int .u32 0, .int .u64 0, nl, nl] _) := Lib.hid ((s2.set (Nat.le_refl _) (.slice ba m.length bc) (.slice na' l'.length nc') j n1 0 ((j : Nat) : Int) (by simp) (n1 : Int) rfl).cell (Nat.le_refl _) 3 (.string s))
  clear s2 g2 H1
  go_wp2_with fail
  generalize World.setCell _ ⟨tb, 3, none⟩ (.string s) = Y2 at H2 SNP ⊢
  clear x0 x1 x2 x3 x4 xf0 xf1 xf2 xf3 xf4 l0
  clear t0 t1 t2 t3 t4 t5 t6 t7 t8 tf tfX l3 lt8 lt5
  obtain ⟨⟨x0, x1, x2, x3, x4⟩, xf0, xf1, xf2, xf3, xf4⟩ := five H2.out.sx.st
  have l0 := (Array.getElem?_eq_some_iff.1 H2.out.sx.st).1
  obtain ⟨⟨y0, y1, y2, y3, y4⟩, yf0, yf1, yf2, yf3, yf4⟩ := five H2.out.sx.out
  obtain ⟨⟨z0, z1, z2, z3, z4, z5, z6, z7, z8⟩, zf⟩ := nine H2.out.ot
  obtain ⟨⟨t0, t1, t2, t3, t4, t5, t6, t7, t8⟩, tf⟩ := nine H2.out.tm
  have l1 := (Array.getElem?_eq_some_iff.1 H2.out.sx.out).1
  have l2 := (Array.getElem?_eq_some_iff.1 H2.out.ot).1
  have l3 := (Array.getElem?_eq_some_iff.1 H2.out.tm).1
  have lt9 := H2.out.lt
  have HG := Lib.hid H2.out.sx.gr
  have lt8 : ¬ tb = W.heap.size := by omega
  have lt7 : ¬ tb = W.heap.size + 1 := by omega
  have lt6 : ¬ tb = W.heap.size + 1 + 1 := by omega
  have lt5 : ¬ W.heap.size + 1 = tb := by omega
  have lt4 : ¬ W.heap.size + 1 + 1 = tb := by omega
  go_region
  all_goals
    go_wp2
    refine bodyPost_ret (v := .tuple #[sv (.slice ba m.length bc) j n1 (.slice na' l'.length nc') 0, lf 3 0 0 0 s 0 0 0]) (by simp [results, Tryz.results16, go_sem, y0, y1, y2, y3, y4, z0, z1, z2, z3, z4, z5, z6, z7, z8, l0, l1, l2]) rfl ?_
    refine ⟨⟨j, _, _, _, Hj.out, Hjr.out, by rw [← Hn1.out], ⟨_, _, [], rfl, .inl ⟨rfl, _, _, rfl⟩, .inl ⟨rfl, _, _, rfl⟩, rfl⟩, ?_, Hn4.out, Hl4.out⟩, ((HG.out.set5 (g := W.heap.size + 1) (Nat.le_succ _) _ _ _ _ _).set9 (g := W.heap.size + 1 + 1) (by omega) _ _ _ _ _ _ _ _ _).trans (Gr.drew _ _)⟩
    exact H2.out.snap SNP.out ((((Gr.own5 _ (W.heap.size + 1) _ _ _ _ _).mono (fun _ _ e => .inr (.inl e))).trans ((Gr.own9 _ (W.heap.size + 1 + 1) _ _ _ _ _ _ _ _ _).mono (fun _ _ e => .inr (.inr (.inl e))))).trans (Gr.drew _ _))
end Go.Proofs.YtmohehfkbhllpaaGreat

namespace Go.Proofs.YtmohehfkbhllpaaGreat
open Go.RowKit Go.Maps
variable {S S' Z : Nat → Prop} {W W1 W' : World}
theorem Sp.cnt {N tb : Nat} {bv nv : Value} {i n : Nat} {c : Int} {T : Array Value} {X : World} (hN : W.heap.size ≤ N) (h : Sp W N tb bv nv i n c T X) (z : Int) (k : Nat) (hz : z = (k : Int)) : Sp W N tb bv nv i k c T (X.setCell ⟨N, 2, none⟩ (.int .i64 z)) := by
  subst hz
  have hl := h.lt
  exact ⟨⟨heap_setCell_same X _ 2 _ 51 _ h.sx.st, (own1 X N 2 _).keep h.sx.out (by omega), h.sx.gr.trans' (own1 X N 2 _) (fun i hi e => by omega)⟩, (own1 X N 2 _).keep h.ot (by omega), (own1 X N 2 _).keep h.tm (by omega), h.lt⟩
theorem Ob.rowB {base : Nat} {v : Value} {l : List Int} (h : Ob base W v l) : RowB (fun k => base ≤ k) W l v := by
  rcases h.row.2 with ⟨h1, h2⟩ | ⟨g, cap, cur, rfl, hb, hg, hc, hm, h5, h6⟩
  · exact .inl ⟨List.eq_nil_of_length_eq_zero h2, _, _, h1⟩
  · exact .inr ⟨g, cap, cur, rfl, hb, hg, hc, by simpa [u8s] using h6⟩
set_option maxRecDepth 20000 in
set_option maxHeartbeats 800000 in
theorem part_8e (ba : Option Addr) (bc : Nat) (na : Option Addr) (nc : Nat) (m : List Int) (l : List ByteArray) (i n : Nat) (d : Int) (hi : i ≤ m.length) (hn : n ≤ 4096) (W : World) (hd : d ≤ 24) (x : Int) (hb : n < 4096) (hmx : m[i]? = some x) (hq : Sq Z W (.slice ba m.length bc) m) (hx3 : x = 8) (c : Int) (hr : nmb 10 0 0 (m.drop (i + 1)) = .error c) : Calls Tryz.prog 16 #[sv (.slice ba m.length bc) i n (.slice na l.length nc) 0, .int .i64 d] W fun e w' => (EndP ba bc m W e w' (.error c)) ∧ Gr (fun _ => False) W w' := by
  have hx := Lib.hid (Sq0.new W (.slice ba m.length bc) (.slice na l.length nc) i n 0)
  have hnI : (n : Int) ≤ 4096 := by omega
  have hn0 : (0 : Int) ≤ (n : Int) := by omega
  obtain ⟨n1, hn1⟩ : ∃ n1, n + 1 = n1 := ⟨_, rfl⟩
  have hn1I : (n : Int) + 1 = (n1 : Int) := by omega
  have hn1b : (n1 : Int) ≤ 5000 := by omega
  have hn1c : (0 : Int) ≤ (n1 : Int) := by omega
  have Hn1 := Lib.hid hn1
  have Hn := Lib.hid hn
  clear hn1 hn
  have hdI : decide ((24 : Int) < d) = false := by simp; omega
  clear hd
  have hbI : decide ((4096 : Int) < (n1 : Int)) = false := by simp; omega
  have h1 := Lib.hid (fun w g => rone_ok ba bc na l.length nc i n1 m x hmx w (hq.gr (g : Gr (fun _ => False) W w) (fun _ _ e => e)))
  have hxb := hq.byte x (List.mem_of_getElem? hmx)
  have hx0 : (0 : Int) ≤ x := hxb.1
  have hx1 : x < 256 := hxb.2
  have h31 := Lib.hid (fun w (g : Gr (fun _ => False) W w) => wide_c ba bc na l.length nc m (i + 1) n1 (by have := (List.getElem?_eq_some_iff.1 hmx).1; omega) w (hq.gr g (fun _ _ e => e)))
  rw [hr] at h31
  have hc := nmb_er _ _ _ _ _ hr
  clear hb hmx hq hxb hr hx0 hx1
  subst hx3
  go_enter Tryz.func16, Tryz.ntmps16
  go_wp2_with fail
  generalize hW1 : World.alloc (World.alloc (World.alloc W _) _) _ = W1
  have H0 : Hid (Sq0 W W.heap.size (.slice ba m.length bc) (.slice na l.length nc) i n1 0 W1) := Lib.hid (hW1 ▸ Sq0.new W (.slice ba m.length bc) (.slice na l.length nc) i n1 0)
  clear hW1 hx
  refine (h1.out _ H0.out.sx.gr).mono ?_
  rintro e w1 ⟨rfl, g1⟩
  have s1 := H0.out.turn g1
  obtain ⟨⟨x0, x1, x2, x3, x4⟩, xf0, xf1, xf2, xf3, xf4⟩ := five s1.sx.st
  have l0 := (Array.getElem?_eq_some_iff.1 s1.sx.st).1
  have H1 := Lib.hid ((s1.set (Nat.le_refl _) (.slice ba m.length bc) (.slice na l.length nc) (i + 1) n1 0 ((i : Int) + 1) (by simp) (n1 : Int) rfl).term #[.int .i64 8, .int .i64 0, .complex .f64 0 0, .string e0, .int .i64 0, .int .u32 0, .int .u64 0, nl, nl] w1.heap.size (by simp))
  clear s1 g1 H0
  go_wp2_with fail
  generalize World.alloc _ _ = Y1 at H1 ⊢
  generalize w1.heap.size = tb at H1 ⊢
  clear x0 x1 x2 x3 x4 xf0 xf1 xf2 xf3 xf4 l0
  refine (h31.out _ H1.out.sx.gr).mono ?_
  rintro e w2 ⟨⟨j, u, rfl⟩, g2⟩
  have s2 := H1.out.turn g2
  obtain ⟨⟨x0, x1, x2, x3, x4⟩, xf0, xf1, xf2, xf3, xf4⟩ := five s2.sx.st
  have l0 := (Array.getElem?_eq_some_iff.1 s2.sx.st).1
  have H2 := Lib.hid ((s2.set (Nat.le_refl _) (.slice ba m.length bc) (.slice na l.length nc) j n1 c ((j : Nat) : Int) (by simp) (n1 : Int) rfl).turn (Gr.alloc _ (.cells #[(.slice ba m.length bc), .int .i64 ((j : Nat) : Int), .int .i64 (n1 : Int), (.slice na l.length nc), .int .i64 c] 51) _))
  clear s2 g2 H1
  go_wp2_with fail
  generalize World.alloc _ _ = Y2 at H2 ⊢
  clear x0 x1 x2 x3 x4 xf0 xf1 xf2 xf3 xf4 l0
  obtain ⟨⟨x0, x1, x2, x3, x4⟩, xf0, xf1, xf2, xf3, xf4⟩ := five H2.out.sx.st
  have l0 := (Array.getElem?_eq_some_iff.1 H2.out.sx.st).1
  obtain ⟨⟨y0, y1, y2, y3, y4⟩, yf0, yf1, yf2, yf3, yf4⟩ := five H2.out.sx.out
  obtain ⟨⟨z0, z1, z2, z3, z4, z5, z6, z7, z8⟩, zf⟩ := nine H2.out.ot
  obtain ⟨⟨t0, t1, t2, t3, t4, t5, t6, t7, t8⟩, tf⟩ := nine H2.out.tm
  have l1 := (Array.getElem?_eq_some_iff.1 H2.out.sx.out).1
  have l2 := (Array.getElem?_eq_some_iff.1 H2.out.ot).1
  have l3 := (Array.getElem?_eq_some_iff.1 H2.out.tm).1
  have lt9 := H2.out.lt
  have HG := Lib.hid H2.out.sx.gr
  have lt8 : ¬ tb = W.heap.size := by omega
  have lt7 : ¬ tb = W.heap.size + 1 := by omega
  have lt6 : ¬ tb = W.heap.size + 1 + 1 := by omega
  have lt5 : ¬ W.heap.size + 1 = tb := by omega
  have lt4 : ¬ W.heap.size + 1 + 1 = tb := by omega
  go_region
  all_goals
    go_wp2
    refine bodyPost_ret (v := .tuple #[sv (.slice ba m.length bc) j n1 (.slice na l.length nc) c, lf 8 0 0 0 e0 0 0 0]) (by simp [results, Tryz.results16, go_sem, y0, y1, y2, y3, y4, z0, z1, z2, z3, z4, z5, z6, z7, z8, l0, l1, l2]) rfl ?_
    exact ⟨⟨_, _, _, _, _, _, _, _, _, _, _, _, _, _, _, _, _, _, _, rfl⟩, ((HG.out.set5 (g := W.heap.size + 1) (Nat.le_succ _) _ _ _ _ _).set9 (g := W.heap.size + 1 + 1) (by omega) _ _ _ _ _ _ _ _ _).trans (Gr.drew _ _)⟩
set_option maxRecDepth 20000 in
set_option maxHeartbeats 800000 in
theorem part_8b (ba : Option Addr) (bc : Nat) (na : Option Addr) (nc : Nat) (m : List Int) (l : List ByteArray) (i n : Nat) (d : Int) (hi : i ≤ m.length) (hn : n ≤ 4096) (W : World) (hd : d ≤ 24) (x : Int) (hb : n < 4096) (hmx : m[i]? = some x) (hq : Sq Z W (.slice ba m.length bc) m) (hx3 : x = 8) (u : Nat) (r : List Int) (hr : nmb 10 0 0 (m.drop (i + 1)) = .ok (u, r)) (hg : 4096 - (n + 1) < u) : Calls Tryz.prog 16 #[sv (.slice ba m.length bc) i n (.slice na l.length nc) 0, .int .i64 d] W fun e w' => (EndP ba bc m W e w' (.error 21)) ∧ Gr (fun _ => False) W w' := by
  have hx := Lib.hid (Sq0.new W (.slice ba m.length bc) (.slice na l.length nc) i n 0)
  have hnI : (n : Int) ≤ 4096 := by omega
  have hn0 : (0 : Int) ≤ (n : Int) := by omega
  obtain ⟨n1, hn1⟩ : ∃ n1, n + 1 = n1 := ⟨_, rfl⟩
  have hn1I : (n : Int) + 1 = (n1 : Int) := by omega
  have hn1b : (n1 : Int) ≤ 5000 := by omega
  have hn1c : (0 : Int) ≤ (n1 : Int) := by omega
  have Hn1 := Lib.hid hn1
  have Hn := Lib.hid hn
  clear hn1 hn
  have hdI : decide ((24 : Int) < d) = false := by simp; omega
  clear hd
  have hbI : decide ((4096 : Int) < (n1 : Int)) = false := by simp; omega
  have h1 := Lib.hid (fun w g => rone_ok ba bc na l.length nc i n1 m x hmx w (hq.gr (g : Gr (fun _ => False) W w) (fun _ _ e => e)))
  have hxb := hq.byte x (List.mem_of_getElem? hmx)
  have hx0 : (0 : Int) ≤ x := hxb.1
  have hx1 : x < 256 := hxb.2
  have h31 := Lib.hid (fun w (g : Gr (fun _ => False) W w) => wide_c ba bc na l.length nc m (i + 1) n1 (by have := (List.getElem?_eq_some_iff.1 hmx).1; omega) w (hq.gr g (fun _ _ e => e)))
  rw [hr] at h31
  have hgI : (4096 : Int) - (n1 : Int) < (u : Int) := by omega
  have hn1d : (n1 : Int) ≤ 4096 := by omega
  clear hb hmx hq hxb hr hx0 hx1 hg
  subst hx3
  go_enter Tryz.func16, Tryz.ntmps16
  go_wp2_with fail
  generalize hW1 : World.alloc (World.alloc (World.alloc W _) _) _ = W1
  have H0 : Hid (Sq0 W W.heap.size (.slice ba m.length bc) (.slice na l.length nc) i n1 0 W1) := Lib.hid (hW1 ▸ Sq0.new W (.slice ba m.length bc) (.slice na l.length nc) i n1 0)
  clear hW1 hx
  refine (h1.out _ H0.out.sx.gr).mono ?_
  rintro e w1 ⟨rfl, g1⟩
  have s1 := H0.out.turn g1
  obtain ⟨⟨x0, x1, x2, x3, x4⟩, xf0, xf1, xf2, xf3, xf4⟩ := five s1.sx.st
  have l0 := (Array.getElem?_eq_some_iff.1 s1.sx.st).1
  have H1 := Lib.hid ((s1.set (Nat.le_refl _) (.slice ba m.length bc) (.slice na l.length nc) (i + 1) n1 0 ((i : Int) + 1) (by simp) (n1 : Int) rfl).term #[.int .i64 8, .int .i64 0, .complex .f64 0 0, .string e0, .int .i64 0, .int .u32 0, .int .u64 0, nl, nl] w1.heap.size (by simp))
  clear s1 g1 H0
  go_wp2_with fail
  generalize World.alloc _ _ = Y1 at H1 ⊢
  generalize w1.heap.size = tb at H1 ⊢
  clear x0 x1 x2 x3 x4 xf0 xf1 xf2 xf3 xf4 l0
  refine (h31.out _ H1.out.sx.gr).mono ?_
  rintro e w2 ⟨⟨j, hj, hjr, hu, rfl⟩, g2⟩
  have Hj := Lib.hid hj
  have Hjr := Lib.hid hjr
  have huI : (u : Int) < 18446744073709551616 := by omega
  have hu0 : (0 : Int) ≤ (u : Int) := by omega
  clear hj hjr hu
  have s2 := H1.out.turn g2
  obtain ⟨⟨x0, x1, x2, x3, x4⟩, xf0, xf1, xf2, xf3, xf4⟩ := five s2.sx.st
  have l0 := (Array.getElem?_eq_some_iff.1 s2.sx.st).1
  have H2 := Lib.hid ((s2.set (Nat.le_refl _) (.slice ba m.length bc) (.slice na l.length nc) j n1 0 ((j : Nat) : Int) (by simp) (n1 : Int) rfl).turn (Gr.alloc _ (.cells #[(.slice ba m.length bc), .int .i64 ((j : Nat) : Int), .int .i64 (n1 : Int), (.slice na l.length nc), .int .i64 0] 51) _))
  clear s2 g2 H1
  go_wp2_with fail
  generalize World.alloc _ _ = Y2 at H2 ⊢
  clear x0 x1 x2 x3 x4 xf0 xf1 xf2 xf3 xf4 l0
  refine (fail_new ba m.length bc na l.length nc j n1 21 _).mono ?_
  rintro e w3 ⟨rfl, g3⟩
  have s3 := H2.out.turn g3
  obtain ⟨⟨x0, x1, x2, x3, x4⟩, xf0, xf1, xf2, xf3, xf4⟩ := five s3.sx.st
  have l0 := (Array.getElem?_eq_some_iff.1 s3.sx.st).1
  have H3 := Lib.hid (s3.set (Nat.le_refl _) (.slice ba m.length bc) (.slice na l.length nc) j n1 21 ((j : Nat) : Int) (by simp) (n1 : Int) rfl)
  clear s3 H2
  go_wp2_with fail
  generalize World.setCell (World.setCell (World.setCell (World.setCell (World.setCell w3 _ _) _ _) _ _) _ _) _ _ = Y3 at H3 ⊢
  clear x0 x1 x2 x3 x4 xf0 xf1 xf2 xf3 xf4 l0
  obtain ⟨⟨x0, x1, x2, x3, x4⟩, xf0, xf1, xf2, xf3, xf4⟩ := five H3.out.sx.st
  have l0 := (Array.getElem?_eq_some_iff.1 H3.out.sx.st).1
  obtain ⟨⟨y0, y1, y2, y3, y4⟩, yf0, yf1, yf2, yf3, yf4⟩ := five H3.out.sx.out
  obtain ⟨⟨z0, z1, z2, z3, z4, z5, z6, z7, z8⟩, zf⟩ := nine H3.out.ot
  obtain ⟨⟨t0, t1, t2, t3, t4, t5, t6, t7, t8⟩, tf⟩ := nine H3.out.tm
  have l1 := (Array.getElem?_eq_some_iff.1 H3.out.sx.out).1
  have l2 := (Array.getElem?_eq_some_iff.1 H3.out.ot).1
  have l3 := (Array.getElem?_eq_some_iff.1 H3.out.tm).1
  have lt9 := H3.out.lt
  have HG := Lib.hid H3.out.sx.gr
  have lt8 : ¬ tb = W.heap.size := by omega
  have lt7 : ¬ tb = W.heap.size + 1 := by omega
  have lt6 : ¬ tb = W.heap.size + 1 + 1 := by omega
  have lt5 : ¬ W.heap.size + 1 = tb := by omega
  have lt4 : ¬ W.heap.size + 1 + 1 = tb := by omega
  go_region
  all_goals
    go_wp2
    refine bodyPost_ret (v := .tuple #[sv (.slice ba m.length bc) j n1 (.slice na l.length nc) 21, lf 8 0 0 0 e0 0 0 0]) (by simp [results, Tryz.results16, go_sem, y0, y1, y2, y3, y4, z0, z1, z2, z3, z4, z5, z6, z7, z8, l0, l1, l2]) rfl ?_
    exact ⟨⟨_, _, _, _, _, _, _, _, _, _, _, _, _, _, _, _, _, _, _, rfl⟩, ((HG.out.set5 (g := W.heap.size + 1) (Nat.le_succ _) _ _ _ _ _).set9 (g := W.heap.size + 1 + 1) (by omega) _ _ _ _ _ _ _ _ _).trans (Gr.drew _ _)⟩
set_option maxRecDepth 20000 in
set_option maxHeartbeats 800000 in
theorem part_8s (ba : Option Addr) (bc : Nat) (na : Option Addr) (nc : Nat) (m : List Int) (l : List ByteArray) (i n : Nat) (d : Int) (hi : i ≤ m.length) (hn : n ≤ 4096) (W : World) (hd : d ≤ 24) (x : Int) (hb : n < 4096) (hmx : m[i]? = some x) (hq : Sq Z W (.slice ba m.length bc) m) (hx3 : x = 8) (u : Nat) (r : List Int) (hr : nmb 10 0 0 (m.drop (i + 1)) = .ok (u, r)) (hg : u ≤ 4096 - (n + 1)) (hsh : r.length < u) : Calls Tryz.prog 16 #[sv (.slice ba m.length bc) i n (.slice na l.length nc) 0, .int .i64 d] W fun e w' => (EndP ba bc m W e w' (.error 72)) ∧ Gr (fun _ => False) W w' := by
  have hx := Lib.hid (Sq0.new W (.slice ba m.length bc) (.slice na l.length nc) i n 0)
  have hnI : (n : Int) ≤ 4096 := by omega
  have hn0 : (0 : Int) ≤ (n : Int) := by omega
  obtain ⟨n1, hn1⟩ : ∃ n1, n + 1 = n1 := ⟨_, rfl⟩
  have hn1I : (n : Int) + 1 = (n1 : Int) := by omega
  have hn1b : (n1 : Int) ≤ 5000 := by omega
  have hn1c : (0 : Int) ≤ (n1 : Int) := by omega
  have Hn1 := Lib.hid hn1
  have Hn := Lib.hid hn
  clear hn1 hn
  have hdI : decide ((24 : Int) < d) = false := by simp; omega
  clear hd
  have hbI : decide ((4096 : Int) < (n1 : Int)) = false := by simp; omega
  have h1 := Lib.hid (fun w g => rone_ok ba bc na l.length nc i n1 m x hmx w (hq.gr (g : Gr (fun _ => False) W w) (fun _ _ e => e)))
  have hxb := hq.byte x (List.mem_of_getElem? hmx)
  have hx0 : (0 : Int) ≤ x := hxb.1
  have hx1 : x < 256 := hxb.2
  have h31 := Lib.hid (fun w (g : Gr (fun _ => False) W w) => wide_c ba bc na l.length nc m (i + 1) n1 (by have := (List.getElem?_eq_some_iff.1 hmx).1; omega) w (hq.gr g (fun _ _ e => e)))
  rw [hr] at h31
  have hgI : decide ((4096 : Int) - (n1 : Int) < (u : Int)) = false := by simp; omega
  have hn1d : (n1 : Int) ≤ 4096 := by omega
  have huS : (u : Int) ≤ 4096 := by omega
  obtain ⟨n2, hn2⟩ : ∃ n2, n1 + u = n2 := ⟨_, rfl⟩
  have hn2I : (n1 : Int) + (u : Int) = (n2 : Int) := by omega
  have hn2b : (n2 : Int) ≤ 4096 := by omega
  have Hn2 := Lib.hid hn2
  have h34 := Lib.hid (fun w (g : Gr (fun _ => False) W w) (j : Nat) (hj : j ≤ m.length) => some_c ba bc na l.length nc m j n2 u hj (by omega) w (hq.gr g (fun _ _ e => e)))
  have Hsh := Lib.hid hsh
  clear hb hmx hq hxb hr hx0 hx1 hg hn2 hsh
  subst hx3
  go_enter Tryz.func16, Tryz.ntmps16
  go_wp2_with fail
  generalize hW1 : World.alloc (World.alloc (World.alloc W _) _) _ = W1
  have H0 : Hid (Sq0 W W.heap.size (.slice ba m.length bc) (.slice na l.length nc) i n1 0 W1) := Lib.hid (hW1 ▸ Sq0.new W (.slice ba m.length bc) (.slice na l.length nc) i n1 0)
  clear hW1 hx
  refine (h1.out _ H0.out.sx.gr).mono ?_
  rintro e w1 ⟨rfl, g1⟩
  have s1 := H0.out.turn g1
  obtain ⟨⟨x0, x1, x2, x3, x4⟩, xf0, xf1, xf2, xf3, xf4⟩ := five s1.sx.st
  have l0 := (Array.getElem?_eq_some_iff.1 s1.sx.st).1
  have H1 := Lib.hid ((s1.set (Nat.le_refl _) (.slice ba m.length bc) (.slice na l.length nc) (i + 1) n1 0 ((i : Int) + 1) (by simp) (n1 : Int) rfl).term #[.int .i64 8, .int .i64 0, .complex .f64 0 0, .string e0, .int .i64 0, .int .u32 0, .int .u64 0, nl, nl] w1.heap.size (by simp))
  clear s1 g1 H0
  go_wp2_with fail
  generalize World.alloc _ _ = Y1 at H1 ⊢
  generalize w1.heap.size = tb at H1 ⊢
  clear x0 x1 x2 x3 x4 xf0 xf1 xf2 xf3 xf4 l0
  refine (h31.out _ H1.out.sx.gr).mono ?_
  rintro e w2 ⟨⟨j, hj, hjr, hu, rfl⟩, g2⟩
  have Hj := Lib.hid hj
  have Hjr := Lib.hid hjr
  have huI : (u : Int) < 18446744073709551616 := by omega
  have hu0 : (0 : Int) ≤ (u : Int) := by omega
  clear hj hjr hu
  have s2 := H1.out.turn g2
  obtain ⟨⟨x0, x1, x2, x3, x4⟩, xf0, xf1, xf2, xf3, xf4⟩ := five s2.sx.st
  have l0 := (Array.getElem?_eq_some_iff.1 s2.sx.st).1
  have H2a := Lib.hid ((s2.set (Nat.le_refl _) (.slice ba m.length bc) (.slice na l.length nc) j n1 0 ((j : Nat) : Int) (by simp) (n1 : Int) rfl).cnt (Nat.le_refl _) (n2 : Int) n2 rfl)
  obtain ⟨⟨k0, k1, k2, k3, k4⟩, kf0, kf1, kf2, kf3, kf4⟩ := five H2a.out.sx.st
  have kl := (Array.getElem?_eq_some_iff.1 H2a.out.sx.st).1
  have Hc := Lib.hid (H2a.out.turn (Gr.alloc _ (.cells #[(.slice ba m.length bc), .int .i64 ((j : Nat) : Int), .int .i64 (n1 : Int), (.slice na l.length nc), .int .i64 0] 51) _))
  clear H2a s2 g2 H1
  go_wp2_with fail
  generalize World.alloc _ _ = Y3 at Hc ⊢
  clear x0 x1 x2 x3 x4 xf0 xf1 xf2 xf3 xf4 l0 k0 k1 k2 k3 k4 kf0 kf1 kf2 kf3 kf4 kl
  refine (h34.out _ Hc.out.sx.gr j Hj.out).mono ?_
  rintro e w4 ⟨he, g4⟩
  unfold EndS at he
  rw [if_neg (by have h3 := congrArg List.length Hjr.out; simp at h3; have := Hsh.out; have := Hj.out; omega)] at he
  obtain ⟨jz, uv, lz, rfl, hob⟩ := he
  obtain ⟨ua, uc, rfl⟩ := hob.sv
  clear hob
  have s4 := Hc.out.turn g4
  obtain ⟨⟨x0, x1, x2, x3, x4⟩, xf0, xf1, xf2, xf3, xf4⟩ := five s4.sx.st
  have l0 := (Array.getElem?_eq_some_iff.1 s4.sx.st).1
  obtain ⟨⟨t0, t1, t2, t3, t4, t5, t6, t7, t8⟩, tf⟩ := nine s4.tm
  have tfX := tf 7
  have l3 := (Array.getElem?_eq_some_iff.1 s4.tm).1
  have lt8 : ¬ tb = W.heap.size := by have := s4.lt; omega
  have lt5 : ¬ W.heap.size = tb := by have := s4.lt; omega
  have H4 : Hid (Sp W W.heap.size tb (.slice ba m.length bc) (.slice na l.length nc) jz n2 72 #[.int .i64 8, .int .i64 0, .complex .f64 0 0, .string e0, .int .i64 0, .int .u32 0, .int .u64 0, .slice ua lz.length uc, nl] _) := Lib.hid ((s4.set (Nat.le_refl _) (.slice ba m.length bc) (.slice na l.length nc) jz n2 72 ((jz : Nat) : Int) (by simp) (n2 : Int) rfl).cell (Nat.le_refl _) 7 (.slice ua lz.length uc))
  clear s4 g4 Hc
  go_wp2_with fail
  generalize World.setCell _ ⟨tb, 7, none⟩ (.slice ua lz.length uc) = Y4 at H4 ⊢
  clear x0 x1 x2 x3 x4 xf0 xf1 xf2 xf3 xf4 l0
  clear t0 t1 t2 t3 t4 t5 t6 t7 t8 tf tfX l3 lt8 lt5
  obtain ⟨⟨x0, x1, x2, x3, x4⟩, xf0, xf1, xf2, xf3, xf4⟩ := five H4.out.sx.st
  have l0 := (Array.getElem?_eq_some_iff.1 H4.out.sx.st).1
  obtain ⟨⟨y0, y1, y2, y3, y4⟩, yf0, yf1, yf2, yf3, yf4⟩ := five H4.out.sx.out
  obtain ⟨⟨z0, z1, z2, z3, z4, z5, z6, z7, z8⟩, zf⟩ := nine H4.out.ot
  obtain ⟨⟨t0, t1, t2, t3, t4, t5, t6, t7, t8⟩, tf⟩ := nine H4.out.tm
  have l1 := (Array.getElem?_eq_some_iff.1 H4.out.sx.out).1
  have l2 := (Array.getElem?_eq_some_iff.1 H4.out.ot).1
  have l3 := (Array.getElem?_eq_some_iff.1 H4.out.tm).1
  have lt9 := H4.out.lt
  have HG := Lib.hid H4.out.sx.gr
  have lt8 : ¬ tb = W.heap.size := by omega
  have lt7 : ¬ tb = W.heap.size + 1 := by omega
  have lt6 : ¬ tb = W.heap.size + 1 + 1 := by omega
  have lt5 : ¬ W.heap.size + 1 = tb := by omega
  have lt4 : ¬ W.heap.size + 1 + 1 = tb := by omega
  go_region
  all_goals
    go_wp2
    refine bodyPost_ret (v := .tuple #[sv (.slice ba m.length bc) jz n2 (.slice na l.length nc) 72, tv 8 0 0 0 e0 0 0 0 (.slice ua lz.length uc) nl]) (by simp [results, Tryz.results16, go_sem, y0, y1, y2, y3, y4, z0, z1, z2, z3, z4, z5, z6, z7, z8, l0, l1, l2]) rfl ?_
    exact ⟨⟨_, _, _, _, _, _, _, _, _, _, _, _, _, _, _, _, _, _, _, rfl⟩, ((HG.out.set5 (g := W.heap.size + 1) (Nat.le_succ _) _ _ _ _ _).set9 (g := W.heap.size + 1 + 1) (by omega) _ _ _ _ _ _ _ _ _).trans (Gr.drew _ _)⟩
end Go.Proofs.YtmohehfkbhllpaaGreat

namespace Go.Proofs.YtmohehfkbhllpaaGreat
open Go.RowKit Go.Maps
variable {S S' Z : Nat → Prop} {W W1 W' : World}
set_option maxRecDepth 20000 in
set_option maxHeartbeats 800000 in
theorem part_8o (ba : Option Addr) (bc : Nat) (na : Option Addr) (nc : Nat) (m : List Int) (l : List ByteArray) (i n : Nat) (d : Int) (hi : i ≤ m.length) (hn : n ≤ 4096) (W : World) (hd : d ≤ 24) (x : Int) (hb : n < 4096) (hmx : m[i]? = some x) (hq : Sq Z W (.slice ba m.length bc) m) (hx3 : x = 8) (u : Nat) (r : List Int) (hr : nmb 10 0 0 (m.drop (i + 1)) = .ok (u, r)) (hg : u ≤ 4096 - (n + 1)) (hsh : u ≤ r.length) (hs : Snap W (.slice na l.length nc) l) (hl : l.length ≤ n) : Calls Tryz.prog 16 #[sv (.slice ba m.length bc) i n (.slice na l.length nc) 0, .int .i64 d] W fun e w' => (EndP ba bc m W e w' (.ok (.mk { k := 8 } (r.take u) [], r.drop u, n + 1 + u, l))) ∧ Gr (fun _ => False) W w' := by
  have hx := Lib.hid (Sq0.new W (.slice ba m.length bc) (.slice na l.length nc) i n 0)
  have hnI : (n : Int) ≤ 4096 := by omega
  have hn0 : (0 : Int) ≤ (n : Int) := by omega
  obtain ⟨n1, hn1⟩ : ∃ n1, n + 1 = n1 := ⟨_, rfl⟩
  have hn1I : (n : Int) + 1 = (n1 : Int) := by omega
  have hn1b : (n1 : Int) ≤ 5000 := by omega
  have hn1c : (0 : Int) ≤ (n1 : Int) := by omega
  have Hn1 := Lib.hid hn1
  have Hn := Lib.hid hn
  clear hn1 hn
  have hdI : decide ((24 : Int) < d) = false := by simp; omega
  clear hd
  have hbI : decide ((4096 : Int) < (n1 : Int)) = false := by simp; omega
  have h1 := Lib.hid (fun w g => rone_ok ba bc na l.length nc i n1 m x hmx w (hq.gr (g : Gr (fun _ => False) W w) (fun _ _ e => e)))
  have hxb := hq.byte x (List.mem_of_getElem? hmx)
  have hx0 : (0 : Int) ≤ x := hxb.1
  have hx1 : x < 256 := hxb.2
  have h31 := Lib.hid (fun w (g : Gr (fun _ => False) W w) => wide_c ba bc na l.length nc m (i + 1) n1 (by have := (List.getElem?_eq_some_iff.1 hmx).1; omega) w (hq.gr g (fun _ _ e => e)))
  rw [hr] at h31
  have hgI : decide ((4096 : Int) - (n1 : Int) < (u : Int)) = false := by simp; omega
  have hn1d : (n1 : Int) ≤ 4096 := by omega
  have huS : (u : Int) ≤ 4096 := by omega
  obtain ⟨n2, hn2⟩ : ∃ n2, n1 + u = n2 := ⟨_, rfl⟩
  have hn2I : (n1 : Int) + (u : Int) = (n2 : Int) := by omega
  have hn2b : (n2 : Int) ≤ 4096 := by omega
  have Hn2 := Lib.hid hn2
  have h34 := Lib.hid (fun w (g : Gr (fun _ => False) W w) (j : Nat) (hj : j ≤ m.length) => some_c ba bc na l.length nc m j n2 u hj (by omega) w (hq.gr g (fun _ _ e => e)))
  have Hsh := Lib.hid hsh
  have Hs := Lib.hid hs
  have Hl4 : Hid (l.length ≤ n + 1 + u) := Lib.hid (by omega)
  clear hb hmx hq hxb hr hx0 hx1 hg hn2 hsh hs hl
  subst hx3
  go_enter Tryz.func16, Tryz.ntmps16
  go_wp2_with fail
  generalize hW1 : World.alloc (World.alloc (World.alloc W _) _) _ = W1
  have H0 : Hid (Sq0 W W.heap.size (.slice ba m.length bc) (.slice na l.length nc) i n1 0 W1) := Lib.hid (hW1 ▸ Sq0.new W (.slice ba m.length bc) (.slice na l.length nc) i n1 0)
  clear hW1 hx
  refine (h1.out _ H0.out.sx.gr).mono ?_
  rintro e w1 ⟨rfl, g1⟩
  have s1 := H0.out.turn g1
  obtain ⟨⟨x0, x1, x2, x3, x4⟩, xf0, xf1, xf2, xf3, xf4⟩ := five s1.sx.st
  have l0 := (Array.getElem?_eq_some_iff.1 s1.sx.st).1
  have H1 := Lib.hid ((s1.set (Nat.le_refl _) (.slice ba m.length bc) (.slice na l.length nc) (i + 1) n1 0 ((i : Int) + 1) (by simp) (n1 : Int) rfl).term #[.int .i64 8, .int .i64 0, .complex .f64 0 0, .string e0, .int .i64 0, .int .u32 0, .int .u64 0, nl, nl] w1.heap.size (by simp))
  clear s1 g1 H0
  go_wp2_with fail
  generalize World.alloc _ _ = Y1 at H1 ⊢
  generalize w1.heap.size = tb at H1 ⊢
  clear x0 x1 x2 x3 x4 xf0 xf1 xf2 xf3 xf4 l0
  refine (h31.out _ H1.out.sx.gr).mono ?_
  rintro e w2 ⟨⟨j, hj, hjr, hu, rfl⟩, g2⟩
  have Hj := Lib.hid hj
  have Hjr := Lib.hid hjr
  have huI : (u : Int) < 18446744073709551616 := by omega
  have hu0 : (0 : Int) ≤ (u : Int) := by omega
  clear hj hjr hu
  have s2 := H1.out.turn g2
  obtain ⟨⟨x0, x1, x2, x3, x4⟩, xf0, xf1, xf2, xf3, xf4⟩ := five s2.sx.st
  have l0 := (Array.getElem?_eq_some_iff.1 s2.sx.st).1
  have H2a := Lib.hid ((s2.set (Nat.le_refl _) (.slice ba m.length bc) (.slice na l.length nc) j n1 0 ((j : Nat) : Int) (by simp) (n1 : Int) rfl).cnt (Nat.le_refl _) (n2 : Int) n2 rfl)
  obtain ⟨⟨k0, k1, k2, k3, k4⟩, kf0, kf1, kf2, kf3, kf4⟩ := five H2a.out.sx.st
  have kl := (Array.getElem?_eq_some_iff.1 H2a.out.sx.st).1
  have Hc := Lib.hid (H2a.out.turn (Gr.alloc _ (.cells #[(.slice ba m.length bc), .int .i64 ((j : Nat) : Int), .int .i64 (n1 : Int), (.slice na l.length nc), .int .i64 0] 51) _))
  clear H2a s2 g2 H1
  go_wp2_with fail
  generalize World.alloc _ _ = Y3 at Hc ⊢
  clear x0 x1 x2 x3 x4 xf0 xf1 xf2 xf3 xf4 l0 k0 k1 k2 k3 k4 kf0 kf1 kf2 kf3 kf4 kl
  refine (h34.out _ Hc.out.sx.gr j Hj.out).mono ?_
  rintro e w4 ⟨he, g4⟩
  unfold EndS at he
  rw [if_pos (by have h3 := congrArg List.length Hjr.out; simp at h3; have := Hsh.out; have := Hj.out; omega)] at he
  obtain ⟨jz, hjz⟩ : ∃ jz, j + u = jz := ⟨_, rfl⟩
  obtain ⟨lz, hlz⟩ : ∃ lz, (m.drop j).take u = lz := ⟨_, rfl⟩
  rw [hjz, hlz] at he
  obtain ⟨uv, rfl, hob⟩ := he
  obtain ⟨ua, uc, rfl⟩ := hob.sv
  have Hjz : Hid (jz = j + u ∧ lz = r.take u) := Lib.hid ⟨hjz.symm, by rw [← hlz, Hjr.out]⟩
  clear hjz hlz
  have Hjl : Hid (j + u ≤ m.length) := Lib.hid (by have h3 := congrArg List.length Hjr.out; simp at h3; have := Hsh.out; have := Hj.out; omega)
  obtain ⟨bs0, hbs⟩ : ∃ bs0, Y3.heap.size + 2 = bs0 := ⟨_, rfl⟩
  rw [hbs] at hob
  have ltb : tb < bs0 := by have := (Array.getElem?_eq_some_iff.1 Hc.out.tm).1; omega
  have lto : W.heap.size + 1 + 1 < bs0 := by have := Hc.out.lt; omega
  clear hbs
  have s4 := Hc.out.turn g4
  obtain ⟨⟨x0, x1, x2, x3, x4⟩, xf0, xf1, xf2, xf3, xf4⟩ := five s4.sx.st
  have l0 := (Array.getElem?_eq_some_iff.1 s4.sx.st).1
  obtain ⟨⟨t0, t1, t2, t3, t4, t5, t6, t7, t8⟩, tf⟩ := nine s4.tm
  have tfX := tf 7
  have l3 := (Array.getElem?_eq_some_iff.1 s4.tm).1
  have lt8 : ¬ tb = W.heap.size := by have := s4.lt; omega
  have lt5 : ¬ W.heap.size = tb := by have := s4.lt; omega
  have H4 : Hid (Sp W W.heap.size tb (.slice ba m.length bc) (.slice na l.length nc) jz n2 0 #[.int .i64 8, .int .i64 0, .complex .f64 0 0, .string e0, .int .i64 0, .int .u32 0, .int .u64 0, .slice ua lz.length uc, nl] _) := Lib.hid ((s4.set (Nat.le_refl _) (.slice ba m.length bc) (.slice na l.length nc) jz n2 0 ((jz : Nat) : Int) (by simp) (n2 : Int) rfl).cell (Nat.le_refl _) 7 (.slice ua lz.length uc))
  have HOB : Hid (Ob bs0 _ (.slice ua lz.length uc) lz) := Lib.hid (hob.gr (((Gr.own5 w4 W.heap.size (.slice ba m.length bc) (.int .i64 ((jz : Nat) : Int)) (.int .i64 (n2 : Int)) (.slice na l.length nc) (.int .i64 0)).mono (S' := fun k => k = W.heap.size ∨ k = tb) (fun _ _ e => .inl e)).trans ((own1 _ tb 7 (.slice ua lz.length uc)).mono (fun _ _ e => .inr e))) (fun k hk _ e => by omega))
  clear hob
  clear s4 g4 Hc
  go_wp2_with fail
  generalize World.setCell _ ⟨tb, 7, none⟩ (.slice ua lz.length uc) = Y4 at H4 HOB ⊢
  clear x0 x1 x2 x3 x4 xf0 xf1 xf2 xf3 xf4 l0
  clear t0 t1 t2 t3 t4 t5 t6 t7 t8 tf tfX l3 lt8 lt5
  have hzz := Hjz.out.2
  subst hzz
  obtain ⟨⟨x0, x1, x2, x3, x4⟩, xf0, xf1, xf2, xf3, xf4⟩ := five H4.out.sx.st
  have l0 := (Array.getElem?_eq_some_iff.1 H4.out.sx.st).1
  obtain ⟨⟨y0, y1, y2, y3, y4⟩, yf0, yf1, yf2, yf3, yf4⟩ := five H4.out.sx.out
  obtain ⟨⟨z0, z1, z2, z3, z4, z5, z6, z7, z8⟩, zf⟩ := nine H4.out.ot
  obtain ⟨⟨t0, t1, t2, t3, t4, t5, t6, t7, t8⟩, tf⟩ := nine H4.out.tm
  have l1 := (Array.getElem?_eq_some_iff.1 H4.out.sx.out).1
  have l2 := (Array.getElem?_eq_some_iff.1 H4.out.ot).1
  have l3 := (Array.getElem?_eq_some_iff.1 H4.out.tm).1
  have lt9 := H4.out.lt
  have HG := Lib.hid H4.out.sx.gr
  have lt8 : ¬ tb = W.heap.size := by omega
  have lt7 : ¬ tb = W.heap.size + 1 := by omega
  have lt6 : ¬ tb = W.heap.size + 1 + 1 := by omega
  have lt5 : ¬ W.heap.size + 1 = tb := by omega
  have lt4 : ¬ W.heap.size + 1 + 1 = tb := by omega
  go_region
  all_goals
    go_wp2
    refine bodyPost_ret (v := .tuple #[sv (.slice ba m.length bc) jz n2 (.slice na l.length nc) 0, tv 8 0 0 0 e0 0 0 0 (.slice ua (r.take u).length uc) nl]) (by simp [results, Tryz.results16, go_sem, y0, y1, y2, y3, y4, z0, z1, z2, z3, z4, z5, z6, z7, z8, l0, l1, l2]) rfl ?_
    refine ⟨⟨jz, _, _, _, by rw [Hjz.out.1]; exact Hjl.out, by rw [Hjz.out.1, ← Hjr.out, List.drop_drop], by rw [Hn1.out, Hn2.out], ⟨_, _, [], rfl, ((HOB.out.gr ((((Gr.own5 _ (W.heap.size + 1) _ _ _ _ _).mono (S' := fun k => k = W.heap.size + 1 ∨ k = W.heap.size + 1 + 1) (fun _ _ e => .inl e)).trans ((Gr.own9 _ (W.heap.size + 1 + 1) _ _ _ _ _ _ _ _ _).mono (fun _ _ e => .inr e))).trans (Gr.drew _ _)) (fun k hk _ e => by omega)).rowB).turn (fun k hk _ => ⟨by omega, rfl⟩), .inl ⟨rfl, _, _, rfl⟩, rfl⟩, ?_, by omega, Hl4.out⟩, ((HG.out.set5 (g := W.heap.size + 1) (Nat.le_succ _) _ _ _ _ _).set9 (g := W.heap.size + 1 + 1) (by omega) _ _ _ _ _ _ _ _ _).trans (Gr.drew _ _)⟩
    exact Hs.out.gr (((HG.out.set5 (g := W.heap.size + 1) (Nat.le_succ _) _ _ _ _ _).set9 (g := W.heap.size + 1 + 1) (by omega) _ _ _ _ _ _ _ _ _).trans (Gr.drew _ _)) (fun _ _ e => e)
end Go.Proofs.YtmohehfkbhllpaaGreat
