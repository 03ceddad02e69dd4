/-
  The reference's reader: ids.
-/
import Derived.Test.YtmohehfkbhllpaaGreatVI
import Derived.Test.YtmohehfkbhllpaaGreatKE
set_option linter.unusedVariables false
set_option linter.unusedSimpArgs false
namespace Go.Proofs.YtmohehfkbhllpaaGreat
open Go.RowKit Go.Maps
variable {S S' Z : Nat → Prop} {W W1 W' : World}
set_option maxRecDepth 20000 in
set_option maxHeartbeats 800000 in
theorem part_4e (ba : Option Addr) (bc : Nat) (na : Option Addr) (nc : Nat) (m : List Int) (l : List ByteArray) (i n : Nat) (d : Int) (hi : i ≤ m.length) (hn : n ≤ 4096) (W : World) (hd : d ≤ 24) (x : Int) (hb : n < 4096) (hmx : m[i]? = some x) (hq : Sq Z W (.slice ba m.length bc) m) (hx3 : x = 4) (y : Int) (hmy : m[i + 1]? = some y) (t : Nat) (r2 : List Int) (hr : nmb 10 0 0 (m.drop (i + 1 + 1)) = .ok (t, r2)) (hg : t ≤ 4294967295) (u : Nat) (r3 : List Int) (hr2 : nmb 10 0 0 r2 = .ok (u, r3)) (hI : idOk y (t : Int) (u : Int) = false) : Calls Tryz.prog 16 #[sv (.slice ba m.length bc) i n (.slice na l.length nc) 0, .int .i64 d] W fun e w' => (EndP ba bc m W e w' (.error 73)) ∧ Gr (fun _ => False) W w' := by
  have hx := Lib.hid (Sq0.new W (.slice ba m.length bc) (.slice na l.length nc) i n 0)
  have hnI : (n : Int) ≤ 4096 := by omega
  have hn0 : (0 : Int) ≤ (n : Int) := by omega
  obtain ⟨n1, hn1⟩ : ∃ n1, n + 1 = n1 := ⟨_, rfl⟩
  have hn1I : (n : Int) + 1 = (n1 : Int) := by omega
  have hn1b : (n1 : Int) ≤ 5000 := by omega
  have hn1c : (0 : Int) ≤ (n1 : Int) := by omega
  have Hn1 := Lib.hid hn1
  have Hn := Lib.hid hn
  clear hn1 hn
  have hdI : decide ((24 : Int) < d) = false := by simp; omega
  clear hd
  have hbI : decide ((4096 : Int) < (n1 : Int)) = false := by simp; omega
  have h1 := Lib.hid (fun w g => rone_ok ba bc na l.length nc i n1 m x hmx w (hq.gr (g : Gr (fun _ => False) W w) (fun _ _ e => e)))
  have hxb := hq.byte x (List.mem_of_getElem? hmx)
  have hx0 : (0 : Int) ≤ x := hxb.1
  have hx1 : x < 256 := hxb.2
  have hone := Lib.hid (fun w (g : Gr (fun _ => False) W w) => rone_ok ba bc na l.length nc (i + 1) n1 m y hmy w (hq.gr g (fun _ _ e => e)))
  have hyb := hq.byte y (List.mem_of_getElem? hmy)
  have hy0 : (0 : Int) ≤ y := hyb.1
  have hy1 : y < 256 := hyb.2
  have h3 := Lib.hid (fun w (g : Gr (fun _ => False) W w) => wide_e ba bc na l.length nc m (i + 1 + 1) n1 (by have := (List.getElem?_eq_some_iff.1 hmy).1; omega) w (hq.gr g (fun _ _ e => e)))
  rw [hr] at h3
  have hgI : (t : Int) < 4294967296 := by omega
  have hgN : decide (t < 4294967296) = true := by simp; omega
  have h5 : Hid (∀ w, Gr (fun _ => False) W w → ∀ j, j ≤ m.length → m.drop j = r2 → Calls Tryz.prog 31 #[sv (.slice ba m.length bc) j n1 (.slice na l.length nc) 0] w fun e w' => EndU2 ba bc na l.length nc m n1 e (.ok (u, r3)) ∧ Gr (fun _ => False) w w') := Lib.hid (fun w g j hj hjr => by have h := wide_e ba bc na l.length nc m j n1 hj w (hq.gr g (fun _ _ e => e)); rw [hjr, hr2] at h; exact h)
  have HI := Lib.hid hI
  clear hb hmx hq hxb hx0 hx1 hmy hyb hr hg hr2 hI
  subst hx3
  go_enter Tryz.func16, Tryz.ntmps16
  go_wp2_with fail
  generalize hW1 : World.alloc (World.alloc (World.alloc W _) _) _ = W1
  have H0 : Hid (Sq0 W W.heap.size (.slice ba m.length bc) (.slice na l.length nc) i n1 0 W1) := Lib.hid (hW1 ▸ Sq0.new W (.slice ba m.length bc) (.slice na l.length nc) i n1 0)
  clear hW1 hx
  refine (h1.out _ H0.out.sx.gr).mono ?_
  rintro e w1 ⟨rfl, g1⟩
  have s1 := H0.out.turn g1
  obtain ⟨⟨x0, x1, x2, x3, x4⟩, xf0, xf1, xf2, xf3, xf4⟩ := five s1.sx.st
  have l0 := (Array.getElem?_eq_some_iff.1 s1.sx.st).1
  have H1 := Lib.hid ((s1.set (Nat.le_refl _) (.slice ba m.length bc) (.slice na l.length nc) (i + 1) n1 0 ((i : Int) + 1) (by simp) (n1 : Int) rfl).term #[.int .i64 4, .int .i64 0, .complex .f64 0 0, .string e0, .int .i64 0, .int .u32 0, .int .u64 0, nl, nl] w1.heap.size (by simp))
  clear s1 g1 H0
  go_wp2_with fail
  generalize World.alloc _ _ = Y1 at H1 ⊢
  generalize w1.heap.size = tb at H1 ⊢
  clear x0 x1 x2 x3 x4 xf0 xf1 xf2 xf3 xf4 l0
  refine (hone.out _ H1.out.sx.gr).mono ?_
  rintro e w2 ⟨rfl, g2⟩
  have s2 := H1.out.turn g2
  have H2 := Lib.hid (s2.second (i + 1 + 1) n1 0 ((i : Int) + 1 + 1) (by simp) w2.heap.size rfl)
  clear s2 g2 H1
  go_wp2_with fail
  generalize World.alloc _ _ = Y2 at H2 ⊢
  generalize w2.heap.size = yb at H2 ⊢
  refine (h3.out _ H2.out.sp.sx.gr).mono ?_
  rintro e w3 ⟨⟨j, hj, hjr, hu, rfl⟩, g3⟩
  have Hj := Lib.hid hj
  have Hjr := Lib.hid hjr
  have htI : (t : Int) < 18446744073709551616 := by omega
  have ht0 : (0 : Int) ≤ (t : Int) := by omega
  clear hj hjr hu
  have s3 := H2.out.turn g3
  obtain ⟨⟨v0, v1, v2, v3, v4⟩, vf0, vf1, vf2, vf3, vf4⟩ := five s3.ys
  have lv := (Array.getElem?_eq_some_iff.1 s3.ys).1
  have H3 := Lib.hid (s3.sety (Nat.le_refl _) j n1 0 ((j : Nat) : Int) (by simp))
  clear s3 g3 H2
  go_wp2_with fail
  generalize World.setCell (World.setCell (World.setCell (World.setCell (World.setCell w3 _ _) _ _) _ _) _ _) _ _ = Y3 at H3 ⊢
  clear v0 v1 v2 v3 v4 vf0 vf1 vf2 vf3 vf4 lv
  refine (must_yes ba m.length bc na l.length nc j n1 0 _).mono ?_
  rintro e w4 ⟨rfl, g4⟩
  have s4 := H3.out.turn g4
  obtain ⟨⟨v0, v1, v2, v3, v4⟩, vf0, vf1, vf2, vf3, vf4⟩ := five s4.ys
  have lv := (Array.getElem?_eq_some_iff.1 s4.ys).1
  have H4 := Lib.hid (s4.sety (Nat.le_refl _) j n1 0 ((j : Nat) : Int) (by simp))
  clear s4 g4 H3
  go_wp2_with fail
  generalize World.setCell (World.setCell (World.setCell (World.setCell (World.setCell w4 _ _) _ _) _ _) _ _) _ _ = Y4 at H4 ⊢
  clear v0 v1 v2 v3 v4 vf0 vf1 vf2 vf3 vf4 lv
  refine (h5.out _ H4.out.sp.sx.gr j Hj.out Hjr.out).mono ?_
  rintro e w5 ⟨⟨j2, hj2, hjr2, hu2, rfl⟩, g5⟩
  have Hj2 := Lib.hid hj2
  have Hjr2 := Lib.hid hjr2
  have huI : (u : Int) < 18446744073709551616 := by omega
  have hu0 : (0 : Int) ≤ (u : Int) := by omega
  clear hj2 hjr2 hu2
  have s5 := H4.out.turn g5
  obtain ⟨⟨v0, v1, v2, v3, v4⟩, vf0, vf1, vf2, vf3, vf4⟩ := five s5.ys
  have lv := (Array.getElem?_eq_some_iff.1 s5.ys).1
  obtain ⟨⟨x0, x1, x2, x3, x4⟩, xf0, xf1, xf2, xf3, xf4⟩ := five s5.sp.sx.st
  have l0 := (Array.getElem?_eq_some_iff.1 s5.sp.sx.st).1
  obtain ⟨⟨t0, t1, t2, t3, t4, t5, t6, t7, t8⟩, tf⟩ := nine s5.sp.tm
  have tf4 := tf 4
  have tf5 := tf 5
  have tf6 := tf 6
  have l3 := (Array.getElem?_eq_some_iff.1 s5.sp.tm).1
  have e1 : ¬ tb = W.heap.size := by have := s5.sp.lt; omega
  have e2 : ¬ W.heap.size = tb := by have := s5.sp.lt; omega
  have e3 : ¬ yb = W.heap.size := by have := s5.sp.lt; have := s5.lt; omega
  have e4 : ¬ W.heap.size = yb := by have := s5.sp.lt; have := s5.lt; omega
  have e5 : ¬ yb = tb := by have := s5.lt; omega
  have e6 : ¬ tb = yb := by have := s5.lt; omega
  have H6 : Hid (Sp W W.heap.size tb (.slice ba m.length bc) (.slice na l.length nc) j2 n1 0 #[.int .i64 4, .int .i64 0, .complex .f64 0 0, .string e0, .int .i64 y, .int .u32 (t : Int), .int .u64 (u : Int), nl, nl] _) := Lib.hid ((((((s5.sety (Nat.le_refl _) j2 n1 0 ((j2 : Nat) : Int) (by simp)).sp).set (Nat.le_refl _) (.slice ba m.length bc) (.slice na l.length nc) j2 n1 0 ((j2 : Nat) : Int) (by simp) (n1 : Int) rfl).cell (Nat.le_refl _) 4 (.int .i64 y)).cell (Nat.le_refl _) 5 (.int .u32 (t : Int))).cell (Nat.le_refl _) 6 (.int .u64 (u : Int)))
  clear s5 g5 H4
  go_wp2_with fail
  generalize World.setCell _ ⟨tb, 6, none⟩ (.int .u64 (u : Int)) = Y6 at H6 ⊢
  clear v0 v1 v2 v3 v4 vf0 vf1 vf2 vf3 vf4 lv
  clear x0 x1 x2 x3 x4 xf0 xf1 xf2 xf3 xf4 l0
  clear t0 t1 t2 t3 t4 t5 t6 t7 t8 tf tf4 tf5 tf6 l3 e1 e2 e3 e4 e5 e6
  have hR : Hid (∀ w, Calls Tryz.prog 37 #[(.agg #[.int .i64 y, .int .u32 (t : Int), .int .u64 (u : Int)])] w fun e w' => e = .returned (.bool false) ∧ Gr (fun _ => False) w w') := Lib.hid (fun w => by have h := refId_c y (t : Int) (u : Int) hy0 ht0 hu0 w; have e : (decide (1 ≤ y) && (decide (y ≤ 64) && (decide (1 ≤ (t : Int)) && decide (1 ≤ (u : Int))))) = false := HI.out; rw [e] at h; exact h)
  have Hd := Lib.hid (H6.out.turn (Gr.drew _ (fun _ => False)))
  have s14 : S14 W.heap.size tb (.slice ba m.length bc) (.int .i64 ((j2 : Nat) : Int)) (.int .i64 (n1 : Int)) (.slice na l.length nc) (.int .i64 0) (.int .i64 4) (.int .i64 0) (.complex .f64 0 0) (.string e0) (.int .i64 y) (.int .u32 (t : Int)) (.int .u64 (u : Int)) nl nl Y6.drew := Hd.out.s14
  refine wp_region_L (L := 5) (T := S14 W.heap.size tb (.slice ba m.length bc) (.int .i64 ((j2 : Nat) : Int)) (.int .i64 (n1 : Int)) (.slice na l.length nc) (.int .i64 0) (.int .i64 4) (.int .i64 0) (.complex .f64 0 0) (.string e0) (.int .i64 y) (.int .u32 (t : Int)) (.int .u64 (u : Int)) nl nl) (by kernel_rfl) ?_
  refine wpAnyL_at (i := 0) (v := sv (.slice ba m.length bc) j2 n1 (.slice na l.length nc) 0) (some 142) rfl rfl (by kernel_rfl) (by kernel_rfl) (by kernel_rfl) (by kernel_rfl) (by decide) (fun _ _ _ h => h) (Or.inl ⟨by rfl, ?_⟩) s14 ?_
  · intro w hSw
    go_simp
  try simp only [Act.put, List.setIfInBounds_toArray, List.set_cons_zero, List.set_cons_succ]
  refine wpAnyL_at (i := 1) (v := (.pointer (some ⟨tb, 4, none⟩))) (some 143) rfl rfl (by kernel_rfl) (by kernel_rfl) (by kernel_rfl) (by kernel_rfl) (by decide) (fun _ _ _ h => h) (Or.inl ⟨by rfl, ?_⟩) s14 ?_
  · intro w hSw
    go_simp
  try simp only [Act.put, List.setIfInBounds_toArray, List.set_cons_zero, List.set_cons_succ]
  refine wpAnyL_at (i := 2) (v := (.agg #[.int .i64 y, .int .u32 (t : Int), .int .u64 (u : Int)])) (some 144) rfl rfl (by kernel_rfl) (by kernel_rfl) (by kernel_rfl) (by kernel_rfl) (by decide) (fun _ _ _ h => h) (Or.inl ⟨by rfl, ?_⟩) s14 ?_
  · intro w hSw
    go_simp
  try simp only [Act.put, List.setIfInBounds_toArray, List.set_cons_zero, List.set_cons_succ]
  refine wpAnyL_one (i := 3) (by kernel_rfl) rfl (fun K hK => ?_)
  go_simp
  refine (hR.out _).mono ?_
  rintro e wr ⟨rfl, gr⟩
  have Hr := Lib.hid (Hd.out.turn gr)
  have s15 : S14 W.heap.size tb (.slice ba m.length bc) (.int .i64 ((j2 : Nat) : Int)) (.int .i64 (n1 : Int)) (.slice na l.length nc) (.int .i64 0) (.int .i64 4) (.int .i64 0) (.complex .f64 0 0) (.string e0) (.int .i64 y) (.int .u32 (t : Int)) (.int .u64 (u : Int)) nl nl wr := Hr.out.s14
  refine hK.out _ _ (fun _ => s15) ?_
  clear hK K Hd s14
  try simp only [Act.put, List.setIfInBounds_toArray, List.set_cons_zero, List.set_cons_succ]
  refine wpAnyL_one (i := 4) (by kernel_rfl) rfl (fun K hK => ?_)
  go_simp
  refine (must_no ba m.length bc na l.length nc j2 n1 _).mono ?_
  rintro e w7 ⟨rfl, g7⟩
  have s7 := Hr.out.turn g7
  obtain ⟨⟨x0, x1, x2, x3, x4⟩, xf0, xf1, xf2, xf3, xf4⟩ := five s7.sx.st
  have l0 := (Array.getElem?_eq_some_iff.1 s7.sx.st).1
  have s16 : S14 W.heap.size tb (.slice ba m.length bc) (.int .i64 ((j2 : Nat) : Int)) (.int .i64 (n1 : Int)) (.slice na l.length nc) (.int .i64 0) (.int .i64 4) (.int .i64 0) (.complex .f64 0 0) (.string e0) (.int .i64 y) (.int .u32 (t : Int)) (.int .u64 (u : Int)) nl nl w7 := s7.s14
  have H7 := Lib.hid (s7.set (Nat.le_refl _) (.slice ba m.length bc) (.slice na l.length nc) j2 n1 73 ((j2 : Nat) : Int) (by simp) (n1 : Int) rfl)
  refine hK.out _ _ (fun _ => s16) ?_
  clear hK K s7 Hr s15
  try simp only [Act.put, List.setIfInBounds_toArray, List.set_cons_zero, List.set_cons_succ]
  refine wpAnyL_one (i := 5) (by kernel_rfl) rfl (fun K hK => ?_)
  go_simp
  refine hK.out _ _ (fun h => absurd rfl h) ?_
  clear hK K s16
  try simp only [Act.put, List.setIfInBounds_toArray, List.set_cons_zero, List.set_cons_succ]
  refine wpAnyL_done (by kernel_rfl) ?_ _
  refine NoPanic.normal ?_
  go_wp2_with fail
  generalize World.setCell (World.setCell (World.setCell (World.setCell (World.setCell w7 _ _) _ _) _ _) _ _) _ _ = Y7 at H7 ⊢
  clear x0 x1 x2 x3 x4 xf0 xf1 xf2 xf3 xf4 l0
  obtain ⟨⟨x0, x1, x2, x3, x4⟩, xf0, xf1, xf2, xf3, xf4⟩ := five H7.out.sx.st
  have l0 := (Array.getElem?_eq_some_iff.1 H7.out.sx.st).1
  obtain ⟨⟨y0, y1, y2, y3, y4⟩, yf0, yf1, yf2, yf3, yf4⟩ := five H7.out.sx.out
  obtain ⟨⟨z0, z1, z2, z3, z4, z5, z6, z7, z8⟩, zf⟩ := nine H7.out.ot
  obtain ⟨⟨t0, t1, t2, t3, t4, t5, t6, t7, t8⟩, tf⟩ := nine H7.out.tm
  have l1 := (Array.getElem?_eq_some_iff.1 H7.out.sx.out).1
  have l2 := (Array.getElem?_eq_some_iff.1 H7.out.ot).1
  have l3 := (Array.getElem?_eq_some_iff.1 H7.out.tm).1
  have lt9 := H7.out.lt
  have HG := Lib.hid H7.out.sx.gr
  have lt8 : ¬ tb = W.heap.size := by omega
  have lt7 : ¬ tb = W.heap.size + 1 := by omega
  have lt6 : ¬ tb = W.heap.size + 1 + 1 := by omega
  have lt5 : ¬ W.heap.size + 1 = tb := by omega
  have lt4 : ¬ W.heap.size + 1 + 1 = tb := by omega
  go_region
  all_goals
    go_wp2
    refine bodyPost_ret (v := .tuple #[sv (.slice ba m.length bc) j2 n1 (.slice na l.length nc) 73, lf 4 0 0 0 e0 y (t : Int) (u : Int)]) (by simp [results, Tryz.results16, go_sem, y0, y1, y2, y3, y4, z0, z1, z2, z3, z4, z5, z6, z7, z8, l0, l1, l2]) rfl ?_
    exact ⟨⟨_, _, _, _, _, _, _, _, _, _, _, _, _, _, _, _, _, _, _, rfl⟩, ((HG.out.set5 (g := W.heap.size + 1) (Nat.le_succ _) _ _ _ _ _).set9 (g := W.heap.size + 1 + 1) (by omega) _ _ _ _ _ _ _ _ _).trans (Gr.drew _ _)⟩
set_option maxRecDepth 20000 in
set_option maxHeartbeats 800000 in
theorem part_5e (ba : Option Addr) (bc : Nat) (na : Option Addr) (nc : Nat) (m : List Int) (l : List ByteArray) (i n : Nat) (d : Int) (hi : i ≤ m.length) (hn : n ≤ 4096) (W : World) (hd : d ≤ 24) (x : Int) (hb : n < 4096) (hmx : m[i]? = some x) (hq : Sq Z W (.slice ba m.length bc) m) (hx3 : x = 5) (y : Int) (hmy : m[i + 1]? = some y) (t : Nat) (r2 : List Int) (hr : nmb 10 0 0 (m.drop (i + 1 + 1)) = .ok (t, r2)) (hg : t ≤ 4294967295) (u : Nat) (r3 : List Int) (hr2 : nmb 10 0 0 r2 = .ok (u, r3)) (hI : idOk y (t : Int) (u : Int) = false) : Calls Tryz.prog 16 #[sv (.slice ba m.length bc) i n (.slice na l.length nc) 0, .int .i64 d] W fun e w' => (EndP ba bc m W e w' (.error 73)) ∧ Gr (fun _ => False) W w' := by
  have hx := Lib.hid (Sq0.new W (.slice ba m.length bc) (.slice na l.length nc) i n 0)
  have hnI : (n : Int) ≤ 4096 := by omega
  have hn0 : (0 : Int) ≤ (n : Int) := by omega
  obtain ⟨n1, hn1⟩ : ∃ n1, n + 1 = n1 := ⟨_, rfl⟩
  have hn1I : (n : Int) + 1 = (n1 : Int) := by omega
  have hn1b : (n1 : Int) ≤ 5000 := by omega
  have hn1c : (0 : Int) ≤ (n1 : Int) := by omega
  have Hn1 := Lib.hid hn1
  have Hn := Lib.hid hn
  clear hn1 hn
  have hdI : decide ((24 : Int) < d) = false := by simp; omega
  clear hd
  have hbI : decide ((4096 : Int) < (n1 : Int)) = false := by simp; omega
  have h1 := Lib.hid (fun w g => rone_ok ba bc na l.length nc i n1 m x hmx w (hq.gr (g : Gr (fun _ => False) W w) (fun _ _ e => e)))
  have hxb := hq.byte x (List.mem_of_getElem? hmx)
  have hx0 : (0 : Int) ≤ x := hxb.1
  have hx1 : x < 256 := hxb.2
  have hone := Lib.hid (fun w (g : Gr (fun _ => False) W w) => rone_ok ba bc na l.length nc (i + 1) n1 m y hmy w (hq.gr g (fun _ _ e => e)))
  have hyb := hq.byte y (List.mem_of_getElem? hmy)
  have hy0 : (0 : Int) ≤ y := hyb.1
  have hy1 : y < 256 := hyb.2
  have h3 := Lib.hid (fun w (g : Gr (fun _ => False) W w) => wide_e ba bc na l.length nc m (i + 1 + 1) n1 (by have := (List.getElem?_eq_some_iff.1 hmy).1; omega) w (hq.gr g (fun _ _ e => e)))
  rw [hr] at h3
  have hgI : (t : Int) < 4294967296 := by omega
  have hgN : decide (t < 4294967296) = true := by simp; omega
  have h5 : Hid (∀ w, Gr (fun _ => False) W w → ∀ j, j ≤ m.length → m.drop j = r2 → Calls Tryz.prog 31 #[sv (.slice ba m.length bc) j n1 (.slice na l.length nc) 0] w fun e w' => EndU2 ba bc na l.length nc m n1 e (.ok (u, r3)) ∧ Gr (fun _ => False) w w') := Lib.hid (fun w g j hj hjr => by have h := wide_e ba bc na l.length nc m j n1 hj w (hq.gr g (fun _ _ e => e)); rw [hjr, hr2] at h; exact h)
  have HI := Lib.hid hI
  clear hb hmx hq hxb hx0 hx1 hmy hyb hr hg hr2 hI
  subst hx3
  go_enter Tryz.func16, Tryz.ntmps16
  go_wp2_with fail
  generalize hW1 : World.alloc (World.alloc (World.alloc W _) _) _ = W1
  have H0 : Hid (Sq0 W W.heap.size (.slice ba m.length bc) (.slice na l.length nc) i n1 0 W1) := Lib.hid (hW1 ▸ Sq0.new W (.slice ba m.length bc) (.slice na l.length nc) i n1 0)
  clear hW1 hx
  refine (h1.out _ H0.out.sx.gr).mono ?_
  rintro e w1 ⟨rfl, g1⟩
  have s1 := H0.out.turn g1
  obtain ⟨⟨x0, x1, x2, x3, x4⟩, xf0, xf1, xf2, xf3, xf4⟩ := five s1.sx.st
  have l0 := (Array.getElem?_eq_some_iff.1 s1.sx.st).1
  have H1 := Lib.hid ((s1.set (Nat.le_refl _) (.slice ba m.length bc) (.slice na l.length nc) (i + 1) n1 0 ((i : Int) + 1) (by simp) (n1 : Int) rfl).term #[.int .i64 5, .int .i64 0, .complex .f64 0 0, .string e0, .int .i64 0, .int .u32 0, .int .u64 0, nl, nl] w1.heap.size (by simp))
  clear s1 g1 H0
  go_wp2_with fail
  generalize World.alloc _ _ = Y1 at H1 ⊢
  generalize w1.heap.size = tb at H1 ⊢
  clear x0 x1 x2 x3 x4 xf0 xf1 xf2 xf3 xf4 l0
  refine (hone.out _ H1.out.sx.gr).mono ?_
  rintro e w2 ⟨rfl, g2⟩
  have s2 := H1.out.turn g2
  have H2 := Lib.hid (s2.second (i + 1 + 1) n1 0 ((i : Int) + 1 + 1) (by simp) w2.heap.size rfl)
  clear s2 g2 H1
  go_wp2_with fail
  generalize World.alloc _ _ = Y2 at H2 ⊢
  generalize w2.heap.size = yb at H2 ⊢
  refine (h3.out _ H2.out.sp.sx.gr).mono ?_
  rintro e w3 ⟨⟨j, hj, hjr, hu, rfl⟩, g3⟩
  have Hj := Lib.hid hj
  have Hjr := Lib.hid hjr
  have htI : (t : Int) < 18446744073709551616 := by omega
  have ht0 : (0 : Int) ≤ (t : Int) := by omega
  clear hj hjr hu
  have s3 := H2.out.turn g3
  obtain ⟨⟨v0, v1, v2, v3, v4⟩, vf0, vf1, vf2, vf3, vf4⟩ := five s3.ys
  have lv := (Array.getElem?_eq_some_iff.1 s3.ys).1
  have H3 := Lib.hid (s3.sety (Nat.le_refl _) j n1 0 ((j : Nat) : Int) (by simp))
  clear s3 g3 H2
  go_wp2_with fail
  generalize World.setCell (World.setCell (World.setCell (World.setCell (World.setCell w3 _ _) _ _) _ _) _ _) _ _ = Y3 at H3 ⊢
  clear v0 v1 v2 v3 v4 vf0 vf1 vf2 vf3 vf4 lv
  refine (must_yes ba m.length bc na l.length nc j n1 0 _).mono ?_
  rintro e w4 ⟨rfl, g4⟩
  have s4 := H3.out.turn g4
  obtain ⟨⟨v0, v1, v2, v3, v4⟩, vf0, vf1, vf2, vf3, vf4⟩ := five s4.ys
  have lv := (Array.getElem?_eq_some_iff.1 s4.ys).1
  have H4 := Lib.hid (s4.sety (Nat.le_refl _) j n1 0 ((j : Nat) : Int) (by simp))
  clear s4 g4 H3
  go_wp2_with fail
  generalize World.setCell (World.setCell (World.setCell (World.setCell (World.setCell w4 _ _) _ _) _ _) _ _) _ _ = Y4 at H4 ⊢
  clear v0 v1 v2 v3 v4 vf0 vf1 vf2 vf3 vf4 lv
  refine (h5.out _ H4.out.sp.sx.gr j Hj.out Hjr.out).mono ?_
  rintro e w5 ⟨⟨j2, hj2, hjr2, hu2, rfl⟩, g5⟩
  have Hj2 := Lib.hid hj2
  have Hjr2 := Lib.hid hjr2
  have huI : (u : Int) < 18446744073709551616 := by omega
  have hu0 : (0 : Int) ≤ (u : Int) := by omega
  clear hj2 hjr2 hu2
  have s5 := H4.out.turn g5
  obtain ⟨⟨v0, v1, v2, v3, v4⟩, vf0, vf1, vf2, vf3, vf4⟩ := five s5.ys
  have lv := (Array.getElem?_eq_some_iff.1 s5.ys).1
  obtain ⟨⟨x0, x1, x2, x3, x4⟩, xf0, xf1, xf2, xf3, xf4⟩ := five s5.sp.sx.st
  have l0 := (Array.getElem?_eq_some_iff.1 s5.sp.sx.st).1
  obtain ⟨⟨t0, t1, t2, t3, t4, t5, t6, t7, t8⟩, tf⟩ := nine s5.sp.tm
  have tf4 := tf 4
  have tf5 := tf 5
  have tf6 := tf 6
  have l3 := (Array.getElem?_eq_some_iff.1 s5.sp.tm).1
  have e1 : ¬ tb = W.heap.size := by have := s5.sp.lt; omega
  have e2 : ¬ W.heap.size = tb := by have := s5.sp.lt; omega
  have e3 : ¬ yb = W.heap.size := by have := s5.sp.lt; have := s5.lt; omega
  have e4 : ¬ W.heap.size = yb := by have := s5.sp.lt; have := s5.lt; omega
  have e5 : ¬ yb = tb := by have := s5.lt; omega
  have e6 : ¬ tb = yb := by have := s5.lt; omega
  have H6 : Hid (Sp W W.heap.size tb (.slice ba m.length bc) (.slice na l.length nc) j2 n1 0 #[.int .i64 5, .int .i64 0, .complex .f64 0 0, .string e0, .int .i64 y, .int .u32 (t : Int), .int .u64 (u : Int), nl, nl] _) := Lib.hid ((((((s5.sety (Nat.le_refl _) j2 n1 0 ((j2 : Nat) : Int) (by simp)).sp).set (Nat.le_refl _) (.slice ba m.length bc) (.slice na l.length nc) j2 n1 0 ((j2 : Nat) : Int) (by simp) (n1 : Int) rfl).cell (Nat.le_refl _) 4 (.int .i64 y)).cell (Nat.le_refl _) 5 (.int .u32 (t : Int))).cell (Nat.le_refl _) 6 (.int .u64 (u : Int)))
  clear s5 g5 H4
  go_wp2_with fail
  generalize World.setCell _ ⟨tb, 6, none⟩ (.int .u64 (u : Int)) = Y6 at H6 ⊢
  clear v0 v1 v2 v3 v4 vf0 vf1 vf2 vf3 vf4 lv
  clear x0 x1 x2 x3 x4 xf0 xf1 xf2 xf3 xf4 l0
  clear t0 t1 t2 t3 t4 t5 t6 t7 t8 tf tf4 tf5 tf6 l3 e1 e2 e3 e4 e5 e6
  have hR : Hid (∀ w, Calls Tryz.prog 37 #[(.agg #[.int .i64 y, .int .u32 (t : Int), .int .u64 (u : Int)])] w fun e w' => e = .returned (.bool false) ∧ Gr (fun _ => False) w w') := Lib.hid (fun w => by have h := refId_c y (t : Int) (u : Int) hy0 ht0 hu0 w; have e : (decide (1 ≤ y) && (decide (y ≤ 64) && (decide (1 ≤ (t : Int)) && decide (1 ≤ (u : Int))))) = false := HI.out; rw [e] at h; exact h)
  have Hd := Lib.hid (H6.out.turn (Gr.drew _ (fun _ => False)))
  have s14 : S14 W.heap.size tb (.slice ba m.length bc) (.int .i64 ((j2 : Nat) : Int)) (.int .i64 (n1 : Int)) (.slice na l.length nc) (.int .i64 0) (.int .i64 5) (.int .i64 0) (.complex .f64 0 0) (.string e0) (.int .i64 y) (.int .u32 (t : Int)) (.int .u64 (u : Int)) nl nl Y6.drew := Hd.out.s14
  refine wp_region_L (L := 5) (T := S14 W.heap.size tb (.slice ba m.length bc) (.int .i64 ((j2 : Nat) : Int)) (.int .i64 (n1 : Int)) (.slice na l.length nc) (.int .i64 0) (.int .i64 5) (.int .i64 0) (.complex .f64 0 0) (.string e0) (.int .i64 y) (.int .u32 (t : Int)) (.int .u64 (u : Int)) nl nl) (by kernel_rfl) ?_
  refine wpAnyL_at (i := 0) (v := sv (.slice ba m.length bc) j2 n1 (.slice na l.length nc) 0) (some 142) rfl rfl (by kernel_rfl) (by kernel_rfl) (by kernel_rfl) (by kernel_rfl) (by decide) (fun _ _ _ h => h) (Or.inl ⟨by rfl, ?_⟩) s14 ?_
  · intro w hSw
    go_simp
  try simp only [Act.put, List.setIfInBounds_toArray, List.set_cons_zero, List.set_cons_succ]
  refine wpAnyL_at (i := 1) (v := (.pointer (some ⟨tb, 4, none⟩))) (some 143) rfl rfl (by kernel_rfl) (by kernel_rfl) (by kernel_rfl) (by kernel_rfl) (by decide) (fun _ _ _ h => h) (Or.inl ⟨by rfl, ?_⟩) s14 ?_
  · intro w hSw
    go_simp
  try simp only [Act.put, List.setIfInBounds_toArray, List.set_cons_zero, List.set_cons_succ]
  refine wpAnyL_at (i := 2) (v := (.agg #[.int .i64 y, .int .u32 (t : Int), .int .u64 (u : Int)])) (some 144) rfl rfl (by kernel_rfl) (by kernel_rfl) (by kernel_rfl) (by kernel_rfl) (by decide) (fun _ _ _ h => h) (Or.inl ⟨by rfl, ?_⟩) s14 ?_
  · intro w hSw
    go_simp
  try simp only [Act.put, List.setIfInBounds_toArray, List.set_cons_zero, List.set_cons_succ]
  refine wpAnyL_one (i := 3) (by kernel_rfl) rfl (fun K hK => ?_)
  go_simp
  refine (hR.out _).mono ?_
  rintro e wr ⟨rfl, gr⟩
  have Hr := Lib.hid (Hd.out.turn gr)
  have s15 : S14 W.heap.size tb (.slice ba m.length bc) (.int .i64 ((j2 : Nat) : Int)) (.int .i64 (n1 : Int)) (.slice na l.length nc) (.int .i64 0) (.int .i64 5) (.int .i64 0) (.complex .f64 0 0) (.string e0) (.int .i64 y) (.int .u32 (t : Int)) (.int .u64 (u : Int)) nl nl wr := Hr.out.s14
  refine hK.out _ _ (fun _ => s15) ?_
  clear hK K Hd s14
  try simp only [Act.put, List.setIfInBounds_toArray, List.set_cons_zero, List.set_cons_succ]
  refine wpAnyL_one (i := 4) (by kernel_rfl) rfl (fun K hK => ?_)
  go_simp
  refine (must_no ba m.length bc na l.length nc j2 n1 _).mono ?_
  rintro e w7 ⟨rfl, g7⟩
  have s7 := Hr.out.turn g7
  obtain ⟨⟨x0, x1, x2, x3, x4⟩, xf0, xf1, xf2, xf3, xf4⟩ := five s7.sx.st
  have l0 := (Array.getElem?_eq_some_iff.1 s7.sx.st).1
  have s16 : S14 W.heap.size tb (.slice ba m.length bc) (.int .i64 ((j2 : Nat) : Int)) (.int .i64 (n1 : Int)) (.slice na l.length nc) (.int .i64 0) (.int .i64 5) (.int .i64 0) (.complex .f64 0 0) (.string e0) (.int .i64 y) (.int .u32 (t : Int)) (.int .u64 (u : Int)) nl nl w7 := s7.s14
  have H7 := Lib.hid (s7.set (Nat.le_refl _) (.slice ba m.length bc) (.slice na l.length nc) j2 n1 73 ((j2 : Nat) : Int) (by simp) (n1 : Int) rfl)
  refine hK.out _ _ (fun _ => s16) ?_
  clear hK K s7 Hr s15
  try simp only [Act.put, List.setIfInBounds_toArray, List.set_cons_zero, List.set_cons_succ]
  refine wpAnyL_one (i := 5) (by kernel_rfl) rfl (fun K hK => ?_)
  go_simp
  refine hK.out _ _ (fun h => absurd rfl h) ?_
  clear hK K s16
  try simp only [Act.put, List.setIfInBounds_toArray, List.set_cons_zero, List.set_cons_succ]
  refine wpAnyL_done (by kernel_rfl) ?_ _
  refine NoPanic.normal ?_
  go_wp2_with fail
  generalize World.setCell (World.setCell (World.setCell (World.setCell (World.setCell w7 _ _) _ _) _ _) _ _) _ _ = Y7 at H7 ⊢
  clear x0 x1 x2 x3 x4 xf0 xf1 xf2 xf3 xf4 l0
  obtain ⟨⟨x0, x1, x2, x3, x4⟩, xf0, xf1, xf2, xf3, xf4⟩ := five H7.out.sx.st
  have l0 := (Array.getElem?_eq_some_iff.1 H7.out.sx.st).1
  obtain ⟨⟨y0, y1, y2, y3, y4⟩, yf0, yf1, yf2, yf3, yf4⟩ := five H7.out.sx.out
  obtain ⟨⟨z0, z1, z2, z3, z4, z5, z6, z7, z8⟩, zf⟩ := nine H7.out.ot
  obtain ⟨⟨t0, t1, t2, t3, t4, t5, t6, t7, t8⟩, tf⟩ := nine H7.out.tm
  have l1 := (Array.getElem?_eq_some_iff.1 H7.out.sx.out).1
  have l2 := (Array.getElem?_eq_some_iff.1 H7.out.ot).1
  have l3 := (Array.getElem?_eq_some_iff.1 H7.out.tm).1
  have lt9 := H7.out.lt
  have HG := Lib.hid H7.out.sx.gr
  have lt8 : ¬ tb = W.heap.size := by omega
  have lt7 : ¬ tb = W.heap.size + 1 := by omega
  have lt6 : ¬ tb = W.heap.size + 1 + 1 := by omega
  have lt5 : ¬ W.heap.size + 1 = tb := by omega
  have lt4 : ¬ W.heap.size + 1 + 1 = tb := by omega
  go_region
  all_goals
    go_wp2
    refine bodyPost_ret (v := .tuple #[sv (.slice ba m.length bc) j2 n1 (.slice na l.length nc) 73, lf 5 0 0 0 e0 y (t : Int) (u : Int)]) (by simp [results, Tryz.results16, go_sem, y0, y1, y2, y3, y4, z0, z1, z2, z3, z4, z5, z6, z7, z8, l0, l1, l2]) rfl ?_
    exact ⟨⟨_, _, _, _, _, _, _, _, _, _, _, _, _, _, _, _, _, _, _, rfl⟩, ((HG.out.set5 (g := W.heap.size + 1) (Nat.le_succ _) _ _ _ _ _).set9 (g := W.heap.size + 1 + 1) (by omega) _ _ _ _ _ _ _ _ _).trans (Gr.drew _ _)⟩
set_option maxRecDepth 20000 in
set_option maxHeartbeats 800000 in
theorem part_4f (ba : Option Addr) (bc : Nat) (na : Option Addr) (nc : Nat) (m : List Int) (l : List ByteArray) (i n : Nat) (d : Int) (hi : i ≤ m.length) (hn : n ≤ 4096) (W : World) (hd : d ≤ 24) (x : Int) (hb : n < 4096) (hmx : m[i]? = some x) (hq : Sq Z W (.slice ba m.length bc) m) (hx3 : x = 4) (y : Int) (hmy : m[i + 1]? = some y) (t : Nat) (r2 : List Int) (hr : nmb 10 0 0 (m.drop (i + 1 + 1)) = .ok (t, r2)) (hg : t ≤ 4294967295) (u : Nat) (r3 : List Int) (hr2 : nmb 10 0 0 r2 = .ok (u, r3)) (hI : idOk y (t : Int) (u : Int) = true) (hs : Snap W (.slice na l.length nc) l) (hl : l.length ≤ n) : Calls Tryz.prog 16 #[sv (.slice ba m.length bc) i n (.slice na l.length nc) 0, .int .i64 d] W fun e w' => (EndP ba bc m W e w' (.ok (.mk { k := 4, a := y, c := (t : Int), d := (u : Int) } [] [], r3, n + 1, l))) ∧ Gr (fun _ => False) W w' := by
  have hx := Lib.hid (Sq0.new W (.slice ba m.length bc) (.slice na l.length nc) i n 0)
  have hnI : (n : Int) ≤ 4096 := by omega
  have hn0 : (0 : Int) ≤ (n : Int) := by omega
  obtain ⟨n1, hn1⟩ : ∃ n1, n + 1 = n1 := ⟨_, rfl⟩
  have hn1I : (n : Int) + 1 = (n1 : Int) := by omega
  have hn1b : (n1 : Int) ≤ 5000 := by omega
  have hn1c : (0 : Int) ≤ (n1 : Int) := by omega
  have Hn1 := Lib.hid hn1
  have Hn := Lib.hid hn
  clear hn1 hn
  have hdI : decide ((24 : Int) < d) = false := by simp; omega
  clear hd
  have hbI : decide ((4096 : Int) < (n1 : Int)) = false := by simp; omega
  have h1 := Lib.hid (fun w g => rone_ok ba bc na l.length nc i n1 m x hmx w (hq.gr (g : Gr (fun _ => False) W w) (fun _ _ e => e)))
  have hxb := hq.byte x (List.mem_of_getElem? hmx)
  have hx0 : (0 : Int) ≤ x := hxb.1
  have hx1 : x < 256 := hxb.2
  have hone := Lib.hid (fun w (g : Gr (fun _ => False) W w) => rone_ok ba bc na l.length nc (i + 1) n1 m y hmy w (hq.gr g (fun _ _ e => e)))
  have hyb := hq.byte y (List.mem_of_getElem? hmy)
  have hy0 : (0 : Int) ≤ y := hyb.1
  have hy1 : y < 256 := hyb.2
  have h3 := Lib.hid (fun w (g : Gr (fun _ => False) W w) => wide_e ba bc na l.length nc m (i + 1 + 1) n1 (by have := (List.getElem?_eq_some_iff.1 hmy).1; omega) w (hq.gr g (fun _ _ e => e)))
  rw [hr] at h3
  have hgI : (t : Int) < 4294967296 := by omega
  have hgN : decide (t < 4294967296) = true := by simp; omega
  have h5 : Hid (∀ w, Gr (fun _ => False) W w → ∀ j, j ≤ m.length → m.drop j = r2 → Calls Tryz.prog 31 #[sv (.slice ba m.length bc) j n1 (.slice na l.length nc) 0] w fun e w' => EndU2 ba bc na l.length nc m n1 e (.ok (u, r3)) ∧ Gr (fun _ => False) w w') := Lib.hid (fun w g j hj hjr => by have h := wide_e ba bc na l.length nc m j n1 hj w (hq.gr g (fun _ _ e => e)); rw [hjr, hr2] at h; exact h)
  have HI := Lib.hid hI
  have Hs := Lib.hid hs
  have Hn4 : Hid (n + 1 ≤ 4096) := Lib.hid hb
  have Hl4 : Hid (l.length ≤ n + 1) := Lib.hid (by omega)
  clear hb hmx hq hxb hx0 hx1 hmy hyb hr hg hr2 hI hs hl
  subst hx3
  go_enter Tryz.func16, Tryz.ntmps16
  go_wp2_with fail
  generalize hW1 : World.alloc (World.alloc (World.alloc W _) _) _ = W1
  have H0 : Hid (Sq0 W W.heap.size (.slice ba m.length bc) (.slice na l.length nc) i n1 0 W1) := Lib.hid (hW1 ▸ Sq0.new W (.slice ba m.length bc) (.slice na l.length nc) i n1 0)
  clear hW1 hx
  refine (h1.out _ H0.out.sx.gr).mono ?_
  rintro e w1 ⟨rfl, g1⟩
  have s1 := H0.out.turn g1
  obtain ⟨⟨x0, x1, x2, x3, x4⟩, xf0, xf1, xf2, xf3, xf4⟩ := five s1.sx.st
  have l0 := (Array.getElem?_eq_some_iff.1 s1.sx.st).1
  have H1 := Lib.hid ((s1.set (Nat.le_refl _) (.slice ba m.length bc) (.slice na l.length nc) (i + 1) n1 0 ((i : Int) + 1) (by simp) (n1 : Int) rfl).term #[.int .i64 4, .int .i64 0, .complex .f64 0 0, .string e0, .int .i64 0, .int .u32 0, .int .u64 0, nl, nl] w1.heap.size (by simp))
  clear s1 g1 H0
  go_wp2_with fail
  generalize World.alloc _ _ = Y1 at H1 ⊢
  generalize w1.heap.size = tb at H1 ⊢
  clear x0 x1 x2 x3 x4 xf0 xf1 xf2 xf3 xf4 l0
  refine (hone.out _ H1.out.sx.gr).mono ?_
  rintro e w2 ⟨rfl, g2⟩
  have s2 := H1.out.turn g2
  have H2 := Lib.hid (s2.second (i + 1 + 1) n1 0 ((i : Int) + 1 + 1) (by simp) w2.heap.size rfl)
  clear s2 g2 H1
  go_wp2_with fail
  generalize World.alloc _ _ = Y2 at H2 ⊢
  generalize w2.heap.size = yb at H2 ⊢
  refine (h3.out _ H2.out.sp.sx.gr).mono ?_
  rintro e w3 ⟨⟨j, hj, hjr, hu, rfl⟩, g3⟩
  have Hj := Lib.hid hj
  have Hjr := Lib.hid hjr
  have htI : (t : Int) < 18446744073709551616 := by omega
  have ht0 : (0 : Int) ≤ (t : Int) := by omega
  clear hj hjr hu
  have s3 := H2.out.turn g3
  obtain ⟨⟨v0, v1, v2, v3, v4⟩, vf0, vf1, vf2, vf3, vf4⟩ := five s3.ys
  have lv := (Array.getElem?_eq_some_iff.1 s3.ys).1
  have H3 := Lib.hid (s3.sety (Nat.le_refl _) j n1 0 ((j : Nat) : Int) (by simp))
  clear s3 g3 H2
  go_wp2_with fail
  generalize World.setCell (World.setCell (World.setCell (World.setCell (World.setCell w3 _ _) _ _) _ _) _ _) _ _ = Y3 at H3 ⊢
  clear v0 v1 v2 v3 v4 vf0 vf1 vf2 vf3 vf4 lv
  refine (must_yes ba m.length bc na l.length nc j n1 0 _).mono ?_
  rintro e w4 ⟨rfl, g4⟩
  have s4 := H3.out.turn g4
  obtain ⟨⟨v0, v1, v2, v3, v4⟩, vf0, vf1, vf2, vf3, vf4⟩ := five s4.ys
  have lv := (Array.getElem?_eq_some_iff.1 s4.ys).1
  have H4 := Lib.hid (s4.sety (Nat.le_refl _) j n1 0 ((j : Nat) : Int) (by simp))
  clear s4 g4 H3
  go_wp2_with fail
  generalize World.setCell (World.setCell (World.setCell (World.setCell (World.setCell w4 _ _) _ _) _ _) _ _) _ _ = Y4 at H4 ⊢
  clear v0 v1 v2 v3 v4 vf0 vf1 vf2 vf3 vf4 lv
  refine (h5.out _ H4.out.sp.sx.gr j Hj.out Hjr.out).mono ?_
  rintro e w5 ⟨⟨j2, hj2, hjr2, hu2, rfl⟩, g5⟩
  have Hj2 := Lib.hid hj2
  have Hjr2 := Lib.hid hjr2
  have huI : (u : Int) < 18446744073709551616 := by omega
  have hu0 : (0 : Int) ≤ (u : Int) := by omega
  clear hj2 hjr2 hu2
  have s5 := H4.out.turn g5
  obtain ⟨⟨v0, v1, v2, v3, v4⟩, vf0, vf1, vf2, vf3, vf4⟩ := five s5.ys
  have lv := (Array.getElem?_eq_some_iff.1 s5.ys).1
  obtain ⟨⟨x0, x1, x2, x3, x4⟩, xf0, xf1, xf2, xf3, xf4⟩ := five s5.sp.sx.st
  have l0 := (Array.getElem?_eq_some_iff.1 s5.sp.sx.st).1
  obtain ⟨⟨t0, t1, t2, t3, t4, t5, t6, t7, t8⟩, tf⟩ := nine s5.sp.tm
  have tf4 := tf 4
  have tf5 := tf 5
  have tf6 := tf 6
  have l3 := (Array.getElem?_eq_some_iff.1 s5.sp.tm).1
  have e1 : ¬ tb = W.heap.size := by have := s5.sp.lt; omega
  have e2 : ¬ W.heap.size = tb := by have := s5.sp.lt; omega
  have e3 : ¬ yb = W.heap.size := by have := s5.sp.lt; have := s5.lt; omega
  have e4 : ¬ W.heap.size = yb := by have := s5.sp.lt; have := s5.lt; omega
  have e5 : ¬ yb = tb := by have := s5.lt; omega
  have e6 : ¬ tb = yb := by have := s5.lt; omega
  have H6 : Hid (Sp W W.heap.size tb (.slice ba m.length bc) (.slice na l.length nc) j2 n1 0 #[.int .i64 4, .int .i64 0, .complex .f64 0 0, .string e0, .int .i64 y, .int .u32 (t : Int), .int .u64 (u : Int), nl, nl] _) := Lib.hid ((((((s5.sety (Nat.le_refl _) j2 n1 0 ((j2 : Nat) : Int) (by simp)).sp).set (Nat.le_refl _) (.slice ba m.length bc) (.slice na l.length nc) j2 n1 0 ((j2 : Nat) : Int) (by simp) (n1 : Int) rfl).cell (Nat.le_refl _) 4 (.int .i64 y)).cell (Nat.le_refl _) 5 (.int .u32 (t : Int))).cell (Nat.le_refl _) 6 (.int .u64 (u : Int)))
  clear s5 g5 H4
  go_wp2_with fail
  generalize World.setCell _ ⟨tb, 6, none⟩ (.int .u64 (u : Int)) = Y6 at H6 ⊢
  clear v0 v1 v2 v3 v4 vf0 vf1 vf2 vf3 vf4 lv
  clear x0 x1 x2 x3 x4 xf0 xf1 xf2 xf3 xf4 l0
  clear t0 t1 t2 t3 t4 t5 t6 t7 t8 tf tf4 tf5 tf6 l3 e1 e2 e3 e4 e5 e6
  have hR : Hid (∀ w, Calls Tryz.prog 37 #[(.agg #[.int .i64 y, .int .u32 (t : Int), .int .u64 (u : Int)])] w fun e w' => e = .returned (.bool true) ∧ Gr (fun _ => False) w w') := Lib.hid (fun w => by have h := refId_c y (t : Int) (u : Int) hy0 ht0 hu0 w; have e : (decide (1 ≤ y) && (decide (y ≤ 64) && (decide (1 ≤ (t : Int)) && decide (1 ≤ (u : Int))))) = true := HI.out; rw [e] at h; exact h)
  have Hd := Lib.hid (H6.out.turn (Gr.drew _ (fun _ => False)))
  have s14 : S14 W.heap.size tb (.slice ba m.length bc) (.int .i64 ((j2 : Nat) : Int)) (.int .i64 (n1 : Int)) (.slice na l.length nc) (.int .i64 0) (.int .i64 4) (.int .i64 0) (.complex .f64 0 0) (.string e0) (.int .i64 y) (.int .u32 (t : Int)) (.int .u64 (u : Int)) nl nl Y6.drew := Hd.out.s14
  refine wp_region_L (L := 5) (T := S14 W.heap.size tb (.slice ba m.length bc) (.int .i64 ((j2 : Nat) : Int)) (.int .i64 (n1 : Int)) (.slice na l.length nc) (.int .i64 0) (.int .i64 4) (.int .i64 0) (.complex .f64 0 0) (.string e0) (.int .i64 y) (.int .u32 (t : Int)) (.int .u64 (u : Int)) nl nl) (by kernel_rfl) ?_
  refine wpAnyL_at (i := 0) (v := sv (.slice ba m.length bc) j2 n1 (.slice na l.length nc) 0) (some 142) rfl rfl (by kernel_rfl) (by kernel_rfl) (by kernel_rfl) (by kernel_rfl) (by decide) (fun _ _ _ h => h) (Or.inl ⟨by rfl, ?_⟩) s14 ?_
  · intro w hSw
    go_simp
  try simp only [Act.put, List.setIfInBounds_toArray, List.set_cons_zero, List.set_cons_succ]
  refine wpAnyL_at (i := 1) (v := (.pointer (some ⟨tb, 4, none⟩))) (some 143) rfl rfl (by kernel_rfl) (by kernel_rfl) (by kernel_rfl) (by kernel_rfl) (by decide) (fun _ _ _ h => h) (Or.inl ⟨by rfl, ?_⟩) s14 ?_
  · intro w hSw
    go_simp
  try simp only [Act.put, List.setIfInBounds_toArray, List.set_cons_zero, List.set_cons_succ]
  refine wpAnyL_at (i := 2) (v := (.agg #[.int .i64 y, .int .u32 (t : Int), .int .u64 (u : Int)])) (some 144) rfl rfl (by kernel_rfl) (by kernel_rfl) (by kernel_rfl) (by kernel_rfl) (by decide) (fun _ _ _ h => h) (Or.inl ⟨by rfl, ?_⟩) s14 ?_
  · intro w hSw
    go_simp
  try simp only [Act.put, List.setIfInBounds_toArray, List.set_cons_zero, List.set_cons_succ]
  refine wpAnyL_one (i := 3) (by kernel_rfl) rfl (fun K hK => ?_)
  go_simp
  refine (hR.out _).mono ?_
  rintro e wr ⟨rfl, gr⟩
  have Hr := Lib.hid (Hd.out.turn gr)
  have s15 : S14 W.heap.size tb (.slice ba m.length bc) (.int .i64 ((j2 : Nat) : Int)) (.int .i64 (n1 : Int)) (.slice na l.length nc) (.int .i64 0) (.int .i64 4) (.int .i64 0) (.complex .f64 0 0) (.string e0) (.int .i64 y) (.int .u32 (t : Int)) (.int .u64 (u : Int)) nl nl wr := Hr.out.s14
  refine hK.out _ _ (fun _ => s15) ?_
  clear hK K Hd s14
  try simp only [Act.put, List.setIfInBounds_toArray, List.set_cons_zero, List.set_cons_succ]
  refine wpAnyL_one (i := 4) (by kernel_rfl) rfl (fun K hK => ?_)
  go_simp
  refine (must_yes ba m.length bc na l.length nc j2 n1 0 _).mono ?_
  rintro e w7 ⟨rfl, g7⟩
  have s7 := Hr.out.turn g7
  obtain ⟨⟨x0, x1, x2, x3, x4⟩, xf0, xf1, xf2, xf3, xf4⟩ := five s7.sx.st
  have l0 := (Array.getElem?_eq_some_iff.1 s7.sx.st).1
  have s16 : S14 W.heap.size tb (.slice ba m.length bc) (.int .i64 ((j2 : Nat) : Int)) (.int .i64 (n1 : Int)) (.slice na l.length nc) (.int .i64 0) (.int .i64 4) (.int .i64 0) (.complex .f64 0 0) (.string e0) (.int .i64 y) (.int .u32 (t : Int)) (.int .u64 (u : Int)) nl nl w7 := s7.s14
  have H7 := Lib.hid (s7.set (Nat.le_refl _) (.slice ba m.length bc) (.slice na l.length nc) j2 n1 0 ((j2 : Nat) : Int) (by simp) (n1 : Int) rfl)
  refine hK.out _ _ (fun _ => s16) ?_
  clear hK K s7 Hr s15
  try simp only [Act.put, List.setIfInBounds_toArray, List.set_cons_zero, List.set_cons_succ]
  refine wpAnyL_one (i := 5) (by kernel_rfl) rfl (fun K hK => ?_)
  go_simp
  refine hK.out _ _ (fun h => absurd rfl h) ?_
  clear hK K s16
  try simp only [Act.put, List.setIfInBounds_toArray, List.set_cons_zero, List.set_cons_succ]
  refine wpAnyL_done (by kernel_rfl) ?_ _
  refine NoPanic.normal ?_
  go_wp2_with fail
  generalize World.setCell (World.setCell (World.setCell (World.setCell (World.setCell w7 _ _) _ _) _ _) _ _) _ _ = Y7 at H7 ⊢
  clear x0 x1 x2 x3 x4 xf0 xf1 xf2 xf3 xf4 l0
  obtain ⟨⟨x0, x1, x2, x3, x4⟩, xf0, xf1, xf2, xf3, xf4⟩ := five H7.out.sx.st
  have l0 := (Array.getElem?_eq_some_iff.1 H7.out.sx.st).1
  obtain ⟨⟨y0, y1, y2, y3, y4⟩, yf0, yf1, yf2, yf3, yf4⟩ := five H7.out.sx.out
  obtain ⟨⟨z0, z1, z2, z3, z4, z5, z6, z7, z8⟩, zf⟩ := nine H7.out.ot
  obtain ⟨⟨t0, t1, t2, t3, t4, t5, t6, t7, t8⟩, tf⟩ := nine H7.out.tm
  have l1 := (Array.getElem?_eq_some_iff.1 H7.out.sx.out).1
  have l2 := (Array.getElem?_eq_some_iff.1 H7.out.ot).1
  have l3 := (Array.getElem?_eq_some_iff.1 H7.out.tm).1
  have lt9 := H7.out.lt
  have HG := Lib.hid H7.out.sx.gr
  have lt8 : ¬ tb = W.heap.size := by omega
  have lt7 : ¬ tb = W.heap.size + 1 := by omega
  have lt6 : ¬ tb = W.heap.size + 1 + 1 := by omega
  have lt5 : ¬ W.heap.size + 1 = tb := by omega
  have lt4 : ¬ W.heap.size + 1 + 1 = tb := by omega
  go_region
  all_goals
    go_wp2
    refine bodyPost_ret (v := .tuple #[sv (.slice ba m.length bc) j2 n1 (.slice na l.length nc) 0, lf 4 0 0 0 e0 y (t : Int) (u : Int)]) (by simp [results, Tryz.results16, go_sem, y0, y1, y2, y3, y4, z0, z1, z2, z3, z4, z5, z6, z7, z8, l0, l1, l2]) rfl ?_
    refine ⟨⟨j2, _, _, _, Hj2.out, Hjr2.out, by rw [← Hn1.out], ⟨_, _, [], rfl, .inl ⟨rfl, _, _, rfl⟩, .inl ⟨rfl, _, _, rfl⟩, rfl⟩, ?_, Hn4.out, Hl4.out⟩, ((HG.out.set5 (g := W.heap.size + 1) (Nat.le_succ _) _ _ _ _ _).set9 (g := W.heap.size + 1 + 1) (by omega) _ _ _ _ _ _ _ _ _).trans (Gr.drew _ _)⟩
    exact Hs.out.gr (((HG.out.set5 (g := W.heap.size + 1) (Nat.le_succ _) _ _ _ _ _).set9 (g := W.heap.size + 1 + 1) (by omega) _ _ _ _ _ _ _ _ _).trans (Gr.drew _ _)) (fun _ _ e => e)
set_option maxRecDepth 20000 in
set_option maxHeartbeats 800000 in
theorem part_5f (ba : Option Addr) (bc : Nat) (na : Option Addr) (nc : Nat) (m : List Int) (l : List ByteArray) (i n : Nat) (d : Int) (hi : i ≤ m.length) (hn : n ≤ 4096) (W : World) (hd : d ≤ 24) (x : Int) (hb : n < 4096) (hmx : m[i]? = some x) (hq : Sq Z W (.slice ba m.length bc) m) (hx3 : x = 5) (y : Int) (hmy : m[i + 1]? = some y) (t : Nat) (r2 : List Int) (hr : nmb 10 0 0 (m.drop (i + 1 + 1)) = .ok (t, r2)) (hg : t ≤ 4294967295) (u : Nat) (r3 : List Int) (hr2 : nmb 10 0 0 r2 = .ok (u, r3)) (hI : idOk y (t : Int) (u : Int) = true) (hs : Snap W (.slice na l.length nc) l) (hl : l.length ≤ n) : Calls Tryz.prog 16 #[sv (.slice ba m.length bc) i n (.slice na l.length nc) 0, .int .i64 d] W fun e w' => (EndP ba bc m W e w' (.ok (.mk { k := 5, a := y, c := (t : Int), d := (u : Int) } [] [], r3, n + 1, l))) ∧ Gr (fun _ => False) W w' := by
  have hx := Lib.hid (Sq0.new W (.slice ba m.length bc) (.slice na l.length nc) i n 0)
  have hnI : (n : Int) ≤ 4096 := by omega
  have hn0 : (0 : Int) ≤ (n : Int) := by omega
  obtain ⟨n1, hn1⟩ : ∃ n1, n + 1 = n1 := ⟨_, rfl⟩
  have hn1I : (n : Int) + 1 = (n1 : Int) := by omega
  have hn1b : (n1 : Int) ≤ 5000 := by omega
  have hn1c : (0 : Int) ≤ (n1 : Int) := by omega
  have Hn1 := Lib.hid hn1
  have Hn := Lib.hid hn
  clear hn1 hn
  have hdI : decide ((24 : Int) < d) = false := by simp; omega
  clear hd
  have hbI : decide ((4096 : Int) < (n1 : Int)) = false := by simp; omega
  have h1 := Lib.hid (fun w g => rone_ok ba bc na l.length nc i n1 m x hmx w (hq.gr (g : Gr (fun _ => False) W w) (fun _ _ e => e)))
  have hxb := hq.byte x (List.mem_of_getElem? hmx)
  have hx0 : (0 : Int) ≤ x := hxb.1
  have hx1 : x < 256 := hxb.2
  have hone := Lib.hid (fun w (g : Gr (fun _ => False) W w) => rone_ok ba bc na l.length nc (i + 1) n1 m y hmy w (hq.gr g (fun _ _ e => e)))
  have hyb := hq.byte y (List.mem_of_getElem? hmy)
  have hy0 : (0 : Int) ≤ y := hyb.1
  have hy1 : y < 256 := hyb.2
  have h3 := Lib.hid (fun w (g : Gr (fun _ => False) W w) => wide_e ba bc na l.length nc m (i + 1 + 1) n1 (by have := (List.getElem?_eq_some_iff.1 hmy).1; omega) w (hq.gr g (fun _ _ e => e)))
  rw [hr] at h3
  have hgI : (t : Int) < 4294967296 := by omega
  have hgN : decide (t < 4294967296) = true := by simp; omega
  have h5 : Hid (∀ w, Gr (fun _ => False) W w → ∀ j, j ≤ m.length → m.drop j = r2 → Calls Tryz.prog 31 #[sv (.slice ba m.length bc) j n1 (.slice na l.length nc) 0] w fun e w' => EndU2 ba bc na l.length nc m n1 e (.ok (u, r3)) ∧ Gr (fun _ => False) w w') := Lib.hid (fun w g j hj hjr => by have h := wide_e ba bc na l.length nc m j n1 hj w (hq.gr g (fun _ _ e => e)); rw [hjr, hr2] at h; exact h)
  have HI := Lib.hid hI
  have Hs := Lib.hid hs
  have Hn4 : Hid (n + 1 ≤ 4096) := Lib.hid hb
  have Hl4 : Hid (l.length ≤ n + 1) := Lib.hid (by omega)
  clear hb hmx hq hxb hx0 hx1 hmy hyb hr hg hr2 hI hs hl
  subst hx3
  go_enter Tryz.func16, Tryz.ntmps16
  go_wp2_with fail
  generalize hW1 : World.alloc (World.alloc (World.alloc W _) _) _ = W1
  have H0 : Hid (Sq0 W W.heap.size (.slice ba m.length bc) (.slice na l.length nc) i n1 0 W1) := Lib.hid (hW1 ▸ Sq0.new W (.slice ba m.length bc) (.slice na l.length nc) i n1 0)
  clear hW1 hx
  refine (h1.out _ H0.out.sx.gr).mono ?_
  rintro e w1 ⟨rfl, g1⟩
  have s1 := H0.out.turn g1
  obtain ⟨⟨x0, x1, x2, x3, x4⟩, xf0, xf1, xf2, xf3, xf4⟩ := five s1.sx.st
  have l0 := (Array.getElem?_eq_some_iff.1 s1.sx.st).1
  have H1 := Lib.hid ((s1.set (Nat.le_refl _) (.slice ba m.length bc) (.slice na l.length nc) (i + 1) n1 0 ((i : Int) + 1) (by simp) (n1 : Int) rfl).term #[.int .i64 5, .int .i64 0, .complex .f64 0 0, .string e0, .int .i64 0, .int .u32 0, .int .u64 0, nl, nl] w1.heap.size (by simp))
  clear s1 g1 H0
  go_wp2_with fail
  generalize World.alloc _ _ = Y1 at H1 ⊢
  generalize w1.heap.size = tb at H1 ⊢
  clear x0 x1 x2 x3 x4 xf0 xf1 xf2 xf3 xf4 l0
  refine (hone.out _ H1.out.sx.gr).mono ?_
  rintro e w2 ⟨rfl, g2⟩
  have s2 := H1.out.turn g2
  have H2 := Lib.hid (s2.second (i + 1 + 1) n1 0 ((i : Int) + 1 + 1) (by simp) w2.heap.size rfl)
  clear s2 g2 H1
  go_wp2_with fail
  generalize World.alloc _ _ = Y2 at H2 ⊢
  generalize w2.heap.size = yb at H2 ⊢
  refine (h3.out _ H2.out.sp.sx.gr).mono ?_
  rintro e w3 ⟨⟨j, hj, hjr, hu, rfl⟩, g3⟩
  have Hj := Lib.hid hj
  have Hjr := Lib.hid hjr
  have htI : (t : Int) < 18446744073709551616 := by omega
  have ht0 : (0 : Int) ≤ (t : Int) := by omega
  clear hj hjr hu
  have s3 := H2.out.turn g3
  obtain ⟨⟨v0, v1, v2, v3, v4⟩, vf0, vf1, vf2, vf3, vf4⟩ := five s3.ys
  have lv := (Array.getElem?_eq_some_iff.1 s3.ys).1
  have H3 := Lib.hid (s3.sety (Nat.le_refl _) j n1 0 ((j : Nat) : Int) (by simp))
  clear s3 g3 H2
  go_wp2_with fail
  generalize World.setCell (World.setCell (World.setCell (World.setCell (World.setCell w3 _ _) _ _) _ _) _ _) _ _ = Y3 at H3 ⊢
  clear v0 v1 v2 v3 v4 vf0 vf1 vf2 vf3 vf4 lv
  refine (must_yes ba m.length bc na l.length nc j n1 0 _).mono ?_
  rintro e w4 ⟨rfl, g4⟩
  have s4 := H3.out.turn g4
  obtain ⟨⟨v0, v1, v2, v3, v4⟩, vf0, vf1, vf2, vf3, vf4⟩ := five s4.ys
  have lv := (Array.getElem?_eq_some_iff.1 s4.ys).1
  have H4 := Lib.hid (s4.sety (Nat.le_refl _) j n1 0 ((j : Nat) : Int) (by simp))
  clear s4 g4 H3
  go_wp2_with fail
  generalize World.setCell (World.setCell (World.setCell (World.setCell (World.setCell w4 _ _) _ _) _ _) _ _) _ _ = Y4 at H4 ⊢
  clear v0 v1 v2 v3 v4 vf0 vf1 vf2 vf3 vf4 lv
  refine (h5.out _ H4.out.sp.sx.gr j Hj.out Hjr.out).mono ?_
  rintro e w5 ⟨⟨j2, hj2, hjr2, hu2, rfl⟩, g5⟩
  have Hj2 := Lib.hid hj2
  have Hjr2 := Lib.hid hjr2
  have huI : (u : Int) < 18446744073709551616 := by omega
  have hu0 : (0 : Int) ≤ (u : Int) := by omega
  clear hj2 hjr2 hu2
  have s5 := H4.out.turn g5
  obtain ⟨⟨v0, v1, v2, v3, v4⟩, vf0, vf1, vf2, vf3, vf4⟩ := five s5.ys
  have lv := (Array.getElem?_eq_some_iff.1 s5.ys).1
  obtain ⟨⟨x0, x1, x2, x3, x4⟩, xf0, xf1, xf2, xf3, xf4⟩ := five s5.sp.sx.st
  have l0 := (Array.getElem?_eq_some_iff.1 s5.sp.sx.st).1
  obtain ⟨⟨t0, t1, t2, t3, t4, t5, t6, t7, t8⟩, tf⟩ := nine s5.sp.tm
  have tf4 := tf 4
  have tf5 := tf 5
  have tf6 := tf 6
  have l3 := (Array.getElem?_eq_some_iff.1 s5.sp.tm).1
  have e1 : ¬ tb = W.heap.size := by have := s5.sp.lt; omega
  have e2 : ¬ W.heap.size = tb := by have := s5.sp.lt; omega
  have e3 : ¬ yb = W.heap.size := by have := s5.sp.lt; have := s5.lt; omega
  have e4 : ¬ W.heap.size = yb := by have := s5.sp.lt; have := s5.lt; omega
  have e5 : ¬ yb = tb := by have := s5.lt; omega
  have e6 : ¬ tb = yb := by have := s5.lt; omega
  have H6 : Hid (Sp W W.heap.size tb (.slice ba m.length bc) (.slice na l.length nc) j2 n1 0 #[.int .i64 5, .int .i64 0, .complex .f64 0 0, .string e0, .int .i64 y, .int .u32 (t : Int), .int .u64 (u : Int), nl, nl] _) := Lib.hid ((((((s5.sety (Nat.le_refl _) j2 n1 0 ((j2 : Nat) : Int) (by simp)).sp).set (Nat.le_refl _) (.slice ba m.length bc) (.slice na l.length nc) j2 n1 0 ((j2 : Nat) : Int) (by simp) (n1 : Int) rfl).cell (Nat.le_refl _) 4 (.int .i64 y)).cell (Nat.le_refl _) 5 (.int .u32 (t : Int))).cell (Nat.le_refl _) 6 (.int .u64 (u : Int)))
  clear s5 g5 H4
  go_wp2_with fail
  generalize World.setCell _ ⟨tb, 6, none⟩ (.int .u64 (u : Int)) = Y6 at H6 ⊢
  clear v0 v1 v2 v3 v4 vf0 vf1 vf2 vf3 vf4 lv
  clear x0 x1 x2 x3 x4 xf0 xf1 xf2 xf3 xf4 l0
  clear t0 t1 t2 t3 t4 t5 t6 t7 t8 tf tf4 tf5 tf6 l3 e1 e2 e3 e4 e5 e6
  have hR : Hid (∀ w, Calls Tryz.prog 37 #[(.agg #[.int .i64 y, .int .u32 (t : Int), .int .u64 (u : Int)])] w fun e w' => e = .returned (.bool true) ∧ Gr (fun _ => False) w w') := Lib.hid (fun w => by have h := refId_c y (t : Int) (u : Int) hy0 ht0 hu0 w; have e : (decide (1 ≤ y) && (decide (y ≤ 64) && (decide (1 ≤ (t : Int)) && decide (1 ≤ (u : Int))))) = true := HI.out; rw [e] at h; exact h)
  have Hd := Lib.hid (H6.out.turn (Gr.drew _ (fun _ => False)))
  have s14 : S14 W.heap.size tb (.slice ba m.length bc) (.int .i64 ((j2 : Nat) : Int)) (.int .i64 (n1 : Int)) (.slice na l.length nc) (.int .i64 0) (.int .i64 5) (.int .i64 0) (.complex .f64 0 0) (.string e0) (.int .i64 y) (.int .u32 (t : Int)) (.int .u64 (u : Int)) nl nl Y6.drew := Hd.out.s14
  refine wp_region_L (L := 5) (T := S14 W.heap.size tb (.slice ba m.length bc) (.int .i64 ((j2 : Nat) : Int)) (.int .i64 (n1 : Int)) (.slice na l.length nc) (.int .i64 0) (.int .i64 5) (.int .i64 0) (.complex .f64 0 0) (.string e0) (.int .i64 y) (.int .u32 (t : Int)) (.int .u64 (u : Int)) nl nl) (by kernel_rfl) ?_
  refine wpAnyL_at (i := 0) (v := sv (.slice ba m.length bc) j2 n1 (.slice na l.length nc) 0) (some 142) rfl rfl (by kernel_rfl) (by kernel_rfl) (by kernel_rfl) (by kernel_rfl) (by decide) (fun _ _ _ h => h) (Or.inl ⟨by rfl, ?_⟩) s14 ?_
  · intro w hSw
    go_simp
  try simp only [Act.put, List.setIfInBounds_toArray, List.set_cons_zero, List.set_cons_succ]
  refine wpAnyL_at (i := 1) (v := (.pointer (some ⟨tb, 4, none⟩))) (some 143) rfl rfl (by kernel_rfl) (by kernel_rfl) (by kernel_rfl) (by kernel_rfl) (by decide) (fun _ _ _ h => h) (Or.inl ⟨by rfl, ?_⟩) s14 ?_
  · intro w hSw
    go_simp
  try simp only [Act.put, List.setIfInBounds_toArray, List.set_cons_zero, List.set_cons_succ]
  refine wpAnyL_at (i := 2) (v := (.agg #[.int .i64 y, .int .u32 (t : Int), .int .u64 (u : Int)])) (some 144) rfl rfl (by kernel_rfl) (by kernel_rfl) (by kernel_rfl) (by kernel_rfl) (by decide) (fun _ _ _ h => h) (Or.inl ⟨by rfl, ?_⟩) s14 ?_
  · intro w hSw
    go_simp
  try simp only [Act.put, List.setIfInBounds_toArray, List.set_cons_zero, List.set_cons_succ]
  refine wpAnyL_one (i := 3) (by kernel_rfl) rfl (fun K hK => ?_)
  go_simp
  refine (hR.out _).mono ?_
  rintro e wr ⟨rfl, gr⟩
  have Hr := Lib.hid (Hd.out.turn gr)
  have s15 : S14 W.heap.size tb (.slice ba m.length bc) (.int .i64 ((j2 : Nat) : Int)) (.int .i64 (n1 : Int)) (.slice na l.length nc) (.int .i64 0) (.int .i64 5) (.int .i64 0) (.complex .f64 0 0) (.string e0) (.int .i64 y) (.int .u32 (t : Int)) (.int .u64 (u : Int)) nl nl wr := Hr.out.s14
  refine hK.out _ _ (fun _ => s15) ?_
  clear hK K Hd s14
  try simp only [Act.put, List.setIfInBounds_toArray, List.set_cons_zero, List.set_cons_succ]
  refine wpAnyL_one (i := 4) (by kernel_rfl) rfl (fun K hK => ?_)
  go_simp
  refine (must_yes ba m.length bc na l.length nc j2 n1 0 _).mono ?_
  rintro e w7 ⟨rfl, g7⟩
  have s7 := Hr.out.turn g7
  obtain ⟨⟨x0, x1, x2, x3, x4⟩, xf0, xf1, xf2, xf3, xf4⟩ := five s7.sx.st
  have l0 := (Array.getElem?_eq_some_iff.1 s7.sx.st).1
  have s16 : S14 W.heap.size tb (.slice ba m.length bc) (.int .i64 ((j2 : Nat) : Int)) (.int .i64 (n1 : Int)) (.slice na l.length nc) (.int .i64 0) (.int .i64 5) (.int .i64 0) (.complex .f64 0 0) (.string e0) (.int .i64 y) (.int .u32 (t : Int)) (.int .u64 (u : Int)) nl nl w7 := s7.s14
  have H7 := Lib.hid (s7.set (Nat.le_refl _) (.slice ba m.length bc) (.slice na l.length nc) j2 n1 0 ((j2 : Nat) : Int) (by simp) (n1 : Int) rfl)
  refine hK.out _ _ (fun _ => s16) ?_
  clear hK K s7 Hr s15
  try simp only [Act.put, List.setIfInBounds_toArray, List.set_cons_zero, List.set_cons_succ]
  refine wpAnyL_one (i := 5) (by kernel_rfl) rfl (fun K hK => ?_)
  go_simp
  refine hK.out _ _ (fun h => absurd rfl h) ?_
  clear hK K s16
  try simp only [Act.put, List.setIfInBounds_toArray, List.set_cons_zero, List.set_cons_succ]
  refine wpAnyL_done (by kernel_rfl) ?_ _
  refine NoPanic.normal ?_
  go_wp2_with fail
  generalize World.setCell (World.setCell (World.setCell (World.setCell (World.setCell w7 _ _) _ _) _ _) _ _) _ _ = Y7 at H7 ⊢
  clear x0 x1 x2 x3 x4 xf0 xf1 xf2 xf3 xf4 l0
  obtain ⟨⟨x0, x1, x2, x3, x4⟩, xf0, xf1, xf2, xf3, xf4⟩ := five H7.out.sx.st
  have l0 := (Array.getElem?_eq_some_iff.1 H7.out.sx.st).1
  obtain ⟨⟨y0, y1, y2, y3, y4⟩, yf0, yf1, yf2, yf3, yf4⟩ := five H7.out.sx.out
  obtain ⟨⟨z0, z1, z2, z3, z4, z5, z6, z7, z8⟩, zf⟩ := nine H7.out.ot
  obtain ⟨⟨t0, t1, t2, t3, t4, t5, t6, t7, t8⟩, tf⟩ := nine H7.out.tm
  have l1 := (Array.getElem?_eq_some_iff.1 H7.out.sx.out).1
  have l2 := (Array.getElem?_eq_some_iff.1 H7.out.ot).1
  have l3 := (Array.getElem?_eq_some_iff.1 H7.out.tm).1
  have lt9 := H7.out.lt
  have HG := Lib.hid H7.out.sx.gr
  have lt8 : ¬ tb = W.heap.size := by omega
  have lt7 : ¬ tb = W.heap.size + 1 := by omega
  have lt6 : ¬ tb = W.heap.size + 1 + 1 := by omega
  have lt5 : ¬ W.heap.size + 1 = tb := by omega
  have lt4 : ¬ W.heap.size + 1 + 1 = tb := by omega
  go_region
  all_goals
    go_wp2
    refine bodyPost_ret (v := .tuple #[sv (.slice ba m.length bc) j2 n1 (.slice na l.length nc) 0, lf 5 0 0 0 e0 y (t : Int) (u : Int)]) (by simp [results, Tryz.results16, go_sem, y0, y1, y2, y3, y4, z0, z1, z2, z3, z4, z5, z6, z7, z8, l0, l1, l2]) rfl ?_
    refine ⟨⟨j2, _, _, _, Hj2.out, Hjr2.out, by rw [← Hn1.out], ⟨_, _, [], rfl, .inl ⟨rfl, _, _, rfl⟩, .inl ⟨rfl, _, _, rfl⟩, rfl⟩, ?_, Hn4.out, Hl4.out⟩, ((HG.out.set5 (g := W.heap.size + 1) (Nat.le_succ _) _ _ _ _ _).set9 (g := W.heap.size + 1 + 1) (by omega) _ _ _ _ _ _ _ _ _).trans (Gr.drew _ _)⟩
    exact Hs.out.gr (((HG.out.set5 (g := W.heap.size + 1) (Nat.le_succ _) _ _ _ _ _).set9 (g := W.heap.size + 1 + 1) (by omega) _ _ _ _ _ _ _ _ _).trans (Gr.drew _ _)) (fun _ _ e => e)
end Go.Proofs.YtmohehfkbhllpaaGreat
