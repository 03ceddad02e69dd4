/-
  The reference's reader: complex numbers.
-/
import Derived.Test.YtmohehfkbhllpaaGreatVF
set_option linter.unusedVariables false
set_option linter.unusedSimpArgs false
namespace Go.Proofs.YtmohehfkbhllpaaGreat
open Go.RowKit Go.Maps
variable {S S' Z : Nat → Prop} {W W1 W' : World}
set_option maxRecDepth 20000 in
set_option maxHeartbeats 800000 in
theorem part_2s (ba : Option Addr) (bc : Nat) (na : Option Addr) (nc : Nat) (m : List Int) (l : List ByteArray) (i n : Nat) (d : Int) (hi : i ≤ m.length) (hn : n ≤ 4096) (W : World) (hd : d ≤ 24) (x : Int) (hb : n < 4096) (hmx : m[i]? = some x) (hq : Sq Z W (.slice ba m.length bc) m) (hx3 : x = 2) (hsh : m.length < i + 1 + 16) : Calls Tryz.prog 16 #[sv (.slice ba m.length bc) i n (.slice na l.length nc) 0, .int .i64 d] W fun e w' => (EndP ba bc m W e w' (.error 72)) ∧ Gr (fun _ => False) W w' := by
  have hx := Lib.hid (Sq0.new W (.slice ba m.length bc) (.slice na l.length nc) i n 0)
  have hnI : (n : Int) ≤ 4096 := by omega
  have hn0 : (0 : Int) ≤ (n : Int) := by omega
  obtain ⟨n1, hn1⟩ : ∃ n1, n + 1 = n1 := ⟨_, rfl⟩
  have hn1I : (n : Int) + 1 = (n1 : Int) := by omega
  have hn1b : (n1 : Int) ≤ 5000 := by omega
  have hn1c : (0 : Int) ≤ (n1 : Int) := by omega
  have Hn1 := Lib.hid hn1
  have Hn := Lib.hid hn
  clear hn1 hn
  have hdI : decide ((24 : Int) < d) = false := by simp; omega
  clear hd
  have hbI : decide ((4096 : Int) < (n1 : Int)) = false := by simp; omega
  have h1 := Lib.hid (fun w g => rone_ok ba bc na l.length nc i n1 m x hmx w (hq.gr (g : Gr (fun _ => False) W w) (fun _ _ e => e)))
  have hxb := hq.byte x (List.mem_of_getElem? hmx)
  have hx0 : (0 : Int) ≤ x := hxb.1
  have hx1 : x < 256 := hxb.2
  have h34 := Lib.hid (fun w (g : Gr (fun _ => False) W w) => some_c ba bc na l.length nc m (i + 1) n1 16 (by have := (List.getElem?_eq_some_iff.1 hmx).1; omega) (by omega) w (hq.gr g (fun _ _ e => e)))
  have Hsh := Lib.hid hsh
  clear hb hmx hq hxb hx0 hx1 hsh
  subst hx3
  go_enter Tryz.func16, Tryz.ntmps16
  go_wp2_with fail
  generalize hW1 : World.alloc (World.alloc (World.alloc W _) _) _ = W1
  have H0 : Hid (Sq0 W W.heap.size (.slice ba m.length bc) (.slice na l.length nc) i n1 0 W1) := Lib.hid (hW1 ▸ Sq0.new W (.slice ba m.length bc) (.slice na l.length nc) i n1 0)
  clear hW1 hx
  refine (h1.out _ H0.out.sx.gr).mono ?_
  rintro e w1 ⟨rfl, g1⟩
  have s1 := H0.out.turn g1
  obtain ⟨⟨x0, x1, x2, x3, x4⟩, xf0, xf1, xf2, xf3, xf4⟩ := five s1.sx.st
  have l0 := (Array.getElem?_eq_some_iff.1 s1.sx.st).1
  have H1 := Lib.hid ((s1.set (Nat.le_refl _) (.slice ba m.length bc) (.slice na l.length nc) (i + 1) n1 0 ((i : Int) + 1) (by simp) (n1 : Int) rfl).term #[.int .i64 2, .int .i64 0, .complex .f64 0 0, .string e0, .int .i64 0, .int .u32 0, .int .u64 0, nl, nl] w1.heap.size (by simp))
  clear s1 g1 H0
  go_wp2_with fail
  generalize World.alloc _ _ = Y1 at H1 ⊢
  generalize w1.heap.size = tb at H1 ⊢
  clear x0 x1 x2 x3 x4 xf0 xf1 xf2 xf3 xf4 l0
  refine (h34.out _ H1.out.sx.gr).mono ?_
  rintro e w2 ⟨he, g2⟩
  unfold EndS at he
  rw [if_neg (by have := Hsh.out; omega)] at he
  obtain ⟨jz, uv, lz, rfl, hob⟩ := he
  obtain ⟨ua, uc, rfl⟩ := hob.sv
  clear hob
  have s2 := H1.out.turn g2
  obtain ⟨⟨x0, x1, x2, x3, x4⟩, xf0, xf1, xf2, xf3, xf4⟩ := five s2.sx.st
  have l0 := (Array.getElem?_eq_some_iff.1 s2.sx.st).1
  have H2 := Lib.hid ((s2.set (Nat.le_refl _) (.slice ba m.length bc) (.slice na l.length nc) jz n1 72 ((jz : Nat) : Int) (by simp) (n1 : Int) rfl).turn (Gr.alloc _ (.cells #[(.slice ba m.length bc), .int .i64 ((jz : Nat) : Int), .int .i64 (n1 : Int), (.slice na l.length nc), .int .i64 72] 51) _))
  clear s2 g2 H1
  go_wp2_with fail
  generalize World.alloc _ _ = Y2 at H2 ⊢
  clear x0 x1 x2 x3 x4 xf0 xf1 xf2 xf3 xf4 l0
  obtain ⟨⟨x0, x1, x2, x3, x4⟩, xf0, xf1, xf2, xf3, xf4⟩ := five H2.out.sx.st
  have l0 := (Array.getElem?_eq_some_iff.1 H2.out.sx.st).1
  obtain ⟨⟨y0, y1, y2, y3, y4⟩, yf0, yf1, yf2, yf3, yf4⟩ := five H2.out.sx.out
  obtain ⟨⟨z0, z1, z2, z3, z4, z5, z6, z7, z8⟩, zf⟩ := nine H2.out.ot
  obtain ⟨⟨t0, t1, t2, t3, t4, t5, t6, t7, t8⟩, tf⟩ := nine H2.out.tm
  have l1 := (Array.getElem?_eq_some_iff.1 H2.out.sx.out).1
  have l2 := (Array.getElem?_eq_some_iff.1 H2.out.ot).1
  have l3 := (Array.getElem?_eq_some_iff.1 H2.out.tm).1
  have lt9 := H2.out.lt
  have HG := Lib.hid H2.out.sx.gr
  have lt8 : ¬ tb = W.heap.size := by omega
  have lt7 : ¬ tb = W.heap.size + 1 := by omega
  have lt6 : ¬ tb = W.heap.size + 1 + 1 := by omega
  have lt5 : ¬ W.heap.size + 1 = tb := by omega
  have lt4 : ¬ W.heap.size + 1 + 1 = tb := by omega
  go_region
  all_goals
    go_wp2
    refine bodyPost_ret (v := .tuple #[sv (.slice ba m.length bc) jz n1 (.slice na l.length nc) 72, lf 2 0 0 0 e0 0 0 0]) (by simp [results, Tryz.results16, go_sem, y0, y1, y2, y3, y4, z0, z1, z2, z3, z4, z5, z6, z7, z8, l0, l1, l2]) rfl ?_
    exact ⟨⟨_, _, _, _, _, _, _, _, _, _, _, _, _, _, _, _, _, _, _, rfl⟩, ((HG.out.set5 (g := W.heap.size + 1) (Nat.le_succ _) _ _ _ _ _).set9 (g := W.heap.size + 1 + 1) (by omega) _ _ _ _ _ _ _ _ _).trans (Gr.drew _ _)⟩
theorem Ob.halves {base : Nat} {ua : Option Addr} {uc : Nat} {l : List Int} {X : World} (h : Ob base X (.slice ua l.length uc) l) (hl : l.length = 16) (hb : ∀ x ∈ l, 0 ≤ x ∧ x < 256) : ∃ g, ua = some ⟨g, 0, none⟩ ∧ 16 ≤ uc ∧ uc ≤ 9223372036854775807 ∧ Sq (fun _ => True) X (.slice (some ⟨g, 0, none⟩) 8 uc) (l.take 8) ∧ Sq (fun _ => True) X (.slice (some ⟨g, 8, none⟩) 8 (uc - 8)) (l.drop 8) := by
  rcases h.row.2 with ⟨h1, h2⟩ | ⟨g, cap, cur, e, hbb, hg, hc, hm, h5, h6⟩
  · omega
  · cases e
    have hcell : ∀ j u, l[j]? = some u → X.cell? ⟨g, j, none⟩ = some (.int .u8 u) := fun j u hu => by
      have hj := (List.getElem?_eq_some_iff.1 hu).1
      have e1 : (cur.toList.take (l.length * 1))[j]? = some (.int .u8 u) := by rw [h6]; simp [u8s, hu]
      rw [List.getElem?_take_of_lt (by omega)] at e1
      simp only [World.cell?, hg]
      simpa using e1
    have hcm : uc ≤ 9223372036854775807 := by unfold maxLen at hm; omega
    refine ⟨g, rfl, by omega, hcm, ⟨_, _, by rw [List.length_take, hl]; rfl, by rw [List.length_take]; omega, hcm, fun x hx => hb x (List.mem_of_mem_take hx), fun _ => ⟨g, 0, rfl, trivial, fun j u hu => ?_⟩⟩, ⟨_, _, by rw [List.length_drop, hl], by rw [List.length_drop]; omega, by omega, fun x hx => hb x (List.mem_of_mem_drop hx), fun _ => ⟨g, 8, rfl, trivial, fun j u hu => ?_⟩⟩⟩
    · rw [Nat.zero_add]
      rw [List.getElem?_take] at hu
      split at hu
      · exact hcell j u hu
      · cases hu
    · rw [List.getElem?_drop] at hu
      exact hcell _ u hu
set_option maxRecDepth 20000 in
set_option maxHeartbeats 800000 in
theorem part_2n (ba : Option Addr) (bc : Nat) (na : Option Addr) (nc : Nat) (m : List Int) (l : List ByteArray) (i n : Nat) (d : Int) (hi : i ≤ m.length) (hn : n ≤ 4096) (W : World) (hd : d ≤ 24) (x : Int) (hb : n < 4096) (hmx : m[i]? = some x) (hq : Sq Z W (.slice ba m.length bc) m) (hx3 : x = 2) (hsh : i + 1 + 16 ≤ m.length) (hI : (rp (be ((m.drop (i + 1)).take 8)) && rp (be (((m.drop (i + 1)).drop 8).take 8))) = false) : Calls Tryz.prog 16 #[sv (.slice ba m.length bc) i n (.slice na l.length nc) 0, .int .i64 d] W fun e w' => (EndP ba bc m W e w' (.error 73)) ∧ Gr (fun _ => False) W w' := by
  have hx := Lib.hid (Sq0.new W (.slice ba m.length bc) (.slice na l.length nc) i n 0)
  have hnI : (n : Int) ≤ 4096 := by omega
  have hn0 : (0 : Int) ≤ (n : Int) := by omega
  obtain ⟨n1, hn1⟩ : ∃ n1, n + 1 = n1 := ⟨_, rfl⟩
  have hn1I : (n : Int) + 1 = (n1 : Int) := by omega
  have hn1b : (n1 : Int) ≤ 5000 := by omega
  have hn1c : (0 : Int) ≤ (n1 : Int) := by omega
  have Hn1 := Lib.hid hn1
  have Hn := Lib.hid hn
  clear hn1 hn
  have hdI : decide ((24 : Int) < d) = false := by simp; omega
  clear hd
  have hbI : decide ((4096 : Int) < (n1 : Int)) = false := by simp; omega
  have h1 := Lib.hid (fun w g => rone_ok ba bc na l.length nc i n1 m x hmx w (hq.gr (g : Gr (fun _ => False) W w) (fun _ _ e => e)))
  have hxb := hq.byte x (List.mem_of_getElem? hmx)
  have hx0 : (0 : Int) ≤ x := hxb.1
  have hx1 : x < 256 := hxb.2
  have h34 := Lib.hid (fun w (g : Gr (fun _ => False) W w) => some_c ba bc na l.length nc m (i + 1) n1 16 (by have := (List.getElem?_eq_some_iff.1 hmx).1; omega) (by omega) w (hq.gr g (fun _ _ e => e)))
  have Hsh := Lib.hid hsh
  have hby := Lib.hid hq.byte
  have HI := Lib.hid hI
  clear hI
  clear hb hmx hq hxb hx0 hx1 hsh
  subst hx3
  go_enter Tryz.func16, Tryz.ntmps16
  go_wp2_with fail
  generalize hW1 : World.alloc (World.alloc (World.alloc W _) _) _ = W1
  have H0 : Hid (Sq0 W W.heap.size (.slice ba m.length bc) (.slice na l.length nc) i n1 0 W1) := Lib.hid (hW1 ▸ Sq0.new W (.slice ba m.length bc) (.slice na l.length nc) i n1 0)
  clear hW1 hx
  refine (h1.out _ H0.out.sx.gr).mono ?_
  rintro e w1 ⟨rfl, g1⟩
  have s1 := H0.out.turn g1
  obtain ⟨⟨x0, x1, x2, x3, x4⟩, xf0, xf1, xf2, xf3, xf4⟩ := five s1.sx.st
  have l0 := (Array.getElem?_eq_some_iff.1 s1.sx.st).1
  have H1 := Lib.hid ((s1.set (Nat.le_refl _) (.slice ba m.length bc) (.slice na l.length nc) (i + 1) n1 0 ((i : Int) + 1) (by simp) (n1 : Int) rfl).term #[.int .i64 2, .int .i64 0, .complex .f64 0 0, .string e0, .int .i64 0, .int .u32 0, .int .u64 0, nl, nl] w1.heap.size (by simp))
  clear s1 g1 H0
  go_wp2_with fail
  generalize World.alloc _ _ = Y1 at H1 ⊢
  generalize w1.heap.size = tb at H1 ⊢
  clear x0 x1 x2 x3 x4 xf0 xf1 xf2 xf3 xf4 l0
  refine (h34.out _ H1.out.sx.gr).mono ?_
  rintro e w2 ⟨he, g2⟩
  unfold EndS at he
  rw [if_pos (by have := Hsh.out; omega)] at he
  obtain ⟨jz, hjz⟩ : ∃ jz, i + 1 + 16 = jz := ⟨_, rfl⟩
  obtain ⟨lz, hlz⟩ : ∃ lz, (m.drop (i + 1)).take 16 = lz := ⟨_, rfl⟩
  rw [hjz, hlz] at he
  obtain ⟨uv, rfl, hob⟩ := he
  obtain ⟨ua, uc, rfl⟩ := hob.sv
  have hll : lz.length = 16 := by rw [← hlz, List.length_take, List.length_drop]; have := Hsh.out; omega
  have hlb : ∀ x ∈ lz, 0 ≤ x ∧ x < 256 := fun x hx => hby.out x (by rw [← hlz] at hx; exact List.mem_of_mem_drop (List.mem_of_mem_take hx))
  have Hjz : Hid (jz = i + 1 + 16 ∧ lz = (m.drop (i + 1)).take 16) := Lib.hid ⟨hjz.symm, hlz.symm⟩
  have hlN : W.heap.size < Y1.heap.size := (Array.getElem?_eq_some_iff.1 H1.out.sx.st).1
  clear hjz hlz
  have s2 := H1.out.turn g2
  obtain ⟨⟨x0, x1, x2, x3, x4⟩, xf0, xf1, xf2, xf3, xf4⟩ := five s2.sx.st
  have l0 := (Array.getElem?_eq_some_iff.1 s2.sx.st).1
  have H2 := Lib.hid ((s2.set (Nat.le_refl _) (.slice ba m.length bc) (.slice na l.length nc) jz n1 0 ((jz : Nat) : Int) (by simp) (n1 : Int) rfl).turn (Gr.alloc _ (.cells #[(.slice ba m.length bc), .int .i64 ((jz : Nat) : Int), .int .i64 (n1 : Int), (.slice na l.length nc), .int .i64 0] 51) _))
  have HOB : Hid (Ob (Y1.heap.size + 2) _ (.slice ua lz.length uc) lz) := Lib.hid (((hob.gr (Gr.own5 w2 W.heap.size (.slice ba m.length bc) (.int .i64 ((jz : Nat) : Int)) (.int .i64 (n1 : Int)) (.slice na l.length nc) (.int .i64 0)) (fun k hk _ e => by omega))).g0 (Gr.alloc _ (.cells #[(.slice ba m.length bc), .int .i64 ((jz : Nat) : Int), .int .i64 (n1 : Int), (.slice na l.length nc), .int .i64 0] 51) _))
  clear hob
  clear s2 g2 H1
  go_wp2_with fail
  generalize World.alloc _ _ = Y2 at H2 HOB ⊢
  clear x0 x1 x2 x3 x4 xf0 xf1 xf2 xf3 xf4 l0
  obtain ⟨gz, hgz, hc16, hcM, hq1, hq2⟩ := (HOB.out.g0 (Gr.drew Y2 _)).halves hll hlb
  subst hgz
  have hcI : (16 : Int) ≤ (uc : Int) := by omega
  have hcI8 : (8 : Int) ≤ (uc : Int) := by omega
  have hcN : ¬ uc = 8 := by omega
  have hf1 := Lib.hid (float_c Y2.drew _ (lz.take 8) (by rw [List.length_take]; omega) hq1)
  have hf2 := Lib.hid (float_c Y2.drew _ (lz.drop 8) (by rw [List.length_drop]; omega) hq2)
  have hz1 : be (lz.take 8) < 18446744073709551616 := by have h := be_lt (lz.take 8) (fun x hx => hlb x (List.mem_of_mem_take hx)); rw [List.length_take, hll] at h; exact h
  have hz2 : be (lz.drop 8) < 18446744073709551616 := by have h := be_lt (lz.drop 8) (fun x hx => hlb x (List.mem_of_mem_drop hx)); rw [List.length_drop, hll] at h; exact h
  have Hz1 : Hid (be (lz.take 8) = be ((m.drop (i + 1)).take 8)) := Lib.hid (by rw [Hjz.out.2, List.take_take]; rfl)
  have Hz2 : Hid (be (lz.drop 8) = be (((m.drop (i + 1)).drop 8).take 8)) := Lib.hid (by rw [Hjz.out.2, List.drop_take])
  generalize be (lz.take 8) = za at hf1 hz1 Hz1
  generalize be (lz.drop 8) = zb at hf2 hz2 Hz2
  have Hz1b := Lib.hid hz1
  have Hz2b := Lib.hid hz2
  clear hz1 hz2 hq1 hq2 HOB hlb
  have s3 := H2.out.turn (Gr.drew Y2 (fun _ => False))
  obtain ⟨⟨t0, t1, t2, t3, t4, t5, t6, t7, t8⟩, tf⟩ := nine s3.tm
  have tfX := tf 2
  have l3 := (Array.getElem?_eq_some_iff.1 s3.tm).1
  have lt8 : ¬ tb = W.heap.size := by have := s3.lt; omega
  have lt5 : ¬ W.heap.size = tb := by have := s3.lt; omega
  have H3 : Hid (Sp W W.heap.size tb (.slice ba m.length bc) (.slice na l.length nc) jz n1 0 #[.int .i64 2, .int .i64 0, .complex .f64 za zb, .string e0, .int .i64 0, .int .u32 0, .int .u64 0, nl, nl] _) := Lib.hid ((H2.out.cell (Nat.le_refl _) 2 (.complex .f64 za zb)).turn (Gr.drew _ (fun _ => False)))
  clear s3
  refine wp_region_L (L := 8) (T := fun _ => True) (by kernel_rfl) ?_
  refine wpAnyL_at (i := 0) (v := (.slice (some ⟨gz, 0, none⟩) 16 uc)) (some 92) rfl rfl (by kernel_rfl) (by kernel_rfl) (by kernel_rfl) (by kernel_rfl) (by decide) (fun _ _ _ h => h) (Or.inl ⟨by rfl, ?_⟩) trivial ?_
  · intro w hSw
    go_simp
  try simp only [Act.put, List.setIfInBounds_toArray, List.set_cons_zero, List.set_cons_succ]
  refine wpAnyL_at (i := 1) (v := (.slice (some ⟨gz, 0, none⟩) 8 uc)) (some 93) rfl rfl (by kernel_rfl) (by kernel_rfl) (by kernel_rfl) (by kernel_rfl) (by decide) (fun _ _ _ h => h) (Or.inl ⟨by rfl, ?_⟩) trivial ?_
  · intro w hSw
    go_simp
  try simp only [Act.put, List.setIfInBounds_toArray, List.set_cons_zero, List.set_cons_succ]
  refine wpAnyL_at (i := 3) (v := (.slice (some ⟨gz, 0, none⟩) 16 uc)) (some 95) rfl rfl (by kernel_rfl) (by kernel_rfl) (by kernel_rfl) (by kernel_rfl) (by decide) (fun _ _ _ h => h) (Or.inl ⟨by rfl, ?_⟩) trivial ?_
  · intro w hSw
    go_simp
  try simp only [Act.put, List.setIfInBounds_toArray, List.set_cons_zero, List.set_cons_succ]
  refine wpAnyL_at (i := 4) (v := (.slice (some ⟨gz, 8, none⟩) 8 (uc - 8))) (some 96) rfl rfl (by kernel_rfl) (by kernel_rfl) (by kernel_rfl) (by kernel_rfl) (by decide) (fun _ _ _ h => h) (Or.inl ⟨by rfl, ?_⟩) trivial ?_
  · intro w hSw
    go_simp
  try simp only [Act.put, List.setIfInBounds_toArray, List.set_cons_zero, List.set_cons_succ]
  refine wpAnyL_one (i := 2) (by kernel_rfl) rfl (fun K hK => ?_)
  go_simp
  refine (hf1.out).mono ?_
  rintro e wr ⟨rfl, rfl⟩
  refine hK.out _ _ (fun _ => trivial) ?_
  clear hK K
  try simp only [Act.put, List.setIfInBounds_toArray, List.set_cons_zero, List.set_cons_succ]
  refine wpAnyL_one (i := 5) (by kernel_rfl) rfl (fun K hK => ?_)
  go_simp
  refine (hf2.out).mono ?_
  rintro e wr ⟨rfl, rfl⟩
  refine hK.out _ _ (fun _ => trivial) ?_
  clear hK K
  try simp only [Act.put, List.setIfInBounds_toArray, List.set_cons_zero, List.set_cons_succ]
  refine wpAnyL_one (i := 6) (by kernel_rfl) rfl (fun K hK => ?_)
  go_simp
  refine hK.out _ _ (fun _ => trivial) ?_
  clear hK K
  try simp only [Act.put, List.setIfInBounds_toArray, List.set_cons_zero, List.set_cons_succ]
  refine wpAnyL_at (i := 7) (v := (.pointer (some ⟨tb, 2, none⟩))) (some 99) rfl rfl (by kernel_rfl) (by kernel_rfl) (by kernel_rfl) (by kernel_rfl) (by decide) (fun _ _ _ h => h) (Or.inl ⟨by rfl, ?_⟩) trivial ?_
  · intro w hSw
    go_simp
  try simp only [Act.put, List.setIfInBounds_toArray, List.set_cons_zero, List.set_cons_succ]
  refine wpAnyL_one (i := 8) (by kernel_rfl) rfl (fun K hK => ?_)
  go_simp
  refine hK.out _ _ (fun h => absurd rfl h) ?_
  clear hK K
  try simp only [Act.put, List.setIfInBounds_toArray, List.set_cons_zero, List.set_cons_succ]
  refine wpAnyL_done (by kernel_rfl) ?_ _
  refine NoPanic.normal ?_
  go_wp2_with fail
  generalize World.drew (World.setCell _ ⟨tb, 2, none⟩ _) = Y3 at H3 ⊢
  clear t0 t1 t2 t3 t4 t5 t6 t7 t8 tf tfX l3 lt8 lt5
  clear hf1 hf2
  have hR := Lib.hid (fun w => refRight_cx za zb Hz1b.out Hz2b.out w)
  rw [show (rp za && rp zb) = false by rw [Hz1.out, Hz2.out]; exact HI.out] at hR
  have Hd := Lib.hid (H3.out.turn (Gr.drew _ (fun _ => False)))
  have s14 : S14 W.heap.size tb (.slice ba m.length bc) (.int .i64 ((jz : Nat) : Int)) (.int .i64 (n1 : Int)) (.slice na l.length nc) (.int .i64 0) (.int .i64 2) (.int .i64 0) (.complex .f64 za zb) (.string e0) (.int .i64 0) (.int .u32 0) (.int .u64 0) nl nl Y3.drew := Hd.out.s14
  refine wp_region_L (L := 4) (T := S14 W.heap.size tb (.slice ba m.length bc) (.int .i64 ((jz : Nat) : Int)) (.int .i64 (n1 : Int)) (.slice na l.length nc) (.int .i64 0) (.int .i64 2) (.int .i64 0) (.complex .f64 za zb) (.string e0) (.int .i64 0) (.int .u32 0) (.int .u64 0) nl nl) (by kernel_rfl) ?_
  refine wpAnyL_at (i := 0) (v := sv (.slice ba m.length bc) jz n1 (.slice na l.length nc) 0) (some 100) rfl rfl (by kernel_rfl) (by kernel_rfl) (by kernel_rfl) (by kernel_rfl) (by decide) (fun _ _ _ h => h) (Or.inl ⟨by rfl, ?_⟩) s14 ?_
  · intro w hSw
    go_simp
  try simp only [Act.put, List.setIfInBounds_toArray, List.set_cons_zero, List.set_cons_succ]
  refine wpAnyL_at (i := 1) (v := (lf 2 0 za zb e0 0 0 0)) (some 101) rfl rfl (by kernel_rfl) (by kernel_rfl) (by kernel_rfl) (by kernel_rfl) (by decide) (fun _ _ _ h => h) (Or.inl ⟨by rfl, ?_⟩) s14 ?_
  · intro w hSw
    go_simp
  try simp only [Act.put, List.setIfInBounds_toArray, List.set_cons_zero, List.set_cons_succ]
  refine wpAnyL_one (i := 2) (by kernel_rfl) rfl (fun K hK => ?_)
  go_simp
  refine (hR.out _).mono ?_
  rintro e wr ⟨rfl, gr⟩
  have Hr := Lib.hid (Hd.out.turn gr)
  have s15 : S14 W.heap.size tb (.slice ba m.length bc) (.int .i64 ((jz : Nat) : Int)) (.int .i64 (n1 : Int)) (.slice na l.length nc) (.int .i64 0) (.int .i64 2) (.int .i64 0) (.complex .f64 za zb) (.string e0) (.int .i64 0) (.int .u32 0) (.int .u64 0) nl nl wr := Hr.out.s14
  refine hK.out _ _ (fun _ => s15) ?_
  clear hK K Hd s14
  try simp only [Act.put, List.setIfInBounds_toArray, List.set_cons_zero, List.set_cons_succ]
  refine wpAnyL_one (i := 3) (by kernel_rfl) rfl (fun K hK => ?_)
  go_simp
  refine (must_no ba m.length bc na l.length nc jz n1 _).mono ?_
  rintro e w4 ⟨rfl, g4⟩
  have s4 := Hr.out.turn g4
  obtain ⟨⟨x0, x1, x2, x3, x4⟩, xf0, xf1, xf2, xf3, xf4⟩ := five s4.sx.st
  have l0 := (Array.getElem?_eq_some_iff.1 s4.sx.st).1
  have s16 : S14 W.heap.size tb (.slice ba m.length bc) (.int .i64 ((jz : Nat) : Int)) (.int .i64 (n1 : Int)) (.slice na l.length nc) (.int .i64 0) (.int .i64 2) (.int .i64 0) (.complex .f64 za zb) (.string e0) (.int .i64 0) (.int .u32 0) (.int .u64 0) nl nl w4 := s4.s14
  have H4 := Lib.hid (s4.set (Nat.le_refl _) (.slice ba m.length bc) (.slice na l.length nc) jz n1 73 ((jz : Nat) : Int) (by simp) (n1 : Int) rfl)
  refine hK.out _ _ (fun _ => s16) ?_
  clear hK K s4 Hr s15
  try simp only [Act.put, List.setIfInBounds_toArray, List.set_cons_zero, List.set_cons_succ]
  refine wpAnyL_one (i := 4) (by kernel_rfl) rfl (fun K hK => ?_)
  go_simp
  refine hK.out _ _ (fun h => absurd rfl h) ?_
  clear hK K s16
  try simp only [Act.put, List.setIfInBounds_toArray, List.set_cons_zero, List.set_cons_succ]
  refine wpAnyL_done (by kernel_rfl) ?_ _
  refine NoPanic.normal ?_
  go_wp2_with fail
  generalize World.setCell (World.setCell (World.setCell (World.setCell (World.setCell w4 _ _) _ _) _ _) _ _) _ _ = Y4 at H4 ⊢
  clear x0 x1 x2 x3 x4 xf0 xf1 xf2 xf3 xf4 l0
  obtain ⟨⟨x0, x1, x2, x3, x4⟩, xf0, xf1, xf2, xf3, xf4⟩ := five H4.out.sx.st
  have l0 := (Array.getElem?_eq_some_iff.1 H4.out.sx.st).1
  obtain ⟨⟨y0, y1, y2, y3, y4⟩, yf0, yf1, yf2, yf3, yf4⟩ := five H4.out.sx.out
  obtain ⟨⟨z0, z1, z2, z3, z4, z5, z6, z7, z8⟩, zf⟩ := nine H4.out.ot
  obtain ⟨⟨t0, t1, t2, t3, t4, t5, t6, t7, t8⟩, tf⟩ := nine H4.out.tm
  have l1 := (Array.getElem?_eq_some_iff.1 H4.out.sx.out).1
  have l2 := (Array.getElem?_eq_some_iff.1 H4.out.ot).1
  have l3 := (Array.getElem?_eq_some_iff.1 H4.out.tm).1
  have lt9 := H4.out.lt
  have HG := Lib.hid H4.out.sx.gr
  have lt8 : ¬ tb = W.heap.size := by omega
  have lt7 : ¬ tb = W.heap.size + 1 := by omega
  have lt6 : ¬ tb = W.heap.size + 1 + 1 := by omega
  have lt5 : ¬ W.heap.size + 1 = tb := by omega
  have lt4 : ¬ W.heap.size + 1 + 1 = tb := by omega
  go_region
  all_goals
    go_wp2
    refine bodyPost_ret (v := .tuple #[sv (.slice ba m.length bc) jz n1 (.slice na l.length nc) 73, lf 2 0 za zb e0 0 0 0]) (by simp [results, Tryz.results16, go_sem, y0, y1, y2, y3, y4, z0, z1, z2, z3, z4, z5, z6, z7, z8, l0, l1, l2]) rfl ?_
    exact ⟨⟨_, _, _, _, _, _, _, _, _, _, _, _, _, _, _, _, _, _, _, rfl⟩, ((HG.out.set5 (g := W.heap.size + 1) (Nat.le_succ _) _ _ _ _ _).set9 (g := W.heap.size + 1 + 1) (by omega) _ _ _ _ _ _ _ _ _).trans (Gr.drew _ _)⟩
set_option maxRecDepth 20000 in
set_option maxHeartbeats 800000 in
theorem part_2o (ba : Option Addr) (bc : Nat) (na : Option Addr) (nc : Nat) (m : List Int) (l : List ByteArray) (i n : Nat) (d : Int) (hi : i ≤ m.length) (hn : n ≤ 4096) (W : World) (hd : d ≤ 24) (x : Int) (hb : n < 4096) (hmx : m[i]? = some x) (hq : Sq Z W (.slice ba m.length bc) m) (hx3 : x = 2) (hsh : i + 1 + 16 ≤ m.length) (hI : (rp (be ((m.drop (i + 1)).take 8)) && rp (be (((m.drop (i + 1)).drop 8).take 8))) = true) (hs : Snap W (.slice na l.length nc) l) (hl : l.length ≤ n) : Calls Tryz.prog 16 #[sv (.slice ba m.length bc) i n (.slice na l.length nc) 0, .int .i64 d] W fun e w' => (EndP ba bc m W e w' (.ok (.mk { k := 2, x := be ((m.drop (i + 1)).take 8), y := be (((m.drop (i + 1)).drop 8).take 8) } [] [], (m.drop (i + 1)).drop 16, n + 1, l))) ∧ Gr (fun _ => False) W w' := by
  have hx := Lib.hid (Sq0.new W (.slice ba m.length bc) (.slice na l.length nc) i n 0)
  have hnI : (n : Int) ≤ 4096 := by omega
  have hn0 : (0 : Int) ≤ (n : Int) := by omega
  obtain ⟨n1, hn1⟩ : ∃ n1, n + 1 = n1 := ⟨_, rfl⟩
  have hn1I : (n : Int) + 1 = (n1 : Int) := by omega
  have hn1b : (n1 : Int) ≤ 5000 := by omega
  have hn1c : (0 : Int) ≤ (n1 : Int) := by omega
  have Hn1 := Lib.hid hn1
  have Hn := Lib.hid hn
  clear hn1 hn
  have hdI : decide ((24 : Int) < d) = false := by simp; omega
  clear hd
  have hbI : decide ((4096 : Int) < (n1 : Int)) = false := by simp; omega
  have h1 := Lib.hid (fun w g => rone_ok ba bc na l.length nc i n1 m x hmx w (hq.gr (g : Gr (fun _ => False) W w) (fun _ _ e => e)))
  have hxb := hq.byte x (List.mem_of_getElem? hmx)
  have hx0 : (0 : Int) ≤ x := hxb.1
  have hx1 : x < 256 := hxb.2
  have h34 := Lib.hid (fun w (g : Gr (fun _ => False) W w) => some_c ba bc na l.length nc m (i + 1) n1 16 (by have := (List.getElem?_eq_some_iff.1 hmx).1; omega) (by omega) w (hq.gr g (fun _ _ e => e)))
  have Hsh := Lib.hid hsh
  have hby := Lib.hid hq.byte
  have HI := Lib.hid hI
  have Hs := Lib.hid hs
  have Hn4 : Hid (n + 1 ≤ 4096) := Lib.hid hb
  have Hl4 : Hid (l.length ≤ n + 1) := Lib.hid (by omega)
  clear hI hs hl
  clear hb hmx hq hxb hx0 hx1 hsh
  subst hx3
  go_enter Tryz.func16, Tryz.ntmps16
  go_wp2_with fail
  generalize hW1 : World.alloc (World.alloc (World.alloc W _) _) _ = W1
  have H0 : Hid (Sq0 W W.heap.size (.slice ba m.length bc) (.slice na l.length nc) i n1 0 W1) := Lib.hid (hW1 ▸ Sq0.new W (.slice ba m.length bc) (.slice na l.length nc) i n1 0)
  clear hW1 hx
  refine (h1.out _ H0.out.sx.gr).mono ?_
  rintro e w1 ⟨rfl, g1⟩
  have s1 := H0.out.turn g1
  obtain ⟨⟨x0, x1, x2, x3, x4⟩, xf0, xf1, xf2, xf3, xf4⟩ := five s1.sx.st
  have l0 := (Array.getElem?_eq_some_iff.1 s1.sx.st).1
  have H1 := Lib.hid ((s1.set (Nat.le_refl _) (.slice ba m.length bc) (.slice na l.length nc) (i + 1) n1 0 ((i : Int) + 1) (by simp) (n1 : Int) rfl).term #[.int .i64 2, .int .i64 0, .complex .f64 0 0, .string e0, .int .i64 0, .int .u32 0, .int .u64 0, nl, nl] w1.heap.size (by simp))
  clear s1 g1 H0
  go_wp2_with fail
  generalize World.alloc _ _ = Y1 at H1 ⊢
  generalize w1.heap.size = tb at H1 ⊢
  clear x0 x1 x2 x3 x4 xf0 xf1 xf2 xf3 xf4 l0
  refine (h34.out _ H1.out.sx.gr).mono ?_
  rintro e w2 ⟨he, g2⟩
  unfold EndS at he
  rw [if_pos (by have := Hsh.out; omega)] at he
  obtain ⟨jz, hjz⟩ : ∃ jz, i + 1 + 16 = jz := ⟨_, rfl⟩
  obtain ⟨lz, hlz⟩ : ∃ lz, (m.drop (i + 1)).take 16 = lz := ⟨_, rfl⟩
  rw [hjz, hlz] at he
  obtain ⟨uv, rfl, hob⟩ := he
  obtain ⟨ua, uc, rfl⟩ := hob.sv
  have hll : lz.length = 16 := by rw [← hlz, List.length_take, List.length_drop]; have := Hsh.out; omega
  have hlb : ∀ x ∈ lz, 0 ≤ x ∧ x < 256 := fun x hx => hby.out x (by rw [← hlz] at hx; exact List.mem_of_mem_drop (List.mem_of_mem_take hx))
  have Hjz : Hid (jz = i + 1 + 16 ∧ lz = (m.drop (i + 1)).take 16) := Lib.hid ⟨hjz.symm, hlz.symm⟩
  have hlN : W.heap.size < Y1.heap.size := (Array.getElem?_eq_some_iff.1 H1.out.sx.st).1
  clear hjz hlz
  have s2 := H1.out.turn g2
  obtain ⟨⟨x0, x1, x2, x3, x4⟩, xf0, xf1, xf2, xf3, xf4⟩ := five s2.sx.st
  have l0 := (Array.getElem?_eq_some_iff.1 s2.sx.st).1
  have H2 := Lib.hid ((s2.set (Nat.le_refl _) (.slice ba m.length bc) (.slice na l.length nc) jz n1 0 ((jz : Nat) : Int) (by simp) (n1 : Int) rfl).turn (Gr.alloc _ (.cells #[(.slice ba m.length bc), .int .i64 ((jz : Nat) : Int), .int .i64 (n1 : Int), (.slice na l.length nc), .int .i64 0] 51) _))
  have HOB : Hid (Ob (Y1.heap.size + 2) _ (.slice ua lz.length uc) lz) := Lib.hid (((hob.gr (Gr.own5 w2 W.heap.size (.slice ba m.length bc) (.int .i64 ((jz : Nat) : Int)) (.int .i64 (n1 : Int)) (.slice na l.length nc) (.int .i64 0)) (fun k hk _ e => by omega))).g0 (Gr.alloc _ (.cells #[(.slice ba m.length bc), .int .i64 ((jz : Nat) : Int), .int .i64 (n1 : Int), (.slice na l.length nc), .int .i64 0] 51) _))
  clear hob
  clear s2 g2 H1
  go_wp2_with fail
  generalize World.alloc _ _ = Y2 at H2 HOB ⊢
  clear x0 x1 x2 x3 x4 xf0 xf1 xf2 xf3 xf4 l0
  obtain ⟨gz, hgz, hc16, hcM, hq1, hq2⟩ := (HOB.out.g0 (Gr.drew Y2 _)).halves hll hlb
  subst hgz
  have hcI : (16 : Int) ≤ (uc : Int) := by omega
  have hcI8 : (8 : Int) ≤ (uc : Int) := by omega
  have hcN : ¬ uc = 8 := by omega
  have hf1 := Lib.hid (float_c Y2.drew _ (lz.take 8) (by rw [List.length_take]; omega) hq1)
  have hf2 := Lib.hid (float_c Y2.drew _ (lz.drop 8) (by rw [List.length_drop]; omega) hq2)
  have hz1 : be (lz.take 8) < 18446744073709551616 := by have h := be_lt (lz.take 8) (fun x hx => hlb x (List.mem_of_mem_take hx)); rw [List.length_take, hll] at h; exact h
  have hz2 : be (lz.drop 8) < 18446744073709551616 := by have h := be_lt (lz.drop 8) (fun x hx => hlb x (List.mem_of_mem_drop hx)); rw [List.length_drop, hll] at h; exact h
  have Hz1 : Hid (be (lz.take 8) = be ((m.drop (i + 1)).take 8)) := Lib.hid (by rw [Hjz.out.2, List.take_take]; rfl)
  have Hz2 : Hid (be (lz.drop 8) = be (((m.drop (i + 1)).drop 8).take 8)) := Lib.hid (by rw [Hjz.out.2, List.drop_take])
  generalize be (lz.take 8) = za at hf1 hz1 Hz1
  generalize be (lz.drop 8) = zb at hf2 hz2 Hz2
  have Hz1b := Lib.hid hz1
  have Hz2b := Lib.hid hz2
  clear hz1 hz2 hq1 hq2 HOB hlb
  have s3 := H2.out.turn (Gr.drew Y2 (fun _ => False))
  obtain ⟨⟨t0, t1, t2, t3, t4, t5, t6, t7, t8⟩, tf⟩ := nine s3.tm
  have tfX := tf 2
  have l3 := (Array.getElem?_eq_some_iff.1 s3.tm).1
  have lt8 : ¬ tb = W.heap.size := by have := s3.lt; omega
  have lt5 : ¬ W.heap.size = tb := by have := s3.lt; omega
  have H3 : Hid (Sp W W.heap.size tb (.slice ba m.length bc) (.slice na l.length nc) jz n1 0 #[.int .i64 2, .int .i64 0, .complex .f64 za zb, .string e0, .int .i64 0, .int .u32 0, .int .u64 0, nl, nl] _) := Lib.hid ((H2.out.cell (Nat.le_refl _) 2 (.complex .f64 za zb)).turn (Gr.drew _ (fun _ => False)))
  clear s3
  refine wp_region_L (L := 8) (T := fun _ => True) (by kernel_rfl) ?_
  refine wpAnyL_at (i := 0) (v := (.slice (some ⟨gz, 0, none⟩) 16 uc)) (some 92) rfl rfl (by kernel_rfl) (by kernel_rfl) (by kernel_rfl) (by kernel_rfl) (by decide) (fun _ _ _ h => h) (Or.inl ⟨by rfl, ?_⟩) trivial ?_
  · intro w hSw
    go_simp
  try simp only [Act.put, List.setIfInBounds_toArray, List.set_cons_zero, List.set_cons_succ]
  refine wpAnyL_at (i := 1) (v := (.slice (some ⟨gz, 0, none⟩) 8 uc)) (some 93) rfl rfl (by kernel_rfl) (by kernel_rfl) (by kernel_rfl) (by kernel_rfl) (by decide) (fun _ _ _ h => h) (Or.inl ⟨by rfl, ?_⟩) trivial ?_
  · intro w hSw
    go_simp
  try simp only [Act.put, List.setIfInBounds_toArray, List.set_cons_zero, List.set_cons_succ]
  refine wpAnyL_at (i := 3) (v := (.slice (some ⟨gz, 0, none⟩) 16 uc)) (some 95) rfl rfl (by kernel_rfl) (by kernel_rfl) (by kernel_rfl) (by kernel_rfl) (by decide) (fun _ _ _ h => h) (Or.inl ⟨by rfl, ?_⟩) trivial ?_
  · intro w hSw
    go_simp
  try simp only [Act.put, List.setIfInBounds_toArray, List.set_cons_zero, List.set_cons_succ]
  refine wpAnyL_at (i := 4) (v := (.slice (some ⟨gz, 8, none⟩) 8 (uc - 8))) (some 96) rfl rfl (by kernel_rfl) (by kernel_rfl) (by kernel_rfl) (by kernel_rfl) (by decide) (fun _ _ _ h => h) (Or.inl ⟨by rfl, ?_⟩) trivial ?_
  · intro w hSw
    go_simp
  try simp only [Act.put, List.setIfInBounds_toArray, List.set_cons_zero, List.set_cons_succ]
  refine wpAnyL_one (i := 2) (by kernel_rfl) rfl (fun K hK => ?_)
  go_simp
  refine (hf1.out).mono ?_
  rintro e wr ⟨rfl, rfl⟩
  refine hK.out _ _ (fun _ => trivial) ?_
  clear hK K
  try simp only [Act.put, List.setIfInBounds_toArray, List.set_cons_zero, List.set_cons_succ]
  refine wpAnyL_one (i := 5) (by kernel_rfl) rfl (fun K hK => ?_)
  go_simp
  refine (hf2.out).mono ?_
  rintro e wr ⟨rfl, rfl⟩
  refine hK.out _ _ (fun _ => trivial) ?_
  clear hK K
  try simp only [Act.put, List.setIfInBounds_toArray, List.set_cons_zero, List.set_cons_succ]
  refine wpAnyL_one (i := 6) (by kernel_rfl) rfl (fun K hK => ?_)
  go_simp
  refine hK.out _ _ (fun _ => trivial) ?_
  clear hK K
  try simp only [Act.put, List.setIfInBounds_toArray, List.set_cons_zero, List.set_cons_succ]
  refine wpAnyL_at (i := 7) (v := (.pointer (some ⟨tb, 2, none⟩))) (some 99) rfl rfl (by kernel_rfl) (by kernel_rfl) (by kernel_rfl) (by kernel_rfl) (by decide) (fun _ _ _ h => h) (Or.inl ⟨by rfl, ?_⟩) trivial ?_
  · intro w hSw
    go_simp
  try simp only [Act.put, List.setIfInBounds_toArray, List.set_cons_zero, List.set_cons_succ]
  refine wpAnyL_one (i := 8) (by kernel_rfl) rfl (fun K hK => ?_)
  go_simp
  refine hK.out _ _ (fun h => absurd rfl h) ?_
  clear hK K
  try simp only [Act.put, List.setIfInBounds_toArray, List.set_cons_zero, List.set_cons_succ]
  refine wpAnyL_done (by kernel_rfl) ?_ _
  refine NoPanic.normal ?_
  go_wp2_with fail
  generalize World.drew (World.setCell _ ⟨tb, 2, none⟩ _) = Y3 at H3 ⊢
  clear t0 t1 t2 t3 t4 t5 t6 t7 t8 tf tfX l3 lt8 lt5
  clear hf1 hf2
  have hR := Lib.hid (fun w => refRight_cx za zb Hz1b.out Hz2b.out w)
  rw [show (rp za && rp zb) = true by rw [Hz1.out, Hz2.out]; exact HI.out] at hR
  have Hd := Lib.hid (H3.out.turn (Gr.drew _ (fun _ => False)))
  have s14 : S14 W.heap.size tb (.slice ba m.length bc) (.int .i64 ((jz : Nat) : Int)) (.int .i64 (n1 : Int)) (.slice na l.length nc) (.int .i64 0) (.int .i64 2) (.int .i64 0) (.complex .f64 za zb) (.string e0) (.int .i64 0) (.int .u32 0) (.int .u64 0) nl nl Y3.drew := Hd.out.s14
  refine wp_region_L (L := 4) (T := S14 W.heap.size tb (.slice ba m.length bc) (.int .i64 ((jz : Nat) : Int)) (.int .i64 (n1 : Int)) (.slice na l.length nc) (.int .i64 0) (.int .i64 2) (.int .i64 0) (.complex .f64 za zb) (.string e0) (.int .i64 0) (.int .u32 0) (.int .u64 0) nl nl) (by kernel_rfl) ?_
  refine wpAnyL_at (i := 0) (v := sv (.slice ba m.length bc) jz n1 (.slice na l.length nc) 0) (some 100) rfl rfl (by kernel_rfl) (by kernel_rfl) (by kernel_rfl) (by kernel_rfl) (by decide) (fun _ _ _ h => h) (Or.inl ⟨by rfl, ?_⟩) s14 ?_
  · intro w hSw
    go_simp
  try simp only [Act.put, List.setIfInBounds_toArray, List.set_cons_zero, List.set_cons_succ]
  refine wpAnyL_at (i := 1) (v := (lf 2 0 za zb e0 0 0 0)) (some 101) rfl rfl (by kernel_rfl) (by kernel_rfl) (by kernel_rfl) (by kernel_rfl) (by decide) (fun _ _ _ h => h) (Or.inl ⟨by rfl, ?_⟩) s14 ?_
  · intro w hSw
    go_simp
  try simp only [Act.put, List.setIfInBounds_toArray, List.set_cons_zero, List.set_cons_succ]
  refine wpAnyL_one (i := 2) (by kernel_rfl) rfl (fun K hK => ?_)
  go_simp
  refine (hR.out _).mono ?_
  rintro e wr ⟨rfl, gr⟩
  have Hr := Lib.hid (Hd.out.turn gr)
  have s15 : S14 W.heap.size tb (.slice ba m.length bc) (.int .i64 ((jz : Nat) : Int)) (.int .i64 (n1 : Int)) (.slice na l.length nc) (.int .i64 0) (.int .i64 2) (.int .i64 0) (.complex .f64 za zb) (.string e0) (.int .i64 0) (.int .u32 0) (.int .u64 0) nl nl wr := Hr.out.s14
  refine hK.out _ _ (fun _ => s15) ?_
  clear hK K Hd s14
  try simp only [Act.put, List.setIfInBounds_toArray, List.set_cons_zero, List.set_cons_succ]
  refine wpAnyL_one (i := 3) (by kernel_rfl) rfl (fun K hK => ?_)
  go_simp
  refine (must_yes ba m.length bc na l.length nc jz n1 0 _).mono ?_
  rintro e w4 ⟨rfl, g4⟩
  have s4 := Hr.out.turn g4
  obtain ⟨⟨x0, x1, x2, x3, x4⟩, xf0, xf1, xf2, xf3, xf4⟩ := five s4.sx.st
  have l0 := (Array.getElem?_eq_some_iff.1 s4.sx.st).1
  have s16 : S14 W.heap.size tb (.slice ba m.length bc) (.int .i64 ((jz : Nat) : Int)) (.int .i64 (n1 : Int)) (.slice na l.length nc) (.int .i64 0) (.int .i64 2) (.int .i64 0) (.complex .f64 za zb) (.string e0) (.int .i64 0) (.int .u32 0) (.int .u64 0) nl nl w4 := s4.s14
  have H4 := Lib.hid (s4.set (Nat.le_refl _) (.slice ba m.length bc) (.slice na l.length nc) jz n1 0 ((jz : Nat) : Int) (by simp) (n1 : Int) rfl)
  refine hK.out _ _ (fun _ => s16) ?_
  clear hK K s4 Hr s15
  try simp only [Act.put, List.setIfInBounds_toArray, List.set_cons_zero, List.set_cons_succ]
  refine wpAnyL_one (i := 4) (by kernel_rfl) rfl (fun K hK => ?_)
  go_simp
  refine hK.out _ _ (fun h => absurd rfl h) ?_
  clear hK K s16
  try simp only [Act.put, List.setIfInBounds_toArray, List.set_cons_zero, List.set_cons_succ]
  refine wpAnyL_done (by kernel_rfl) ?_ _
  refine NoPanic.normal ?_
  go_wp2_with fail
  generalize World.setCell (World.setCell (World.setCell (World.setCell (World.setCell w4 _ _) _ _) _ _) _ _) _ _ = Y4 at H4 ⊢
  clear x0 x1 x2 x3 x4 xf0 xf1 xf2 xf3 xf4 l0
  obtain ⟨⟨x0, x1, x2, x3, x4⟩, xf0, xf1, xf2, xf3, xf4⟩ := five H4.out.sx.st
  have l0 := (Array.getElem?_eq_some_iff.1 H4.out.sx.st).1
  obtain ⟨⟨y0, y1, y2, y3, y4⟩, yf0, yf1, yf2, yf3, yf4⟩ := five H4.out.sx.out
  obtain ⟨⟨z0, z1, z2, z3, z4, z5, z6, z7, z8⟩, zf⟩ := nine H4.out.ot
  obtain ⟨⟨t0, t1, t2, t3, t4, t5, t6, t7, t8⟩, tf⟩ := nine H4.out.tm
  have l1 := (Array.getElem?_eq_some_iff.1 H4.out.sx.out).1
  have l2 := (Array.getElem?_eq_some_iff.1 H4.out.ot).1
  have l3 := (Array.getElem?_eq_some_iff.1 H4.out.tm).1
  have lt9 := H4.out.lt
  have HG := Lib.hid H4.out.sx.gr
  have lt8 : ¬ tb = W.heap.size := by omega
  have lt7 : ¬ tb = W.heap.size + 1 := by omega
  have lt6 : ¬ tb = W.heap.size + 1 + 1 := by omega
  have lt5 : ¬ W.heap.size + 1 = tb := by omega
  have lt4 : ¬ W.heap.size + 1 + 1 = tb := by omega
  go_region
  all_goals
    go_wp2
    refine bodyPost_ret (v := .tuple #[sv (.slice ba m.length bc) jz n1 (.slice na l.length nc) 0, (lf 2 0 za zb e0 0 0 0)]) (by simp [results, Tryz.results16, go_sem, y0, y1, y2, y3, y4, z0, z1, z2, z3, z4, z5, z6, z7, z8, l0, l1, l2]) rfl ?_
    refine ⟨⟨jz, _, _, _, by rw [Hjz.out.1]; exact Hsh.out, by rw [Hjz.out.1, List.drop_drop], by rw [← Hn1.out], ⟨_, _, [], by rw [← Hz1.out, ← Hz2.out], .inl ⟨rfl, _, _, rfl⟩, .inl ⟨rfl, _, _, rfl⟩, rfl⟩, ?_, Hn4.out, Hl4.out⟩, ((HG.out.set5 (g := W.heap.size + 1) (Nat.le_succ _) _ _ _ _ _).set9 (g := W.heap.size + 1 + 1) (by omega) _ _ _ _ _ _ _ _ _).trans (Gr.drew _ _)⟩
    exact Hs.out.gr (((HG.out.set5 (g := W.heap.size + 1) (Nat.le_succ _) _ _ _ _ _).set9 (g := W.heap.size + 1 + 1) (by omega) _ _ _ _ _ _ _ _ _).trans (Gr.drew _ _)) (fun _ _ e => e)
end Go.Proofs.YtmohehfkbhllpaaGreat
