/-
  The reference's reader: tuples and lists, element by element.
  The reference's reader: lists, element by element.
-/
import Derived.Test.YtmohehfkbhllpaaGreatVN
set_option linter.unusedVariables false
set_option linter.unusedSimpArgs false
namespace Go.Proofs.YtmohehfkbhllpaaGreat
open Go.RowKit Go.Maps
variable {S S' Z : Nat → Prop} {W W1 W' : World}
/-- Elements read, as a part. -/
def fl7 (k : Int) : Except Int (List Tm × List Int × Nat × List ByteArray) → Except Int (Tm × List Int × Nat × List ByteArray)
  | .error e => .error e
  | .ok (ts, m, n, l) => .ok (.mk { k := k } [] ts, m, n, l)
/-- What holds at each round: so many elements are there, or it has given up. -/
def Lp (p : List Int → Nat → List ByteArray → Except Int (Tm × List Int × Nat × List ByteArray)) (q : Except Int (List Tm × List Int × Nat × List ByteArray)) (ba : Option Addr) (bc : Nat) (m : List Int) (u : Nat) (W : World) (N tb : Nat) (kd : Int) (k : Nat) (X : World) : Prop :=
  (∃ (uv : Value) (ts : List Tm) (vs : List Value) (j n2 : Nat) (na : Option Addr) (nc : Nat) (ls : List ByteArray), k = ts.length ∧ q = elq p (u - k) (m.drop j) n2 ls ts ∧ j ≤ m.length ∧ n2 ≤ 4096 ∧ ls.length ≤ n2 ∧ Snap X (.slice na ls.length nc) ls ∧ Sl W N tb (.slice ba m.length bc) (.slice na ls.length nc) j n2 0 kd uv ts vs X)
  ∨ (∃ (c : Int) (j n2 : Nat) (na : Option Addr) (nn nc : Nat) (a1 : Option Addr) (n1 c1 : Nat), (c == 0) = false ∧ q = .error c ∧ Sp W N tb (.slice ba m.length bc) (.slice na nn nc) j n2 c #[.int .i64 kd, .int .i64 0, .complex .f64 0 0, .string e0, .int .i64 0, .int .u32 0, .int .u64 0, nl, .slice a1 n1 c1] X)
set_option maxRecDepth 20000 in
set_option maxHeartbeats 4000000 in
theorem part_6o (ba : Option Addr) (bc : Nat) (na : Option Addr) (nc : Nat) (m : List Int) (l : List ByteArray) (i n : Nat) (d : Int) (hi : i ≤ m.length) (hn : n ≤ 4096) (W : World) (hd : d ≤ 24) (x : Int) (hb : n < 4096) (hmx : m[i]? = some x) (hq : Sq Z W (.slice ba m.length bc) m) (hx3 : x = 6) (u : Nat) (r : List Int) (hr : nmb 10 0 0 (m.drop (i + 1)) = .ok (u, r)) (hg : u ≤ 256) (hs : Snap W (.slice na l.length nc) l) (hl : l.length ≤ n) (rr : Nat) (hP : PartR Z ba bc m rr) (hd1 : 1 ≤ d) (hdr : d + 1 + rr = 25) : Calls Tryz.prog 16 #[sv (.slice ba m.length bc) i n (.slice na l.length nc) 0, .int .i64 d] W fun e w' => (EndP ba bc m W e w' (fl7 6 (elq (ptq rr) u r (n + 1) l []))) ∧ Gr (fun _ => False) W w' := by
  have hx := Lib.hid (Sq0.new W (.slice ba m.length bc) (.slice na l.length nc) i n 0)
  have hnI : (n : Int) ≤ 4096 := by omega
  have hn0 : (0 : Int) ≤ (n : Int) := by omega
  obtain ⟨n1, hn1⟩ : ∃ n1, n + 1 = n1 := ⟨_, rfl⟩
  have hn1I : (n : Int) + 1 = (n1 : Int) := by omega
  have hn1b : (n1 : Int) ≤ 5000 := by omega
  have hn1c : (0 : Int) ≤ (n1 : Int) := by omega
  have Hn1 := Lib.hid hn1
  have Hn := Lib.hid hn
  clear hn1 hn
  have hdI : decide ((24 : Int) < d) = false := by simp; omega
  clear hd
  have hbI : decide ((4096 : Int) < (n1 : Int)) = false := by simp; omega
  have h1 := Lib.hid (fun w g => rone_ok ba bc na l.length nc i n1 m x hmx w (hq.gr (g : Gr (fun _ => False) W w) (fun _ _ e => e)))
  have hxb := hq.byte x (List.mem_of_getElem? hmx)
  have hx0 : (0 : Int) ≤ x := hxb.1
  have hx1 : x < 256 := hxb.2
  have h31 := Lib.hid (fun w (g : Gr (fun _ => False) W w) => wide_e ba bc na l.length nc m (i + 1) n1 (by have := (List.getElem?_eq_some_iff.1 hmx).1; omega) w (hq.gr g (fun _ _ e => e)))
  rw [hr] at h31
  have hgI : (u : Int) ≤ 256 := by omega
  have hgN : decide (u ≤ 256) = true := by simp; omega
  have hu0 : (0 : Int) ≤ (u : Int) := by omega
  have Hg := Lib.hid hg
  have Hs := Lib.hid hs
  have Hl4 : Hid (l.length ≤ n + 1) := Lib.hid (by omega)
  have Hn4 : Hid (n + 1 ≤ 4096) := Lib.hid hb
  have HP := Lib.hid hP
  have HQ := Lib.hid hq
  have Hd := Lib.hid hdr
  have hd1I : (0 : Int) ≤ d := by omega
  have hd2I : d ≤ 24 := by omega
  obtain ⟨i0, hi0, hz0, hz1, hz2⟩ := info_parts info31
  obtain ⟨q, hqq⟩ : ∃ q, q = elq (ptq rr) u r (n + 1) l [] := ⟨_, rfl⟩
  rw [← hqq]
  have Hq := Lib.hid hqq
  clear hb hmx hq hxb hr hx0 hx1 hg hs hl hP hdr hqq
  subst hx3
  go_enter Tryz.func16, Tryz.ntmps16
  go_wp2_with fail
  generalize hW1 : World.alloc (World.alloc (World.alloc W _) _) _ = W1
  have H0 : Hid (Sq0 W W.heap.size (.slice ba m.length bc) (.slice na l.length nc) i n1 0 W1) := Lib.hid (hW1 ▸ Sq0.new W (.slice ba m.length bc) (.slice na l.length nc) i n1 0)
  clear hW1 hx
  refine (h1.out _ H0.out.sx.gr).mono ?_
  rintro e w1 ⟨rfl, g1⟩
  have s1 := H0.out.turn g1
  obtain ⟨⟨x0, x1, x2, x3, x4⟩, xf0, xf1, xf2, xf3, xf4⟩ := five s1.sx.st
  have l0 := (Array.getElem?_eq_some_iff.1 s1.sx.st).1
  have H1 := Lib.hid ((s1.set (Nat.le_refl _) (.slice ba m.length bc) (.slice na l.length nc) (i + 1) n1 0 ((i : Int) + 1) (by simp) (n1 : Int) rfl).term #[.int .i64 6, .int .i64 0, .complex .f64 0 0, .string e0, .int .i64 0, .int .u32 0, .int .u64 0, nl, nl] w1.heap.size (by simp))
  clear s1 g1 H0
  go_wp2_with fail
  generalize World.alloc _ _ = Y1 at H1 ⊢
  generalize w1.heap.size = tb at H1 ⊢
  clear x0 x1 x2 x3 x4 xf0 xf1 xf2 xf3 xf4 l0
  refine (h31.out _ H1.out.sx.gr).mono ?_
  rintro e w2 ⟨⟨j, hj, hjr, hu, rfl⟩, g2⟩
  have Hj := Lib.hid hj
  have Hjr := Lib.hid hjr
  clear hj hjr hu
  have s2 := H1.out.turn g2
  have H2 := Lib.hid (s2.second j n1 0 ((j : Nat) : Int) (by simp) w2.heap.size rfl)
  clear s2 g2 H1
  go_wp2_with fail
  generalize World.alloc _ _ = Y2 at H2 ⊢
  generalize w2.heap.size = yb at H2 ⊢
  refine (must_yes ba m.length bc na l.length nc j n1 0 _).mono ?_
  rintro e w3 ⟨rfl, g3⟩
  have s3 := H2.out.turn g3
  obtain ⟨⟨x0, x1, x2, x3, x4⟩, xf0, xf1, xf2, xf3, xf4⟩ := five s3.sp.sx.st
  have l0 := (Array.getElem?_eq_some_iff.1 s3.sp.sx.st).1
  have H3 := Lib.hid (s3.sp.set (Nat.le_refl _) (.slice ba m.length bc) (.slice na l.length nc) j n1 0 ((j : Nat) : Int) (by simp) (n1 : Int) rfl)
  clear s3 g3 H2
  go_wp2_with fail
  generalize World.setCell (World.setCell (World.setCell (World.setCell (World.setCell w3 _ _) _ _) _ _) _ _) _ _ = Y3 at H3 ⊢
  clear x0 x1 x2 x3 x4 xf0 xf1 xf2 xf3 xf4 l0
  go_loopw [18] (fun v wr => ∃ k : Nat, v = .int .u64 (k : Int) ∧ Hid (k ≤ u) ∧ Hid (Lp (ptq rr) q ba bc m u W W.heap.size tb 6 k wr)) (fun v _ => u - (intOf v).toNat)
  case atStart => exact ⟨0, rfl, Lib.hid (Nat.zero_le _), Lib.hid (.inl ⟨nl, [], [], j, n1, na, nc, l, rfl, by rw [Hq.out, Hjr.out, Hn1.out, Nat.sub_zero], Hj.out, by rw [← Hn1.out]; exact Hn4.out, by rw [← Hn1.out]; exact Hl4.out, Hs.out.gr H3.out.sx.gr (fun _ _ e => e), ⟨H3.out, World.ownsRow_nil _ _ _ _, rfl, fun _ => rfl⟩⟩)⟩
  case round =>
    obtain ⟨k, rfl, HK, hI⟩ := hrel
    clear H3 Hj Hjr Hq Hs Hl4 Hn4
    have hkI : (k : Int) ≤ 256 := by have := HK.out; have := Hg.out; omega
    have hk0 : (0 : Int) ≤ (k : Int) := by omega
    rcases hI.out with hA | hB
    case inr =>
      obtain ⟨c, j, n2, na2, nn2, nc2, a1, q1, c1, hc, e, hsp⟩ := hB
      subst e
      have H4 := Lib.hid hsp
      clear hI hsp
      rcases Nat.lt_or_ge k u with hz | hz
      · have hzI : (k : Int) < (u : Int) := by omega
        have hzN : decide (k < u) = true := by simp; omega
        clear hz
        obtain ⟨⟨x0, x1, x2, x3, x4⟩, xf0, xf1, xf2, xf3, xf4⟩ := five H4.out.sx.st
        have l0 := (Array.getElem?_eq_some_iff.1 H4.out.sx.st).1
        go_wp2_with fail
        clear x0 x1 x2 x3 x4 xf0 xf1 xf2 xf3 xf4 l0
        obtain ⟨⟨x0, x1, x2, x3, x4⟩, xf0, xf1, xf2, xf3, xf4⟩ := five H4.out.sx.st
        have l0 := (Array.getElem?_eq_some_iff.1 H4.out.sx.st).1
        obtain ⟨⟨y0, y1, y2, y3, y4⟩, yf0, yf1, yf2, yf3, yf4⟩ := five H4.out.sx.out
        obtain ⟨⟨z0, z1, z2, z3, z4, z5, z6, z7, z8⟩, zf⟩ := nine H4.out.ot
        obtain ⟨⟨t0, t1, t2, t3, t4, t5, t6, t7, t8⟩, tf⟩ := nine H4.out.tm
        have l1 := (Array.getElem?_eq_some_iff.1 H4.out.sx.out).1
        have l2 := (Array.getElem?_eq_some_iff.1 H4.out.ot).1
        have l3 := (Array.getElem?_eq_some_iff.1 H4.out.tm).1
        have lt9 := H4.out.lt
        have HG := Lib.hid H4.out.sx.gr
        have lt8 : ¬ tb = W.heap.size := by omega
        have lt7 : ¬ tb = W.heap.size + 1 := by omega
        have lt6 : ¬ tb = W.heap.size + 1 + 1 := by omega
        have lt5 : ¬ W.heap.size + 1 = tb := by omega
        have lt4 : ¬ W.heap.size + 1 + 1 = tb := by omega
        go_region
        all_goals
          go_wp2
          refine bodyPost_ret (v := .tuple #[sv (.slice ba m.length bc) j n2 (.slice na2 nn2 nc2) c, tv 6 0 0 0 e0 0 0 0 nl (.slice a1 q1 c1)]) (by simp [results, Tryz.results16, go_sem, y0, y1, y2, y3, y4, z0, z1, z2, z3, z4, z5, z6, z7, z8, l0, l1, l2]) rfl ?_
          exact ⟨⟨_, _, _, _, _, _, _, _, _, _, _, _, _, _, _, _, _, _, _, rfl⟩, ((HG.out.set5 (g := W.heap.size + 1) (Nat.le_succ _) _ _ _ _ _).set9 (g := W.heap.size + 1 + 1) (by omega) _ _ _ _ _ _ _ _ _).trans (Gr.drew _ _)⟩
      · have hzI : decide ((k : Int) < (u : Int)) = false := by simp; omega
        have hzN : decide (k < u) = false := by simp; omega
        clear hz
        obtain ⟨⟨x0, x1, x2, x3, x4⟩, xf0, xf1, xf2, xf3, xf4⟩ := five H4.out.sx.st
        have l0 := (Array.getElem?_eq_some_iff.1 H4.out.sx.st).1
        go_wp2_with fail
        clear x0 x1 x2 x3 x4 xf0 xf1 xf2 xf3 xf4 l0
        obtain ⟨⟨x0, x1, x2, x3, x4⟩, xf0, xf1, xf2, xf3, xf4⟩ := five H4.out.sx.st
        have l0 := (Array.getElem?_eq_some_iff.1 H4.out.sx.st).1
        obtain ⟨⟨y0, y1, y2, y3, y4⟩, yf0, yf1, yf2, yf3, yf4⟩ := five H4.out.sx.out
        obtain ⟨⟨z0, z1, z2, z3, z4, z5, z6, z7, z8⟩, zf⟩ := nine H4.out.ot
        obtain ⟨⟨t0, t1, t2, t3, t4, t5, t6, t7, t8⟩, tf⟩ := nine H4.out.tm
        have l1 := (Array.getElem?_eq_some_iff.1 H4.out.sx.out).1
        have l2 := (Array.getElem?_eq_some_iff.1 H4.out.ot).1
        have l3 := (Array.getElem?_eq_some_iff.1 H4.out.tm).1
        have lt9 := H4.out.lt
        have HG := Lib.hid H4.out.sx.gr
        have lt8 : ¬ tb = W.heap.size := by omega
        have lt7 : ¬ tb = W.heap.size + 1 := by omega
        have lt6 : ¬ tb = W.heap.size + 1 + 1 := by omega
        have lt5 : ¬ W.heap.size + 1 = tb := by omega
        have lt4 : ¬ W.heap.size + 1 + 1 = tb := by omega
        go_region
        all_goals
          go_wp2
          refine bodyPost_ret (v := .tuple #[sv (.slice ba m.length bc) j n2 (.slice na2 nn2 nc2) c, tv 6 0 0 0 e0 0 0 0 nl (.slice a1 q1 c1)]) (by simp [results, Tryz.results16, go_sem, y0, y1, y2, y3, y4, z0, z1, z2, z3, z4, z5, z6, z7, z8, l0, l1, l2]) rfl ?_
          exact ⟨⟨_, _, _, _, _, _, _, _, _, _, _, _, _, _, _, _, _, _, _, rfl⟩, ((HG.out.set5 (g := W.heap.size + 1) (Nat.le_succ _) _ _ _ _ _).set9 (g := W.heap.size + 1 + 1) (by omega) _ _ _ _ _ _ _ _ _).trans (Gr.drew _ _)⟩
    case inl =>
      obtain ⟨uv, ts, vs, j, n2, na2, nc2, ls, hkt, e, hj, hn2, hl2, hsn, hsl⟩ := hA
      obtain ⟨au, cu, rfl⟩ := ownsRow_sv hsl.row
      clear hI
      have Hkt := Lib.hid hkt
      have He := Lib.hid e
      have Hj := Lib.hid hj
      have Hn2 := Lib.hid hn2
      have Hl2 := Lib.hid hl2
      have SNP := Lib.hid hsn
      have Q0 := Lib.hid hsl
      clear hkt e hj hn2 hl2 hsn hsl
      rcases Nat.lt_or_ge k u with hz | hz
      case inr =>
        have hku : u - k = 0 := by omega
        have hzI : decide ((k : Int) < (u : Int)) = false := by simp; omega
        have hzN : decide (k < u) = false := by simp; omega
        have e : q = .ok (ts, m.drop j, n2, ls) := by rw [He.out, hku, elq]
        subst e
        clear hz hku
        have H4 := Lib.hid Q0.out.sp
        obtain ⟨⟨x0, x1, x2, x3, x4⟩, xf0, xf1, xf2, xf3, xf4⟩ := five H4.out.sx.st
        have l0 := (Array.getElem?_eq_some_iff.1 H4.out.sx.st).1
        go_wp2_with fail
        clear x0 x1 x2 x3 x4 xf0 xf1 xf2 xf3 xf4 l0
        obtain ⟨⟨x0, x1, x2, x3, x4⟩, xf0, xf1, xf2, xf3, xf4⟩ := five H4.out.sx.st
        have l0 := (Array.getElem?_eq_some_iff.1 H4.out.sx.st).1
        obtain ⟨⟨y0, y1, y2, y3, y4⟩, yf0, yf1, yf2, yf3, yf4⟩ := five H4.out.sx.out
        obtain ⟨⟨z0, z1, z2, z3, z4, z5, z6, z7, z8⟩, zf⟩ := nine H4.out.ot
        obtain ⟨⟨t0, t1, t2, t3, t4, t5, t6, t7, t8⟩, tf⟩ := nine H4.out.tm
        have l1 := (Array.getElem?_eq_some_iff.1 H4.out.sx.out).1
        have l2 := (Array.getElem?_eq_some_iff.1 H4.out.ot).1
        have l3 := (Array.getElem?_eq_some_iff.1 H4.out.tm).1
        have lt9 := H4.out.lt
        have HG := Lib.hid H4.out.sx.gr
        have lt8 : ¬ tb = W.heap.size := by omega
        have lt7 : ¬ tb = W.heap.size + 1 := by omega
        have lt6 : ¬ tb = W.heap.size + 1 + 1 := by omega
        have lt5 : ¬ W.heap.size + 1 = tb := by omega
        have lt4 : ¬ W.heap.size + 1 + 1 = tb := by omega
        go_region
        all_goals
          go_wp2
          refine bodyPost_ret (v := .tuple #[sv (.slice ba m.length bc) j n2 (.slice na2 ls.length nc2) 0, tv 6 0 0 0 e0 0 0 0 nl (.slice au ts.length cu)]) (by simp [results, Tryz.results16, go_sem, y0, y1, y2, y3, y4, z0, z1, z2, z3, z4, z5, z6, z7, z8, l0, l1, l2]) rfl ?_
          refine ⟨⟨j, _, _, _, Hj.out, rfl, rfl, ⟨_, _, vs, rfl, .inl ⟨rfl, _, _, rfl⟩, (rowT_own Q0.out.row).turn ((turn14 _ (W.heap.size + 1) (tb + 1) W.heap.size (by omega) (by omega) _ _ _ _ _ _ _ _ _ _ _ _ _ _).drew), Q0.out.reps.turn (fun z hz hlt => (turn14 _ (W.heap.size + 1) (tb + 1) W.heap.size (by omega) (by omega) _ _ _ _ _ _ _ _ _ _ _ _ _ _).drew z hz.1 hlt)⟩, ?_, Hn2.out, Hl2.out⟩, ((HG.out.set5 (g := W.heap.size + 1) (Nat.le_succ _) _ _ _ _ _).set9 (g := W.heap.size + 1 + 1) (by omega) _ _ _ _ _ _ _ _ _).trans (Gr.drew _ _)⟩
          exact H4.out.snap SNP.out ((((Gr.own5 _ (W.heap.size + 1) _ _ _ _ _).mono (fun _ _ e => .inr (.inl e))).trans ((Gr.own9 _ (W.heap.size + 1 + 1) _ _ _ _ _ _ _ _ _).mono (fun _ _ e => .inr (.inr (.inl e))))).trans (Gr.drew _ _))
      case inl =>
        have hzI : (k : Int) < (u : Int) := by omega
        have hzN : decide (k < u) = true := by simp; omega
        obtain ⟨f, hf⟩ : ∃ f, u - k = f + 1 := ⟨u - k - 1, by omega⟩
        have Hf : Hid (f = u - (k + 1)) := Lib.hid (by omega)
        have He2 : Hid (q = elq (ptq rr) (f + 1) (m.drop j) n2 ls ts) := Lib.hid (by rw [He.out, hf])
        have Hz := Lib.hid hz
        clear hz hf He
        have hcall := Lib.hid (HP.out wr na2 nc2 ls j n2 (d + 1) (by omega) (by have := Hd.out; omega) Hj.out Hn2.out (HQ.out.gr Q0.out.sp.sx.gr (fun _ _ e => e)) SNP.out Hl2.out)
        obtain ⟨⟨x0, x1, x2, x3, x4⟩, xf0, xf1, xf2, xf3, xf4⟩ := five Q0.out.sp.sx.st
        have l0 := (Array.getElem?_eq_some_iff.1 Q0.out.sp.sx.st).1
        go_wp2_with fail
        clear x0 x1 x2 x3 x4 xf0 xf1 xf2 xf3 xf4 l0
        refine hcall.out.mono ?_
        cases hr : ptq rr (m.drop j) n2 ls with
        | error c =>
          rintro e w4 ⟨⟨j', n', na', nn, nc', tk, tn, tx, ty, ts', ta, tc, td, a1, a2, q1, c1, q2, c2, rfl⟩, g4⟩
          have e : q = .error c := by rw [He2.out, elq, hr]
          subst e
          have hc : (c == 0) = false := by have := ptq_er _ _ _ _ _ hr; simp; omega
          clear hr hcall He2 SNP
          have P4 := Lib.hid (Q0.out.turn g4)
          obtain ⟨⟨x0, x1, x2, x3, x4⟩, xf0, xf1, xf2, xf3, xf4⟩ := five P4.out.sp.sx.st
          have l0 := (Array.getElem?_eq_some_iff.1 P4.out.sp.sx.st).1
          obtain ⟨⟨t0, t1, t2, t3, t4, t5, t6, t7, t8⟩, tf⟩ := nine P4.out.sp.tm
          have tf8 := tf 8
          have l3 := (Array.getElem?_eq_some_iff.1 P4.out.sp.tm).1
          have l39 := P4.out.size
          have e1 : ¬ tb = W.heap.size := by have := P4.out.sp.lt; omega
          have e2 : ¬ W.heap.size = tb := by have := P4.out.sp.lt; omega
          clear g4 Q0 tf
          go_wp2_with (first
            | (at_builtin; have p5 := P4.out.set (Nat.le_refl _) (.slice ba m.length bc) (.slice na' nn nc') j' n' c (j' : Int) rfl (n' : Int) rfl; have p7 := (p5.turn (Gr.alloc _ (.cells #[(.slice ba m.length bc), .int .i64 (j' : Int), .int .i64 (n' : Int), (.slice na' nn nc'), .int .i64 c] 51) _)).turn (Gr.alloc _ (.cells #[.int .i64 tk, .int .i64 tn, .complex .f64 tx ty, .string ts', .int .i64 ta, .int .u32 tc, .int .u64 td, .slice a1 q1 c1, .slice a2 q2 c2] 31) _); clear p5; refine wpList_own2 _ rfl 29 _ _ rfl (tb + 1) 31 i0 (lf 0 0 0 0 e0 0 0 0) 9 120 Tryz.underlying29 hi0 hz0 hz1 hz2 rfl (by decide) (.slice au ts.length cu) ts.length (vs.flatMap cellsOf) _ 1 1 [.int .i64 tk, .int .i64 tn, .complex .f64 tx ty, .string ts', .int .i64 ta, .int .u32 tc, .int .u64 td, .slice a1 q1 c1, .slice a2 q2 c2] rfl rfl (p7.row.alloc _) rfl (cells9_at _ _ (by simp only [World.size_alloc, World.size_setCell]) _ _ _ _ _ _ _ _ _ _) (by simp [Value.oneCell']) (by unfold maxLen; have := HK.out; have := Hkt.out; have := Hg.out; omega) (by have := HK.out; have := Hkt.out; have := Hg.out; omega) (by simp only [World.size_alloc, World.size_setCell]; omega) ?_; intro v' w5 hrow5 hgr5 hloc5; obtain ⟨a5, cap5, rfl⟩ := ownsRow_sv hrow5; have s8 := p7.grown (Nat.le_refl _) hgr5; have A6 := Lib.hid (s8.cell (Nat.le_refl _) 8 (.slice a5 (ts.length + 1) cap5)); clear p7 hrow5 hgr5 hloc5; have l3 := (Array.getElem?_eq_some_iff.1 s8.tm).1; have l0 := (Array.getElem?_eq_some_iff.1 s8.sx.st).1; obtain ⟨⟨x0, x1, x2, x3, x4⟩, xf0, xf1, xf2, xf3, xf4⟩ := five s8.sx.st; obtain ⟨⟨t0, t1, t2, t3, t4, t5, t6, t7, t8⟩, tf⟩ := nine s8.tm; have tf8 := tf 8; clear s8))
          refine ⟨⟨k + 1, by simp, Lib.hid Hz.out, Lib.hid (.inr ⟨c, j', n', na', nn, nc', a5, ts.length + 1, cap5, hc, rfl, A6.out⟩)⟩, ?_⟩
          simp [intOf]; have := Hz.out; omega
        | ok o =>
          obtain ⟨T, r', n', l3'⟩ := o
          rintro e w4 ⟨⟨j', na3, nc3, v, hj', hjr', rfl, hrep, hsn', hn', hl'⟩, g4⟩
          obtain ⟨tk, tn, tx, ty, ts', ta, tc, td, a1, q1, c1, a2, q2, c2, rfl⟩ := hrep.agg
          have He3 : Hid (q = elq (ptq rr) f r' n' l3' (ts ++ [T])) := Lib.hid (by rw [He2.out, elq, hr])
          have R4 := Lib.hid (hrep.turn (A' := fun z => tb + 1 ≤ z ∧ (Value.slice au ts.length cu).ownBlock ≠ some z) (W' := w4) (fun z hz hlt => ⟨⟨by have := Q0.out.size; omega, fun e => by have := (ownsRow_lt Q0.out.row z e).2; omega⟩, rfl⟩))
          have SN4 := Lib.hid hsn'
          have Hj3 := Lib.hid hj'
          have Hjr3 := Lib.hid hjr'
          have Hn3 := Lib.hid hn'
          have Hl3 := Lib.hid hl'
          clear hr hcall He2 SNP hj' hjr' hrep hsn' hn' hl'
          have P4 := Lib.hid (Q0.out.turn g4)
          obtain ⟨⟨x0, x1, x2, x3, x4⟩, xf0, xf1, xf2, xf3, xf4⟩ := five P4.out.sp.sx.st
          have l0 := (Array.getElem?_eq_some_iff.1 P4.out.sp.sx.st).1
          obtain ⟨⟨t0, t1, t2, t3, t4, t5, t6, t7, t8⟩, tf⟩ := nine P4.out.sp.tm
          have tf8 := tf 8
          have l3 := (Array.getElem?_eq_some_iff.1 P4.out.sp.tm).1
          have l39 := P4.out.size
          have e1 : ¬ tb = W.heap.size := by have := P4.out.sp.lt; omega
          have e2 : ¬ W.heap.size = tb := by have := P4.out.sp.lt; omega
          clear g4 Q0 tf
          go_wp2_with (first
            | (at_builtin; have p5 := P4.out.set (Nat.le_refl _) (.slice ba m.length bc) (.slice na3 l3'.length nc3) j' n' 0 (j' : Int) rfl (n' : Int) rfl; have r5 := R4.out.turn (A' := fun z => tb + 1 ≤ z ∧ (Value.slice au ts.length cu).ownBlock ≠ some z) (fun z hz hlt => ⟨hz, (Gr.own5 w4 W.heap.size (.slice ba m.length bc) (.int .i64 (j' : Int)) (.int .i64 (n' : Int)) (.slice na3 l3'.length nc3) (.int .i64 0)).block z hlt (by have := P4.out.sp.lt; omega)⟩); have n5 := P4.out.sp.snap SN4.out ((Gr.own5 w4 W.heap.size (.slice ba m.length bc) (.int .i64 (j' : Int)) (.int .i64 (n' : Int)) (.slice na3 l3'.length nc3) (.int .i64 0)).mono (fun _ _ e => .inl e)); have p7 := (p5.turn (Gr.alloc _ (.cells #[(.slice ba m.length bc), .int .i64 (j' : Int), .int .i64 (n' : Int), (.slice na3 l3'.length nc3), .int .i64 0] 51) _)).turn (Gr.alloc _ (.cells #[.int .i64 tk, .int .i64 tn, .complex .f64 tx ty, .string ts', .int .i64 ta, .int .u32 tc, .int .u64 td, .slice a1 q1 c1, .slice a2 q2 c2] 31) _); have r7 := (r5.turn (A' := fun z => tb + 1 ≤ z ∧ (Value.slice au ts.length cu).ownBlock ≠ some z) (fun z hz hlt => ⟨hz, (Gr.alloc _ (.cells #[(.slice ba m.length bc), .int .i64 (j' : Int), .int .i64 (n' : Int), (.slice na3 l3'.length nc3), .int .i64 0] 51) (fun _ => False)).block z hlt (fun e => e)⟩)).turn (A' := fun z => tb + 1 ≤ z ∧ (Value.slice au ts.length cu).ownBlock ≠ some z) (fun z hz hlt => ⟨hz, (Gr.alloc _ (.cells #[.int .i64 tk, .int .i64 tn, .complex .f64 tx ty, .string ts', .int .i64 ta, .int .u32 tc, .int .u64 td, .slice a1 q1 c1, .slice a2 q2 c2] 31) (fun _ => False)).block z hlt (fun e => e)⟩); have n7 := (n5.gr (Gr.alloc _ (.cells #[(.slice ba m.length bc), .int .i64 (j' : Int), .int .i64 (n' : Int), (.slice na3 l3'.length nc3), .int .i64 0] 51) (fun _ => False)) (fun _ _ e => e)).gr (Gr.alloc _ (.cells #[.int .i64 tk, .int .i64 tn, .complex .f64 tx ty, .string ts', .int .i64 ta, .int .u32 tc, .int .u64 td, .slice a1 q1 c1, .slice a2 q2 c2] 31) (fun _ => False)) (fun _ _ e => e); clear p5 r5 n5; refine wpList_own2 _ rfl 29 _ _ rfl (tb + 1) 31 i0 (lf 0 0 0 0 e0 0 0 0) 9 120 Tryz.underlying29 hi0 hz0 hz1 hz2 rfl (by decide) (.slice au ts.length cu) ts.length (vs.flatMap cellsOf) _ 1 1 [.int .i64 tk, .int .i64 tn, .complex .f64 tx ty, .string ts', .int .i64 ta, .int .u32 tc, .int .u64 td, .slice a1 q1 c1, .slice a2 q2 c2] rfl rfl (p7.row.alloc _) rfl (cells9_at _ _ (by simp only [World.size_alloc, World.size_setCell]) _ _ _ _ _ _ _ _ _ _) (by simp [Value.oneCell']) (by unfold maxLen; have := HK.out; have := Hkt.out; have := Hg.out; omega) (by have := HK.out; have := Hkt.out; have := Hg.out; omega) (by simp only [World.size_alloc, World.size_setCell]; omega) ?_; intro v' w5 hrow5 hgr5 hloc5; obtain ⟨a5, cap5, rfl⟩ := ownsRow_sv hrow5; have A6 := Lib.hid (p7.app (Nat.le_refl _) hrow5 rfl hgr5 hloc5 r7); have n8 := p7.snap hgr5 n7; have s8 := p7.grown (Nat.le_refl _) hgr5; have N9 := Lib.hid (s8.snap n8 ((own1 w5 tb 8 (.slice a5 (ts.length + 1) cap5)).mono (fun _ _ e => .inr (.inr (.inr e))))); clear p7 r7 n7 n8 hrow5 hgr5 hloc5; have l3 := (Array.getElem?_eq_some_iff.1 s8.tm).1; have l0 := (Array.getElem?_eq_some_iff.1 s8.sx.st).1; obtain ⟨⟨x0, x1, x2, x3, x4⟩, xf0, xf1, xf2, xf3, xf4⟩ := five s8.sx.st; obtain ⟨⟨t0, t1, t2, t3, t4, t5, t6, t7, t8⟩, tf⟩ := nine s8.tm; have tf8 := tf 8; clear s8))
          refine ⟨⟨k + 1, by simp, Lib.hid Hz.out, Lib.hid (.inl ⟨_, ts ++ [T], _, j', n', na3, nc3, l3', by rw [Hkt.out]; simp, by rw [He3.out, Hjr3.out, Hf.out], Hj3.out, Hn3.out, Hl3.out, N9.out, A6.out⟩)⟩, ?_⟩
          simp [intOf]; have := Hz.out; omega
end Go.Proofs.YtmohehfkbhllpaaGreat

namespace Go.Proofs.YtmohehfkbhllpaaGreat
open Go.RowKit Go.Maps
variable {S S' Z : Nat → Prop} {W W1 W' : World}
set_option maxRecDepth 20000 in
set_option maxHeartbeats 4000000 in
theorem part_7o (ba : Option Addr) (bc : Nat) (na : Option Addr) (nc : Nat) (m : List Int) (l : List ByteArray) (i n : Nat) (d : Int) (hi : i ≤ m.length) (hn : n ≤ 4096) (W : World) (hd : d ≤ 24) (x : Int) (hb : n < 4096) (hmx : m[i]? = some x) (hq : Sq Z W (.slice ba m.length bc) m) (hx3 : x = 7) (u : Nat) (r : List Int) (hr : nmb 10 0 0 (m.drop (i + 1)) = .ok (u, r)) (hg : u ≤ 256) (hs : Snap W (.slice na l.length nc) l) (hl : l.length ≤ n) (rr : Nat) (hP : PartR Z ba bc m rr) (hd1 : 1 ≤ d) (hdr : d + 1 + rr = 25) : Calls Tryz.prog 16 #[sv (.slice ba m.length bc) i n (.slice na l.length nc) 0, .int .i64 d] W fun e w' => (EndP ba bc m W e w' (fl7 7 (elq (ptq rr) u r (n + 1) l []))) ∧ Gr (fun _ => False) W w' := by
  have hx := Lib.hid (Sq0.new W (.slice ba m.length bc) (.slice na l.length nc) i n 0)
  have hnI : (n : Int) ≤ 4096 := by omega
  have hn0 : (0 : Int) ≤ (n : Int) := by omega
  obtain ⟨n1, hn1⟩ : ∃ n1, n + 1 = n1 := ⟨_, rfl⟩
  have hn1I : (n : Int) + 1 = (n1 : Int) := by omega
  have hn1b : (n1 : Int) ≤ 5000 := by omega
  have hn1c : (0 : Int) ≤ (n1 : Int) := by omega
  have Hn1 := Lib.hid hn1
  have Hn := Lib.hid hn
  clear hn1 hn
  have hdI : decide ((24 : Int) < d) = false := by simp; omega
  clear hd
  have hbI : decide ((4096 : Int) < (n1 : Int)) = false := by simp; omega
  have h1 := Lib.hid (fun w g => rone_ok ba bc na l.length nc i n1 m x hmx w (hq.gr (g : Gr (fun _ => False) W w) (fun _ _ e => e)))
  have hxb := hq.byte x (List.mem_of_getElem? hmx)
  have hx0 : (0 : Int) ≤ x := hxb.1
  have hx1 : x < 256 := hxb.2
  have h31 := Lib.hid (fun w (g : Gr (fun _ => False) W w) => wide_e ba bc na l.length nc m (i + 1) n1 (by have := (List.getElem?_eq_some_iff.1 hmx).1; omega) w (hq.gr g (fun _ _ e => e)))
  rw [hr] at h31
  have hgI : (u : Int) ≤ 256 := by omega
  have hgN : decide (u ≤ 256) = true := by simp; omega
  have hu0 : (0 : Int) ≤ (u : Int) := by omega
  have Hg := Lib.hid hg
  have Hs := Lib.hid hs
  have Hl4 : Hid (l.length ≤ n + 1) := Lib.hid (by omega)
  have Hn4 : Hid (n + 1 ≤ 4096) := Lib.hid hb
  have HP := Lib.hid hP
  have HQ := Lib.hid hq
  have Hd := Lib.hid hdr
  have hd1I : (0 : Int) ≤ d := by omega
  have hd2I : d ≤ 24 := by omega
  obtain ⟨i0, hi0, hz0, hz1, hz2⟩ := info_parts info31
  obtain ⟨q, hqq⟩ : ∃ q, q = elq (ptq rr) u r (n + 1) l [] := ⟨_, rfl⟩
  rw [← hqq]
  have Hq := Lib.hid hqq
  clear hb hmx hq hxb hr hx0 hx1 hg hs hl hP hdr hqq
  subst hx3
  go_enter Tryz.func16, Tryz.ntmps16
  go_wp2_with fail
  generalize hW1 : World.alloc (World.alloc (World.alloc W _) _) _ = W1
  have H0 : Hid (Sq0 W W.heap.size (.slice ba m.length bc) (.slice na l.length nc) i n1 0 W1) := Lib.hid (hW1 ▸ Sq0.new W (.slice ba m.length bc) (.slice na l.length nc) i n1 0)
  clear hW1 hx
  refine (h1.out _ H0.out.sx.gr).mono ?_
  rintro e w1 ⟨rfl, g1⟩
  have s1 := H0.out.turn g1
  obtain ⟨⟨x0, x1, x2, x3, x4⟩, xf0, xf1, xf2, xf3, xf4⟩ := five s1.sx.st
  have l0 := (Array.getElem?_eq_some_iff.1 s1.sx.st).1
  have H1 := Lib.hid ((s1.set (Nat.le_refl _) (.slice ba m.length bc) (.slice na l.length nc) (i + 1) n1 0 ((i : Int) + 1) (by simp) (n1 : Int) rfl).term #[.int .i64 7, .int .i64 0, .complex .f64 0 0, .string e0, .int .i64 0, .int .u32 0, .int .u64 0, nl, nl] w1.heap.size (by simp))
  clear s1 g1 H0
  go_wp2_with fail
  generalize World.alloc _ _ = Y1 at H1 ⊢
  generalize w1.heap.size = tb at H1 ⊢
  clear x0 x1 x2 x3 x4 xf0 xf1 xf2 xf3 xf4 l0
  refine (h31.out _ H1.out.sx.gr).mono ?_
  rintro e w2 ⟨⟨j, hj, hjr, hu, rfl⟩, g2⟩
  have Hj := Lib.hid hj
  have Hjr := Lib.hid hjr
  clear hj hjr hu
  have s2 := H1.out.turn g2
  have H2 := Lib.hid (s2.second j n1 0 ((j : Nat) : Int) (by simp) w2.heap.size rfl)
  clear s2 g2 H1
  go_wp2_with fail
  generalize World.alloc _ _ = Y2 at H2 ⊢
  generalize w2.heap.size = yb at H2 ⊢
  refine (must_yes ba m.length bc na l.length nc j n1 0 _).mono ?_
  rintro e w3 ⟨rfl, g3⟩
  have s3 := H2.out.turn g3
  obtain ⟨⟨x0, x1, x2, x3, x4⟩, xf0, xf1, xf2, xf3, xf4⟩ := five s3.sp.sx.st
  have l0 := (Array.getElem?_eq_some_iff.1 s3.sp.sx.st).1
  have H3 := Lib.hid (s3.sp.set (Nat.le_refl _) (.slice ba m.length bc) (.slice na l.length nc) j n1 0 ((j : Nat) : Int) (by simp) (n1 : Int) rfl)
  clear s3 g3 H2
  go_wp2_with fail
  generalize World.setCell (World.setCell (World.setCell (World.setCell (World.setCell w3 _ _) _ _) _ _) _ _) _ _ = Y3 at H3 ⊢
  clear x0 x1 x2 x3 x4 xf0 xf1 xf2 xf3 xf4 l0
  go_loopw [18] (fun v wr => ∃ k : Nat, v = .int .u64 (k : Int) ∧ Hid (k ≤ u) ∧ Hid (Lp (ptq rr) q ba bc m u W W.heap.size tb 7 k wr)) (fun v _ => u - (intOf v).toNat)
  case atStart => exact ⟨0, rfl, Lib.hid (Nat.zero_le _), Lib.hid (.inl ⟨nl, [], [], j, n1, na, nc, l, rfl, by rw [Hq.out, Hjr.out, Hn1.out, Nat.sub_zero], Hj.out, by rw [← Hn1.out]; exact Hn4.out, by rw [← Hn1.out]; exact Hl4.out, Hs.out.gr H3.out.sx.gr (fun _ _ e => e), ⟨H3.out, World.ownsRow_nil _ _ _ _, rfl, fun _ => rfl⟩⟩)⟩
  case round =>
    obtain ⟨k, rfl, HK, hI⟩ := hrel
    clear H3 Hj Hjr Hq Hs Hl4 Hn4
    have hkI : (k : Int) ≤ 256 := by have := HK.out; have := Hg.out; omega
    have hk0 : (0 : Int) ≤ (k : Int) := by omega
    rcases hI.out with hA | hB
    case inr =>
      obtain ⟨c, j, n2, na2, nn2, nc2, a1, q1, c1, hc, e, hsp⟩ := hB
      subst e
      have H4 := Lib.hid hsp
      clear hI hsp
      rcases Nat.lt_or_ge k u with hz | hz
      · have hzI : (k : Int) < (u : Int) := by omega
        have hzN : decide (k < u) = true := by simp; omega
        clear hz
        obtain ⟨⟨x0, x1, x2, x3, x4⟩, xf0, xf1, xf2, xf3, xf4⟩ := five H4.out.sx.st
        have l0 := (Array.getElem?_eq_some_iff.1 H4.out.sx.st).1
        go_wp2_with fail
        clear x0 x1 x2 x3 x4 xf0 xf1 xf2 xf3 xf4 l0
        obtain ⟨⟨x0, x1, x2, x3, x4⟩, xf0, xf1, xf2, xf3, xf4⟩ := five H4.out.sx.st
        have l0 := (Array.getElem?_eq_some_iff.1 H4.out.sx.st).1
        obtain ⟨⟨y0, y1, y2, y3, y4⟩, yf0, yf1, yf2, yf3, yf4⟩ := five H4.out.sx.out
        obtain ⟨⟨z0, z1, z2, z3, z4, z5, z6, z7, z8⟩, zf⟩ := nine H4.out.ot
        obtain ⟨⟨t0, t1, t2, t3, t4, t5, t6, t7, t8⟩, tf⟩ := nine H4.out.tm
        have l1 := (Array.getElem?_eq_some_iff.1 H4.out.sx.out).1
        have l2 := (Array.getElem?_eq_some_iff.1 H4.out.ot).1
        have l3 := (Array.getElem?_eq_some_iff.1 H4.out.tm).1
        have lt9 := H4.out.lt
        have HG := Lib.hid H4.out.sx.gr
        have lt8 : ¬ tb = W.heap.size := by omega
        have lt7 : ¬ tb = W.heap.size + 1 := by omega
        have lt6 : ¬ tb = W.heap.size + 1 + 1 := by omega
        have lt5 : ¬ W.heap.size + 1 = tb := by omega
        have lt4 : ¬ W.heap.size + 1 + 1 = tb := by omega
        go_region
        all_goals
          go_wp2
          refine bodyPost_ret (v := .tuple #[sv (.slice ba m.length bc) j n2 (.slice na2 nn2 nc2) c, tv 7 0 0 0 e0 0 0 0 nl (.slice a1 q1 c1)]) (by simp [results, Tryz.results16, go_sem, y0, y1, y2, y3, y4, z0, z1, z2, z3, z4, z5, z6, z7, z8, l0, l1, l2]) rfl ?_
          exact ⟨⟨_, _, _, _, _, _, _, _, _, _, _, _, _, _, _, _, _, _, _, rfl⟩, ((HG.out.set5 (g := W.heap.size + 1) (Nat.le_succ _) _ _ _ _ _).set9 (g := W.heap.size + 1 + 1) (by omega) _ _ _ _ _ _ _ _ _).trans (Gr.drew _ _)⟩
      · have hzI : decide ((k : Int) < (u : Int)) = false := by simp; omega
        have hzN : decide (k < u) = false := by simp; omega
        clear hz
        obtain ⟨⟨x0, x1, x2, x3, x4⟩, xf0, xf1, xf2, xf3, xf4⟩ := five H4.out.sx.st
        have l0 := (Array.getElem?_eq_some_iff.1 H4.out.sx.st).1
        go_wp2_with fail
        clear x0 x1 x2 x3 x4 xf0 xf1 xf2 xf3 xf4 l0
        obtain ⟨⟨x0, x1, x2, x3, x4⟩, xf0, xf1, xf2, xf3, xf4⟩ := five H4.out.sx.st
        have l0 := (Array.getElem?_eq_some_iff.1 H4.out.sx.st).1
        obtain ⟨⟨y0, y1, y2, y3, y4⟩, yf0, yf1, yf2, yf3, yf4⟩ := five H4.out.sx.out
        obtain ⟨⟨z0, z1, z2, z3, z4, z5, z6, z7, z8⟩, zf⟩ := nine H4.out.ot
        obtain ⟨⟨t0, t1, t2, t3, t4, t5, t6, t7, t8⟩, tf⟩ := nine H4.out.tm
        have l1 := (Array.getElem?_eq_some_iff.1 H4.out.sx.out).1
        have l2 := (Array.getElem?_eq_some_iff.1 H4.out.ot).1
        have l3 := (Array.getElem?_eq_some_iff.1 H4.out.tm).1
        have lt9 := H4.out.lt
        have HG := Lib.hid H4.out.sx.gr
        have lt8 : ¬ tb = W.heap.size := by omega
        have lt7 : ¬ tb = W.heap.size + 1 := by omega
        have lt6 : ¬ tb = W.heap.size + 1 + 1 := by omega
        have lt5 : ¬ W.heap.size + 1 = tb := by omega
        have lt4 : ¬ W.heap.size + 1 + 1 = tb := by omega
        go_region
        all_goals
          go_wp2
          refine bodyPost_ret (v := .tuple #[sv (.slice ba m.length bc) j n2 (.slice na2 nn2 nc2) c, tv 7 0 0 0 e0 0 0 0 nl (.slice a1 q1 c1)]) (by simp [results, Tryz.results16, go_sem, y0, y1, y2, y3, y4, z0, z1, z2, z3, z4, z5, z6, z7, z8, l0, l1, l2]) rfl ?_
          exact ⟨⟨_, _, _, _, _, _, _, _, _, _, _, _, _, _, _, _, _, _, _, rfl⟩, ((HG.out.set5 (g := W.heap.size + 1) (Nat.le_succ _) _ _ _ _ _).set9 (g := W.heap.size + 1 + 1) (by omega) _ _ _ _ _ _ _ _ _).trans (Gr.drew _ _)⟩
    case inl =>
      obtain ⟨uv, ts, vs, j, n2, na2, nc2, ls, hkt, e, hj, hn2, hl2, hsn, hsl⟩ := hA
      obtain ⟨au, cu, rfl⟩ := ownsRow_sv hsl.row
      clear hI
      have Hkt := Lib.hid hkt
      have He := Lib.hid e
      have Hj := Lib.hid hj
      have Hn2 := Lib.hid hn2
      have Hl2 := Lib.hid hl2
      have SNP := Lib.hid hsn
      have Q0 := Lib.hid hsl
      clear hkt e hj hn2 hl2 hsn hsl
      rcases Nat.lt_or_ge k u with hz | hz
      case inr =>
        have hku : u - k = 0 := by omega
        have hzI : decide ((k : Int) < (u : Int)) = false := by simp; omega
        have hzN : decide (k < u) = false := by simp; omega
        have e : q = .ok (ts, m.drop j, n2, ls) := by rw [He.out, hku, elq]
        subst e
        clear hz hku
        have H4 := Lib.hid Q0.out.sp
        obtain ⟨⟨x0, x1, x2, x3, x4⟩, xf0, xf1, xf2, xf3, xf4⟩ := five H4.out.sx.st
        have l0 := (Array.getElem?_eq_some_iff.1 H4.out.sx.st).1
        go_wp2_with fail
        clear x0 x1 x2 x3 x4 xf0 xf1 xf2 xf3 xf4 l0
        obtain ⟨⟨x0, x1, x2, x3, x4⟩, xf0, xf1, xf2, xf3, xf4⟩ := five H4.out.sx.st
        have l0 := (Array.getElem?_eq_some_iff.1 H4.out.sx.st).1
        obtain ⟨⟨y0, y1, y2, y3, y4⟩, yf0, yf1, yf2, yf3, yf4⟩ := five H4.out.sx.out
        obtain ⟨⟨z0, z1, z2, z3, z4, z5, z6, z7, z8⟩, zf⟩ := nine H4.out.ot
        obtain ⟨⟨t0, t1, t2, t3, t4, t5, t6, t7, t8⟩, tf⟩ := nine H4.out.tm
        have l1 := (Array.getElem?_eq_some_iff.1 H4.out.sx.out).1
        have l2 := (Array.getElem?_eq_some_iff.1 H4.out.ot).1
        have l3 := (Array.getElem?_eq_some_iff.1 H4.out.tm).1
        have lt9 := H4.out.lt
        have HG := Lib.hid H4.out.sx.gr
        have lt8 : ¬ tb = W.heap.size := by omega
        have lt7 : ¬ tb = W.heap.size + 1 := by omega
        have lt6 : ¬ tb = W.heap.size + 1 + 1 := by omega
        have lt5 : ¬ W.heap.size + 1 = tb := by omega
        have lt4 : ¬ W.heap.size + 1 + 1 = tb := by omega
        go_region
        all_goals
          go_wp2
          refine bodyPost_ret (v := .tuple #[sv (.slice ba m.length bc) j n2 (.slice na2 ls.length nc2) 0, tv 7 0 0 0 e0 0 0 0 nl (.slice au ts.length cu)]) (by simp [results, Tryz.results16, go_sem, y0, y1, y2, y3, y4, z0, z1, z2, z3, z4, z5, z6, z7, z8, l0, l1, l2]) rfl ?_
          refine ⟨⟨j, _, _, _, Hj.out, rfl, rfl, ⟨_, _, vs, rfl, .inl ⟨rfl, _, _, rfl⟩, (rowT_own Q0.out.row).turn ((turn14 _ (W.heap.size + 1) (tb + 1) W.heap.size (by omega) (by omega) _ _ _ _ _ _ _ _ _ _ _ _ _ _).drew), Q0.out.reps.turn (fun z hz hlt => (turn14 _ (W.heap.size + 1) (tb + 1) W.heap.size (by omega) (by omega) _ _ _ _ _ _ _ _ _ _ _ _ _ _).drew z hz.1 hlt)⟩, ?_, Hn2.out, Hl2.out⟩, ((HG.out.set5 (g := W.heap.size + 1) (Nat.le_succ _) _ _ _ _ _).set9 (g := W.heap.size + 1 + 1) (by omega) _ _ _ _ _ _ _ _ _).trans (Gr.drew _ _)⟩
          exact H4.out.snap SNP.out ((((Gr.own5 _ (W.heap.size + 1) _ _ _ _ _).mono (fun _ _ e => .inr (.inl e))).trans ((Gr.own9 _ (W.heap.size + 1 + 1) _ _ _ _ _ _ _ _ _).mono (fun _ _ e => .inr (.inr (.inl e))))).trans (Gr.drew _ _))
      case inl =>
        have hzI : (k : Int) < (u : Int) := by omega
        have hzN : decide (k < u) = true := by simp; omega
        obtain ⟨f, hf⟩ : ∃ f, u - k = f + 1 := ⟨u - k - 1, by omega⟩
        have Hf : Hid (f = u - (k + 1)) := Lib.hid (by omega)
        have He2 : Hid (q = elq (ptq rr) (f + 1) (m.drop j) n2 ls ts) := Lib.hid (by rw [He.out, hf])
        have Hz := Lib.hid hz
        clear hz hf He
        have hcall := Lib.hid (HP.out wr na2 nc2 ls j n2 (d + 1) (by omega) (by have := Hd.out; omega) Hj.out Hn2.out (HQ.out.gr Q0.out.sp.sx.gr (fun _ _ e => e)) SNP.out Hl2.out)
        obtain ⟨⟨x0, x1, x2, x3, x4⟩, xf0, xf1, xf2, xf3, xf4⟩ := five Q0.out.sp.sx.st
        have l0 := (Array.getElem?_eq_some_iff.1 Q0.out.sp.sx.st).1
        go_wp2_with fail
        clear x0 x1 x2 x3 x4 xf0 xf1 xf2 xf3 xf4 l0
        refine hcall.out.mono ?_
        cases hr : ptq rr (m.drop j) n2 ls with
        | error c =>
          rintro e w4 ⟨⟨j', n', na', nn, nc', tk, tn, tx, ty, ts', ta, tc, td, a1, a2, q1, c1, q2, c2, rfl⟩, g4⟩
          have e : q = .error c := by rw [He2.out, elq, hr]
          subst e
          have hc : (c == 0) = false := by have := ptq_er _ _ _ _ _ hr; simp; omega
          clear hr hcall He2 SNP
          have P4 := Lib.hid (Q0.out.turn g4)
          obtain ⟨⟨x0, x1, x2, x3, x4⟩, xf0, xf1, xf2, xf3, xf4⟩ := five P4.out.sp.sx.st
          have l0 := (Array.getElem?_eq_some_iff.1 P4.out.sp.sx.st).1
          obtain ⟨⟨t0, t1, t2, t3, t4, t5, t6, t7, t8⟩, tf⟩ := nine P4.out.sp.tm
          have tf8 := tf 8
          have l3 := (Array.getElem?_eq_some_iff.1 P4.out.sp.tm).1
          have l39 := P4.out.size
          have e1 : ¬ tb = W.heap.size := by have := P4.out.sp.lt; omega
          have e2 : ¬ W.heap.size = tb := by have := P4.out.sp.lt; omega
          clear g4 Q0 tf
          go_wp2_with (first
            | (at_builtin; have p5 := P4.out.set (Nat.le_refl _) (.slice ba m.length bc) (.slice na' nn nc') j' n' c (j' : Int) rfl (n' : Int) rfl; have p7 := (p5.turn (Gr.alloc _ (.cells #[(.slice ba m.length bc), .int .i64 (j' : Int), .int .i64 (n' : Int), (.slice na' nn nc'), .int .i64 c] 51) _)).turn (Gr.alloc _ (.cells #[.int .i64 tk, .int .i64 tn, .complex .f64 tx ty, .string ts', .int .i64 ta, .int .u32 tc, .int .u64 td, .slice a1 q1 c1, .slice a2 q2 c2] 31) _); clear p5; refine wpList_own2 _ rfl 29 _ _ rfl (tb + 1) 31 i0 (lf 0 0 0 0 e0 0 0 0) 9 120 Tryz.underlying29 hi0 hz0 hz1 hz2 rfl (by decide) (.slice au ts.length cu) ts.length (vs.flatMap cellsOf) _ 1 1 [.int .i64 tk, .int .i64 tn, .complex .f64 tx ty, .string ts', .int .i64 ta, .int .u32 tc, .int .u64 td, .slice a1 q1 c1, .slice a2 q2 c2] rfl rfl (p7.row.alloc _) rfl (cells9_at _ _ (by simp only [World.size_alloc, World.size_setCell]) _ _ _ _ _ _ _ _ _ _) (by simp [Value.oneCell']) (by unfold maxLen; have := HK.out; have := Hkt.out; have := Hg.out; omega) (by have := HK.out; have := Hkt.out; have := Hg.out; omega) (by simp only [World.size_alloc, World.size_setCell]; omega) ?_; intro v' w5 hrow5 hgr5 hloc5; obtain ⟨a5, cap5, rfl⟩ := ownsRow_sv hrow5; have s8 := p7.grown (Nat.le_refl _) hgr5; have A6 := Lib.hid (s8.cell (Nat.le_refl _) 8 (.slice a5 (ts.length + 1) cap5)); clear p7 hrow5 hgr5 hloc5; have l3 := (Array.getElem?_eq_some_iff.1 s8.tm).1; have l0 := (Array.getElem?_eq_some_iff.1 s8.sx.st).1; obtain ⟨⟨x0, x1, x2, x3, x4⟩, xf0, xf1, xf2, xf3, xf4⟩ := five s8.sx.st; obtain ⟨⟨t0, t1, t2, t3, t4, t5, t6, t7, t8⟩, tf⟩ := nine s8.tm; have tf8 := tf 8; clear s8))
          refine ⟨⟨k + 1, by simp, Lib.hid Hz.out, Lib.hid (.inr ⟨c, j', n', na', nn, nc', a5, ts.length + 1, cap5, hc, rfl, A6.out⟩)⟩, ?_⟩
          simp [intOf]; have := Hz.out; omega
        | ok o =>
          obtain ⟨T, r', n', l3'⟩ := o
          rintro e w4 ⟨⟨j', na3, nc3, v, hj', hjr', rfl, hrep, hsn', hn', hl'⟩, g4⟩
          obtain ⟨tk, tn, tx, ty, ts', ta, tc, td, a1, q1, c1, a2, q2, c2, rfl⟩ := hrep.agg
          have He3 : Hid (q = elq (ptq rr) f r' n' l3' (ts ++ [T])) := Lib.hid (by rw [He2.out, elq, hr])
          have R4 := Lib.hid (hrep.turn (A' := fun z => tb + 1 ≤ z ∧ (Value.slice au ts.length cu).ownBlock ≠ some z) (W' := w4) (fun z hz hlt => ⟨⟨by have := Q0.out.size; omega, fun e => by have := (ownsRow_lt Q0.out.row z e).2; omega⟩, rfl⟩))
          have SN4 := Lib.hid hsn'
          have Hj3 := Lib.hid hj'
          have Hjr3 := Lib.hid hjr'
          have Hn3 := Lib.hid hn'
          have Hl3 := Lib.hid hl'
          clear hr hcall He2 SNP hj' hjr' hrep hsn' hn' hl'
          have P4 := Lib.hid (Q0.out.turn g4)
          obtain ⟨⟨x0, x1, x2, x3, x4⟩, xf0, xf1, xf2, xf3, xf4⟩ := five P4.out.sp.sx.st
          have l0 := (Array.getElem?_eq_some_iff.1 P4.out.sp.sx.st).1
          obtain ⟨⟨t0, t1, t2, t3, t4, t5, t6, t7, t8⟩, tf⟩ := nine P4.out.sp.tm
          have tf8 := tf 8
          have l3 := (Array.getElem?_eq_some_iff.1 P4.out.sp.tm).1
          have l39 := P4.out.size
          have e1 : ¬ tb = W.heap.size := by have := P4.out.sp.lt; omega
          have e2 : ¬ W.heap.size = tb := by have := P4.out.sp.lt; omega
          clear g4 Q0 tf
          go_wp2_with (first
            | (at_builtin; have p5 := P4.out.set (Nat.le_refl _) (.slice ba m.length bc) (.slice na3 l3'.length nc3) j' n' 0 (j' : Int) rfl (n' : Int) rfl; have r5 := R4.out.turn (A' := fun z => tb + 1 ≤ z ∧ (Value.slice au ts.length cu).ownBlock ≠ some z) (fun z hz hlt => ⟨hz, (Gr.own5 w4 W.heap.size (.slice ba m.length bc) (.int .i64 (j' : Int)) (.int .i64 (n' : Int)) (.slice na3 l3'.length nc3) (.int .i64 0)).block z hlt (by have := P4.out.sp.lt; omega)⟩); have n5 := P4.out.sp.snap SN4.out ((Gr.own5 w4 W.heap.size (.slice ba m.length bc) (.int .i64 (j' : Int)) (.int .i64 (n' : Int)) (.slice na3 l3'.length nc3) (.int .i64 0)).mono (fun _ _ e => .inl e)); have p7 := (p5.turn (Gr.alloc _ (.cells #[(.slice ba m.length bc), .int .i64 (j' : Int), .int .i64 (n' : Int), (.slice na3 l3'.length nc3), .int .i64 0] 51) _)).turn (Gr.alloc _ (.cells #[.int .i64 tk, .int .i64 tn, .complex .f64 tx ty, .string ts', .int .i64 ta, .int .u32 tc, .int .u64 td, .slice a1 q1 c1, .slice a2 q2 c2] 31) _); have r7 := (r5.turn (A' := fun z => tb + 1 ≤ z ∧ (Value.slice au ts.length cu).ownBlock ≠ some z) (fun z hz hlt => ⟨hz, (Gr.alloc _ (.cells #[(.slice ba m.length bc), .int .i64 (j' : Int), .int .i64 (n' : Int), (.slice na3 l3'.length nc3), .int .i64 0] 51) (fun _ => False)).block z hlt (fun e => e)⟩)).turn (A' := fun z => tb + 1 ≤ z ∧ (Value.slice au ts.length cu).ownBlock ≠ some z) (fun z hz hlt => ⟨hz, (Gr.alloc _ (.cells #[.int .i64 tk, .int .i64 tn, .complex .f64 tx ty, .string ts', .int .i64 ta, .int .u32 tc, .int .u64 td, .slice a1 q1 c1, .slice a2 q2 c2] 31) (fun _ => False)).block z hlt (fun e => e)⟩); have n7 := (n5.gr (Gr.alloc _ (.cells #[(.slice ba m.length bc), .int .i64 (j' : Int), .int .i64 (n' : Int), (.slice na3 l3'.length nc3), .int .i64 0] 51) (fun _ => False)) (fun _ _ e => e)).gr (Gr.alloc _ (.cells #[.int .i64 tk, .int .i64 tn, .complex .f64 tx ty, .string ts', .int .i64 ta, .int .u32 tc, .int .u64 td, .slice a1 q1 c1, .slice a2 q2 c2] 31) (fun _ => False)) (fun _ _ e => e); clear p5 r5 n5; refine wpList_own2 _ rfl 29 _ _ rfl (tb + 1) 31 i0 (lf 0 0 0 0 e0 0 0 0) 9 120 Tryz.underlying29 hi0 hz0 hz1 hz2 rfl (by decide) (.slice au ts.length cu) ts.length (vs.flatMap cellsOf) _ 1 1 [.int .i64 tk, .int .i64 tn, .complex .f64 tx ty, .string ts', .int .i64 ta, .int .u32 tc, .int .u64 td, .slice a1 q1 c1, .slice a2 q2 c2] rfl rfl (p7.row.alloc _) rfl (cells9_at _ _ (by simp only [World.size_alloc, World.size_setCell]) _ _ _ _ _ _ _ _ _ _) (by simp [Value.oneCell']) (by unfold maxLen; have := HK.out; have := Hkt.out; have := Hg.out; omega) (by have := HK.out; have := Hkt.out; have := Hg.out; omega) (by simp only [World.size_alloc, World.size_setCell]; omega) ?_; intro v' w5 hrow5 hgr5 hloc5; obtain ⟨a5, cap5, rfl⟩ := ownsRow_sv hrow5; have A6 := Lib.hid (p7.app (Nat.le_refl _) hrow5 rfl hgr5 hloc5 r7); have n8 := p7.snap hgr5 n7; have s8 := p7.grown (Nat.le_refl _) hgr5; have N9 := Lib.hid (s8.snap n8 ((own1 w5 tb 8 (.slice a5 (ts.length + 1) cap5)).mono (fun _ _ e => .inr (.inr (.inr e))))); clear p7 r7 n7 n8 hrow5 hgr5 hloc5; have l3 := (Array.getElem?_eq_some_iff.1 s8.tm).1; have l0 := (Array.getElem?_eq_some_iff.1 s8.sx.st).1; obtain ⟨⟨x0, x1, x2, x3, x4⟩, xf0, xf1, xf2, xf3, xf4⟩ := five s8.sx.st; obtain ⟨⟨t0, t1, t2, t3, t4, t5, t6, t7, t8⟩, tf⟩ := nine s8.tm; have tf8 := tf 8; clear s8))
          refine ⟨⟨k + 1, by simp, Lib.hid Hz.out, Lib.hid (.inl ⟨_, ts ++ [T], _, j', n', na3, nc3, l3', by rw [Hkt.out]; simp, by rw [He3.out, Hjr3.out, Hf.out], Hj3.out, Hn3.out, Hl3.out, N9.out, A6.out⟩)⟩, ?_⟩
          simp [intOf]; have := Hz.out; omega
end Go.Proofs.YtmohehfkbhllpaaGreat
