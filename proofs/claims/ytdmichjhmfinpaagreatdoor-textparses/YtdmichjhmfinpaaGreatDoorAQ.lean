/-
  The reference's reader: a part of a text, at any depth.
-/
import Derived.Test.YtdmichjhmfinpaaGreatDoorAP
set_option linter.unusedVariables false
set_option linter.unusedSimpArgs false
namespace Go.Proofs.YtdmichjhmfinpaaGreatDoor
open Go.RowKit Go.Maps

theorem Sy.inc {W : World} {N : Nat} {s : ByteArray} {i n : Nat} {c a : Int} {X : World} (hN : W.heap.size ≤ N) (h : Sy W N s i n c a X) : Sy W N s (i + 1) n c a (X.setCell ⟨N, 1, none⟩ (.int .i64 ((i : Int) + 1))) :=
  ⟨⟨heap_setCell_same X _ 1 _ 53 _ h.sx.st, (own1 X N 1 _).keep h.sx.out (by omega), h.sx.gr.setNew hN⟩, (own1 X N 1 _).keep h.tm (by omega)⟩
theorem Sy.more {W : World} {N : Nat} {s : ByteArray} {i n : Nat} {c a : Int} {X : World} (hN : W.heap.size ≤ N) (h : Sy W N s i n c a X) (z : Int) (m : Nat) (hz : z = (m : Int)) : Sy W N s i m c a (X.setCell ⟨N, 2, none⟩ (.int .i64 z)) := by
  subst hz
  exact ⟨⟨heap_setCell_same X _ 2 _ 53 _ h.sx.st, (own1 X N 2 _).keep h.sx.out (by omega), h.sx.gr.setNew hN⟩, (own1 X N 2 _).keep h.tm (by omega)⟩
theorem Sy.stAt {W : World} {N : Nat} {s : ByteArray} {i n : Nat} {c a : Int} {X : World} (h : Sy W N s i n c a X) : Go.Proofs.YtdmichjhmfinpaaGreatDoor.stAt X N = i := by
  obtain ⟨⟨x0, x1, x2, x3, x4⟩, xf⟩ := five h.sx.st
  simp only [Go.Proofs.YtdmichjhmfinpaaGreatDoor.stAt, x1, Int.toNat_natCast]

set_option maxRecDepth 200000 in
set_option maxHeartbeats 1600000 in
theorem id_old (s : ByteArray) (i n : Nat) (k a t kd : Int) (hk : (k == 0) = false) (W : World) :
    Calls Tryz.prog 31 #[sv s i n k a, .int .i64 t, .int .i64 kd] W fun e w' => e = .returned (.tuple #[sv s i n k a, lf 0 0 0 0 e0 0 0 0]) ∧ Gr (fun _ => False) W w' := by
  have hkn : (k != 0) = true := by rw [bne, hk]; rfl
  go_enter Tryz.func31, Tryz.ntmps31
  go_wp2_with fail
  generalize hW1 : World.alloc (World.alloc (World.alloc W _) _) _ = W1
  have b0 : Sy W W.heap.size s i n k a W1 := by
    subst hW1
    refine ⟨⟨?_, ?_, ((Gr.alloc _ _ _).trans (Gr.alloc _ _ _)).trans (Gr.alloc _ _ _)⟩, ?_⟩ <;> (simp only [al, World.size_alloc]; repeat (first | rw [if_pos trivial] | rw [if_pos (by omega)] | rw [if_neg (by omega)]))
  clear hW1
  refine (number_old s i n k a hk _).mono ?_
  rintro e w1 ⟨rfl, g1⟩
  have q1 := b0.turn g1
  clear g1
  obtain ⟨l0, l1, l2⟩ := q1.lt
  obtain ⟨⟨x0, x1, x2, x3, x4⟩, xf⟩ := five q1.sx.st
  have p2 := q1.set (Nat.le_refl _) i n k a
  clear q1
  go_wp2_with fail
  refine (want_old s i n k a 46 hk _).mono ?_
  rintro e w3 ⟨rfl, g3⟩
  have q3 := p2.turn g3
  clear g3
  obtain ⟨l0, l1, l2⟩ := q3.lt
  obtain ⟨⟨x0, x1, x2, x3, x4⟩, xf⟩ := five q3.sx.st
  have p4 := q3.set (Nat.le_refl _) i n k a
  clear q3
  go_wp2_with fail
  refine (number_old s i n k a hk _).mono ?_
  rintro e w5 ⟨rfl, g5⟩
  have q5 := p4.turn g5
  clear g5
  obtain ⟨l0, l1, l2⟩ := q5.lt
  obtain ⟨⟨x0, x1, x2, x3, x4⟩, xf⟩ := five q5.sx.st
  have p6 := q5.set (Nat.le_refl _) i n k a
  clear q5
  go_wp2_with fail
  refine (want_old s i n k a 46 hk _).mono ?_
  rintro e w7 ⟨rfl, g7⟩
  have q7 := p6.turn g7
  clear g7
  obtain ⟨l0, l1, l2⟩ := q7.lt
  obtain ⟨⟨x0, x1, x2, x3, x4⟩, xf⟩ := five q7.sx.st
  have p8 := q7.set (Nat.le_refl _) i n k a
  clear q7
  go_wp2_with fail
  refine (number_old s i n k a hk _).mono ?_
  rintro e w9 ⟨rfl, g9⟩
  have q9 := p8.turn g9
  clear g9
  obtain ⟨l0, l1, l2⟩ := q9.lt
  obtain ⟨⟨x0, x1, x2, x3, x4⟩, xf⟩ := five q9.sx.st
  obtain ⟨⟨y0, y1, y2, y3, y4⟩, yf⟩ := five q9.sx.out
  obtain ⟨⟨z0, z1, z2, z3, z4, z5, z6, z7, z8⟩, zf⟩ := nine q9.tm
  have p10 := q9.set (Nat.le_refl _) i n k a
  clear q9
  go_wp2_with fail
  exact bodyPost_ret (v := .tuple #[sv s i n k a, lf 0 0 0 0 e0 0 0 0]) (by simp [results, Tryz.results31, go_sem, y0, y1, y2, y3, y4, z0, z1, z2, z3, z4, z5, z6, z7, z8, l0, l1, l2]) rfl ⟨rfl, ((p10.sx.gr.set5 (g := W.heap.size + 1) (Nat.le_succ _) _ _ _ _ _).set9 (g := W.heap.size + 1 + 1) (by omega) _ _ _ _ _ _ _ _ _)⟩

set_option maxRecDepth 200000 in
set_option maxHeartbeats 1600000 in
theorem partR_0 (s : ByteArray) : PartR s 0 := by
  intro W i n d a hd hi hn
  have hd2 : 24 < d := by omega
  rw [prt]
  go_enter Tryz.func17, Tryz.ntmps17
  go_wp2_with fail
  generalize hW1 : World.alloc (World.alloc (World.alloc W _) _) _ = W1
  have b0 : Sy W W.heap.size s i n 0 a W1 := by
    subst hW1
    refine ⟨⟨?_, ?_, ((Gr.alloc _ _ _).trans (Gr.alloc _ _ _)).trans (Gr.alloc _ _ _)⟩, ?_⟩ <;> (simp only [al, World.size_alloc]; repeat (first | rw [if_pos trivial] | rw [if_pos (by omega)] | rw [if_neg (by omega)]))
  clear hW1
  refine (fail_new s i n a (i : Int) 20 _).mono ?_
  rintro e w11 ⟨rfl, g11⟩
  have q11 := b0.turn g11
  clear g11
  obtain ⟨l0, l1, l2⟩ := q11.lt
  obtain ⟨⟨x0, x1, x2, x3, x4⟩, xf⟩ := five q11.sx.st
  obtain ⟨⟨y0, y1, y2, y3, y4⟩, yf⟩ := five q11.sx.out
  obtain ⟨⟨z0, z1, z2, z3, z4, z5, z6, z7, z8⟩, zf⟩ := nine q11.tm
  go_wp2_with fail
  exact bodyPost_ret (v := .tuple #[sv s i n 20 (i : Int), lf 0 0 0 0 e0 0 0 0]) (by simp [results, Tryz.results17, go_sem, y0, y1, y2, y3, y4, z0, z1, z2, z3, z4, z5, z6, z7, z8, l0, l1, l2]) rfl ⟨i, n, rfl, by decide, ((q11.sx.gr.set5 (g := W.heap.size + 1) (Nat.le_succ _) _ _ _ _ _).set9 (g := W.heap.size + 1 + 1) (by omega) _ _ _ _ _ _ _ _ _)⟩

set_option maxRecDepth 200000 in
set_option maxHeartbeats 6400000 in
theorem partR_s (s : ByteArray) (hs : s.size ≤ 65536) (r : Nat) (ih : PartR s r) (hr24 : r ≤ 23) : PartR s (r + 1) := by
  intro W i n d a hd hi hn
  have hd2 : d ≤ 24 := by omega
  have hd3 : 1 ≤ d := by omega
  have hd4 : d + 1 + r = 25 := by omega
  have hiI : (i : Int) ≤ 65536 := by omega
  obtain ⟨q, hq⟩ : ∃ q, q = prt s (r + 1) i n := ⟨_, rfl⟩
  rw [← hq]
  have Hq := Lib.hid hq
  clear hq hd
  replace ih := Lib.hid ih
  replace hs := Lib.hid hs
  obtain ⟨c, hc⟩ : ∃ c, pk s i = c := ⟨_, rfl⟩
  have Hc := Lib.hid hc
  have k45 := fun W => is_c s i (n + 1) a 45 (by decide) W
  rw [hc] at k45
  have k35 := fun W => is_c s i (n + 1) a 35 (by decide) W
  rw [hc] at k35
  have k34 := fun W => is_c s i (n + 1) a 34 (by decide) W
  rw [hc] at k34
  have k123 := fun W => is_c s i (n + 1) a 123 (by decide) W
  rw [hc] at k123
  have k91 := fun W => is_c s i (n + 1) a 91 (by decide) W
  rw [hc] at k91
  have bd := fun W => between_c s i (n + 1) a 48 57 (by decide) W
  rw [hc] at bd
  have bz := fun W => between_c s i (n + 1) a 97 122 (by decide) W
  rw [hc] at bz
  clear hc
  by_cases h0 : 4096 ≤ n
  case pos =>
    have hz : (n : Int) = 4096 := by omega
    have e : q = .error (i, 21) := by rw [Hq.out, prt, if_pos h0]
    subst e
    have fa := fun W => fail_any s (i : Int) 4097 a (i : Int) 21 W
    obtain rfl : n = 4096 := by omega
    clear h0 hn hz
    go_enter Tryz.func17, Tryz.ntmps17
    go_wp2_with fail
    generalize hW1 : World.alloc (World.alloc (World.alloc W _) _) _ = W1
    have b0 : Sy W W.heap.size s i 4097 0 a W1 := by
      subst hW1
      refine ⟨⟨?_, ?_, ((Gr.alloc _ _ _).trans (Gr.alloc _ _ _)).trans (Gr.alloc _ _ _)⟩, ?_⟩ <;> (simp only [al, World.size_alloc]; repeat (first | rw [if_pos trivial] | rw [if_pos (by omega)] | rw [if_neg (by omega)]))
      rfl
    clear hW1
    refine (fa _).mono ?_
    rintro e w12 ⟨rfl, g12⟩
    have q12 := b0.turn g12
    clear g12
    obtain ⟨l0, l1, l2⟩ := q12.lt
    obtain ⟨⟨x0, x1, x2, x3, x4⟩, xf⟩ := five q12.sx.st
    obtain ⟨⟨y0, y1, y2, y3, y4⟩, yf⟩ := five q12.sx.out
    obtain ⟨⟨z0, z1, z2, z3, z4, z5, z6, z7, z8⟩, zf⟩ := nine q12.tm
    go_wp2_with fail
    exact bodyPost_ret (v := .tuple #[stv s (i : Int) 4097 21 (i : Int), lf 0 0 0 0 e0 0 0 0]) (by simp [results, Tryz.results17, go_sem, y0, y1, y2, y3, y4, z0, z1, z2, z3, z4, z5, z6, z7, z8, l0, l1, l2]) rfl ⟨i, 4097, rfl, by decide, ((q12.sx.gr.set5 (g := W.heap.size + 1) (Nat.le_succ _) _ _ _ _ _).set9 (g := W.heap.size + 1 + 1) (by omega) _ _ _ _ _ _ _ _ _)⟩
  have h0n : n + 1 ≤ 4096 := by omega
  have hz : decide (4096 < (n : Int) + 1) = false := by simp; omega
  have hnI : (n : Int) ≤ 5000 := by omega
  have hsg : c ≠ 123 → c ≠ 91 → c ≠ 34 → q = (match sgl s i with | .error j => .error (j, 41) | .ok (t, ok, j) => if ok = true then .ok (.mk t [] [], j, n + 1) else .error (i, 41)) := by
    intro h1 h2 h3
    rw [Hq.out, prt, if_neg h0, if_neg (by rw [Hc.out]; exact h1), if_neg (by rw [Hc.out]; exact h2), if_neg (by rw [Hc.out]; exact h3)]
    rfl
  replace h0n := Lib.hid h0n
  replace h0 := Lib.hid h0
  clear hn
  by_cases h1 : c = 45
  case pos =>
    have hq3 := hsg (by rw [h1]; decide) (by rw [h1]; decide) (by rw [h1]; decide)
    have sgA : sgl s i = (match itg s i with | .error j => .error j | .ok (v, j) => .ok ({ k := 1, n := v }, inR v, j)) := by rw [sgl, if_pos (.inl (by rw [Hc.out]; exact h1))]; rfl
    rw [show (c == 45) = true by simpa using h1] at k45
    clear h1
    go_enter Tryz.func17, Tryz.ntmps17
    go_wp2_with fail
    generalize hW1 : World.alloc (World.alloc (World.alloc W _) _) _ = W1
    have b0 : Sy W W.heap.size s i (n + 1) 0 a W1 := by
      subst hW1
      refine ⟨⟨?_, ?_, ((Gr.alloc _ _ _).trans (Gr.alloc _ _ _)).trans (Gr.alloc _ _ _)⟩, ?_⟩ <;> (simp only [al, World.size_alloc]; repeat (first | rw [if_pos trivial] | rw [if_pos (by omega)] | rw [if_neg (by omega)]))
      rfl
    clear hW1
    refine (k45 _).mono ?_
    rintro e w13 ⟨rfl, g13⟩
    have q13 := b0.turn g13
    clear g13
    obtain ⟨l0, l1, l2⟩ := q13.lt
    obtain ⟨⟨x0, x1, x2, x3, x4⟩, xf⟩ := five q13.sx.st
    cases hr : itg s i with
    | error j =>
      have e : q = .error (j, 41) := by rw [hq3, sgA, hr]
      subst e
      have fin := fun W => whole_r s hs.out i (n + 1) a hi W
      rw [hr, show whV s i (n + 1) a (.error j) = .tuple #[sv s j (n + 1) 41 (j : Int), lf 0 0 0 0 e0 0 0 0] from rfl] at fin
      clear hr hsg hq3
      go_wp2_with fail
      refine (fin _).mono ?_
      rintro e w14 ⟨rfl, g14⟩
      have q14 := q13.turn g14
      clear g14 q13
      obtain ⟨l0, l1, l2⟩ := q14.lt
      obtain ⟨⟨x0, x1, x2, x3, x4⟩, xf⟩ := five q14.sx.st
      obtain ⟨⟨y0, y1, y2, y3, y4⟩, yf⟩ := five q14.sx.out
      obtain ⟨⟨z0, z1, z2, z3, z4, z5, z6, z7, z8⟩, zf⟩ := nine q14.tm
      go_wp2_with fail
      exact bodyPost_ret (v := .tuple #[sv s j (n + 1) 41 (j : Int), lf 0 0 0 0 e0 0 0 0]) (by simp [results, Tryz.results17, go_sem, y0, y1, y2, y3, y4, z0, z1, z2, z3, z4, z5, z6, z7, z8, l0, l1, l2]) rfl ⟨_, _, rfl, by decide, ((q14.sx.gr.set5 (g := W.heap.size + 1) (Nat.le_succ _) _ _ _ _ _).set9 (g := W.heap.size + 1 + 1) (by omega) _ _ _ _ _ _ _ _ _)⟩
    | ok v =>
      obtain ⟨v, j⟩ := v
      have hsl : sgl s i = .ok ({ k := 1, n := v }, inR v, j) := by rw [sgA, hr]
      have hj := (sgl_ok hs.out hi hsl).2
      rw [hsl] at hq3
      have fin := fun W => whole_r s hs.out i (n + 1) a hi W
      rw [hr] at fin
      clear hr hsg hsl
      cases ho : inR v with
      | false =>
        have e : q = .error (i, 41) := by rw [hq3, ho]; rfl
        subst e
        rw [show whV s i (n + 1) a (.ok (v, j)) = .tuple #[sv s j (n + 1) 41 (i : Int), lf 0 0 0 0 e0 0 0 0] by simp only [whV, ho]; rfl] at fin
        clear ho hq3
        go_wp2_with fail
        refine (fin _).mono ?_
        rintro e w15 ⟨rfl, g15⟩
        have q15 := q13.turn g15
        clear g15 q13
        obtain ⟨l0, l1, l2⟩ := q15.lt
        obtain ⟨⟨x0, x1, x2, x3, x4⟩, xf⟩ := five q15.sx.st
        obtain ⟨⟨y0, y1, y2, y3, y4⟩, yf⟩ := five q15.sx.out
        obtain ⟨⟨z0, z1, z2, z3, z4, z5, z6, z7, z8⟩, zf⟩ := nine q15.tm
        go_wp2_with fail
        exact bodyPost_ret (v := .tuple #[sv s j (n + 1) 41 (i : Int), lf 0 0 0 0 e0 0 0 0]) (by simp [results, Tryz.results17, go_sem, y0, y1, y2, y3, y4, z0, z1, z2, z3, z4, z5, z6, z7, z8, l0, l1, l2]) rfl ⟨_, _, rfl, by decide, ((q15.sx.gr.set5 (g := W.heap.size + 1) (Nat.le_succ _) _ _ _ _ _).set9 (g := W.heap.size + 1 + 1) (by omega) _ _ _ _ _ _ _ _ _)⟩
      | true =>
        have e : q = .ok (.mk { k := 1, n := v } [] [], j, n + 1) := by rw [hq3, ho]; rfl
        subst e
        rw [show whV s i (n + 1) a (.ok (v, j)) = .tuple #[sv s j (n + 1) 0 a, lf 1 v 0 0 e0 0 0 0] by simp only [whV, ho]; rfl] at fin
        clear ho hq3
        go_wp2_with fail
        refine (fin _).mono ?_
        rintro e w16 ⟨rfl, g16⟩
        have q16 := q13.turn g16
        clear g16 q13
        obtain ⟨l0, l1, l2⟩ := q16.lt
        obtain ⟨⟨x0, x1, x2, x3, x4⟩, xf⟩ := five q16.sx.st
        obtain ⟨⟨y0, y1, y2, y3, y4⟩, yf⟩ := five q16.sx.out
        obtain ⟨⟨z0, z1, z2, z3, z4, z5, z6, z7, z8⟩, zf⟩ := nine q16.tm
        go_wp2_with fail
        exact bodyPost_ret (v := .tuple #[sv s j (n + 1) 0 a, lf 1 v 0 0 e0 0 0 0]) (by simp [results, Tryz.results17, go_sem, y0, y1, y2, y3, y4, z0, z1, z2, z3, z4, z5, z6, z7, z8, l0, l1, l2]) rfl ⟨_, rfl, ⟨_, _, [], rfl, .inl ⟨rfl, _, _, rfl⟩, .inl ⟨rfl, _, _, rfl⟩, rfl⟩, ((q16.sx.gr.set5 (g := W.heap.size + 1) (Nat.le_succ _) _ _ _ _ _).set9 (g := W.heap.size + 1 + 1) (by omega) _ _ _ _ _ _ _ _ _), hj, h0n.out⟩
  rw [show (c == 45) = false by simpa using h1] at k45
  cases h2 : dig c with
  | true =>
    rw [show btw c 48 57 = true from h2] at bd
    have hq3 := hsg (by intro e; subst e; cases h2) (by intro e; subst e; cases h2) (by intro e; subst e; cases h2)
    have sgA : sgl s i = (match itg s i with | .error j => .error j | .ok (v, j) => .ok ({ k := 1, n := v }, inR v, j)) := by rw [sgl, if_pos (.inr (by rw [Hc.out]; exact h2))]; rfl
    clear h1 h2
    go_enter Tryz.func17, Tryz.ntmps17
    go_wp2_with fail
    generalize hW1 : World.alloc (World.alloc (World.alloc W _) _) _ = W1
    have b0 : Sy W W.heap.size s i (n + 1) 0 a W1 := by
      subst hW1
      refine ⟨⟨?_, ?_, ((Gr.alloc _ _ _).trans (Gr.alloc _ _ _)).trans (Gr.alloc _ _ _)⟩, ?_⟩ <;> (simp only [al, World.size_alloc]; repeat (first | rw [if_pos trivial] | rw [if_pos (by omega)] | rw [if_neg (by omega)]))
      rfl
    clear hW1
    refine (k45 _).mono ?_
    rintro e w17 ⟨rfl, g17⟩
    have q17 := b0.turn g17
    clear g17
    obtain ⟨l0, l1, l2⟩ := q17.lt
    obtain ⟨⟨x0, x1, x2, x3, x4⟩, xf⟩ := five q17.sx.st
    go_wp2_with fail
    refine (bd _).mono ?_
    rintro e w18 ⟨rfl, g18⟩
    have q18 := q17.turn g18
    clear g18 q17
    obtain ⟨l0, l1, l2⟩ := q18.lt
    obtain ⟨⟨x0, x1, x2, x3, x4⟩, xf⟩ := five q18.sx.st
    cases hr : itg s i with
    | error j =>
      have e : q = .error (j, 41) := by rw [hq3, sgA, hr]
      subst e
      have fin := fun W => whole_r s hs.out i (n + 1) a hi W
      rw [hr, show whV s i (n + 1) a (.error j) = .tuple #[sv s j (n + 1) 41 (j : Int), lf 0 0 0 0 e0 0 0 0] from rfl] at fin
      clear hr hsg hq3
      go_wp2_with fail
      refine (fin _).mono ?_
      rintro e w19 ⟨rfl, g19⟩
      have q19 := q18.turn g19
      clear g19 q18
      obtain ⟨l0, l1, l2⟩ := q19.lt
      obtain ⟨⟨x0, x1, x2, x3, x4⟩, xf⟩ := five q19.sx.st
      obtain ⟨⟨y0, y1, y2, y3, y4⟩, yf⟩ := five q19.sx.out
      obtain ⟨⟨z0, z1, z2, z3, z4, z5, z6, z7, z8⟩, zf⟩ := nine q19.tm
      go_wp2_with fail
      exact bodyPost_ret (v := .tuple #[sv s j (n + 1) 41 (j : Int), lf 0 0 0 0 e0 0 0 0]) (by simp [results, Tryz.results17, go_sem, y0, y1, y2, y3, y4, z0, z1, z2, z3, z4, z5, z6, z7, z8, l0, l1, l2]) rfl ⟨_, _, rfl, by decide, ((q19.sx.gr.set5 (g := W.heap.size + 1) (Nat.le_succ _) _ _ _ _ _).set9 (g := W.heap.size + 1 + 1) (by omega) _ _ _ _ _ _ _ _ _)⟩
    | ok v =>
      obtain ⟨v, j⟩ := v
      have hsl : sgl s i = .ok ({ k := 1, n := v }, inR v, j) := by rw [sgA, hr]
      have hj := (sgl_ok hs.out hi hsl).2
      rw [hsl] at hq3
      have fin := fun W => whole_r s hs.out i (n + 1) a hi W
      rw [hr] at fin
      clear hr hsg hsl
      cases ho : inR v with
      | false =>
        have e : q = .error (i, 41) := by rw [hq3, ho]; rfl
        subst e
        rw [show whV s i (n + 1) a (.ok (v, j)) = .tuple #[sv s j (n + 1) 41 (i : Int), lf 0 0 0 0 e0 0 0 0] by simp only [whV, ho]; rfl] at fin
        clear ho hq3
        go_wp2_with fail
        refine (fin _).mono ?_
        rintro e w20 ⟨rfl, g20⟩
        have q20 := q18.turn g20
        clear g20 q18
        obtain ⟨l0, l1, l2⟩ := q20.lt
        obtain ⟨⟨x0, x1, x2, x3, x4⟩, xf⟩ := five q20.sx.st
        obtain ⟨⟨y0, y1, y2, y3, y4⟩, yf⟩ := five q20.sx.out
        obtain ⟨⟨z0, z1, z2, z3, z4, z5, z6, z7, z8⟩, zf⟩ := nine q20.tm
        go_wp2_with fail
        exact bodyPost_ret (v := .tuple #[sv s j (n + 1) 41 (i : Int), lf 0 0 0 0 e0 0 0 0]) (by simp [results, Tryz.results17, go_sem, y0, y1, y2, y3, y4, z0, z1, z2, z3, z4, z5, z6, z7, z8, l0, l1, l2]) rfl ⟨_, _, rfl, by decide, ((q20.sx.gr.set5 (g := W.heap.size + 1) (Nat.le_succ _) _ _ _ _ _).set9 (g := W.heap.size + 1 + 1) (by omega) _ _ _ _ _ _ _ _ _)⟩
      | true =>
        have e : q = .ok (.mk { k := 1, n := v } [] [], j, n + 1) := by rw [hq3, ho]; rfl
        subst e
        rw [show whV s i (n + 1) a (.ok (v, j)) = .tuple #[sv s j (n + 1) 0 a, lf 1 v 0 0 e0 0 0 0] by simp only [whV, ho]; rfl] at fin
        clear ho hq3
        go_wp2_with fail
        refine (fin _).mono ?_
        rintro e w21 ⟨rfl, g21⟩
        have q21 := q18.turn g21
        clear g21 q18
        obtain ⟨l0, l1, l2⟩ := q21.lt
        obtain ⟨⟨x0, x1, x2, x3, x4⟩, xf⟩ := five q21.sx.st
        obtain ⟨⟨y0, y1, y2, y3, y4⟩, yf⟩ := five q21.sx.out
        obtain ⟨⟨z0, z1, z2, z3, z4, z5, z6, z7, z8⟩, zf⟩ := nine q21.tm
        go_wp2_with fail
        exact bodyPost_ret (v := .tuple #[sv s j (n + 1) 0 a, lf 1 v 0 0 e0 0 0 0]) (by simp [results, Tryz.results17, go_sem, y0, y1, y2, y3, y4, z0, z1, z2, z3, z4, z5, z6, z7, z8, l0, l1, l2]) rfl ⟨_, rfl, ⟨_, _, [], rfl, .inl ⟨rfl, _, _, rfl⟩, .inl ⟨rfl, _, _, rfl⟩, rfl⟩, ((q21.sx.gr.set5 (g := W.heap.size + 1) (Nat.le_succ _) _ _ _ _ _).set9 (g := W.heap.size + 1 + 1) (by omega) _ _ _ _ _ _ _ _ _), hj, h0n.out⟩
  | false =>
    rw [show btw c 48 57 = false from h2] at bd
    cases h3 : low c with
    | true =>
      rw [show btw c 97 122 = true from h3] at bz
      have hq3 := hsg (by intro e; subst e; cases h3) (by intro e; subst e; cases h3) (by intro e; subst e; cases h3)
      have sgA : sgl s i = .ok ({ k := 3, s := s.extract i (span inN s i) }, decide (span inN s i - i ≤ 32), span inN s i) := by rw [sgl, if_neg (by rw [Hc.out, h2]; simp [h1]), if_pos (by rw [Hc.out]; exact h3)]
      rw [sgA] at hq3
      replace hq3 := Lib.hid hq3
      clear h1 h2 h3 hsg sgA
      go_enter Tryz.func17, Tryz.ntmps17
      go_wp2_with fail
      generalize hW1 : World.alloc (World.alloc (World.alloc W _) _) _ = W1
      have b0 : Sy W W.heap.size s i (n + 1) 0 a W1 := by
        subst hW1
        refine ⟨⟨?_, ?_, ((Gr.alloc _ _ _).trans (Gr.alloc _ _ _)).trans (Gr.alloc _ _ _)⟩, ?_⟩ <;> (simp only [al, World.size_alloc]; repeat (first | rw [if_pos trivial] | rw [if_pos (by omega)] | rw [if_neg (by omega)]))
        rfl
      clear hW1
      refine (k45 _).mono ?_
      rintro e w94 ⟨rfl, g94⟩
      have q94 := b0.turn g94
      clear g94
      obtain ⟨l0, l1, l2⟩ := q94.lt
      obtain ⟨⟨x0, x1, x2, x3, x4⟩, xf⟩ := five q94.sx.st
      go_wp2_with fail
      refine (bd _).mono ?_
      rintro e w95 ⟨rfl, g95⟩
      have q95 := q94.turn g95
      clear g95 q94
      obtain ⟨l0, l1, l2⟩ := q95.lt
      obtain ⟨⟨x0, x1, x2, x3, x4⟩, xf⟩ := five q95.sx.st
      go_wp2_with fail
      refine (bz _).mono ?_
      rintro e w96 ⟨rfl, g96⟩
      have q96 := q95.turn g96
      clear g96 q95
      obtain ⟨l0, l1, l2⟩ := q96.lt
      obtain ⟨⟨x0, x1, x2, x3, x4⟩, xf⟩ := five q96.sx.st
      go_wp2_with fail
      go_loopw [] (fun wr => ∃ j, i ≤ j ∧ j ≤ s.size ∧ Hid (span inN s i = span inN s j) ∧ Sy W W.heap.size s j (n + 1) 0 a wr) (fun wr => s.size - stAt wr W.heap.size)
      case atStart => exact ⟨i, Nat.le_refl _, hi, rfl, q96⟩
      case round =>
        clear q96
        obtain ⟨j, hij, hj, Hs, q0⟩ := hrel
        have Hat := Lib.hid q0.stAt
        have hjI : (j : Int) ≤ 65536 := by have := hs.out; omega
        obtain ⟨x, hx⟩ : ∃ x, pk s j = x := ⟨_, rfl⟩
        have Hx := Lib.hid hx
        have blo := fun W => between_c s j (n + 1) a 97 122 (by decide) W
        have bup := fun W => between_c s j (n + 1) a 65 90 (by decide) W
        have bdg := fun W => between_c s j (n + 1) a 48 57 (by decide) W
        have bun := fun W => is_c s j (n + 1) a 95 (by decide) W
        rw [hx] at blo bup bdg bun
        clear hx
        cases g1 : btw x 97 122 with
        | true =>
          rw [g1] at blo
          have hin : inN x = true := by simp [btw] at g1; simp [inN, low]; omega
          have hy := span_yes (p := inN) (s := s) (i := j) (by rw [Hx.out]; exact hin) rfl
          have hy1 := hy.1
          have Hy := Lib.hid hy.2
          clear hy hin
          obtain ⟨l0, l1, l2⟩ := q0.lt
          obtain ⟨⟨x0, x1, x2, x3, x4⟩, xf⟩ := five q0.sx.st
          go_wp2_with fail
          refine (blo _).mono ?_
          rintro e w97 ⟨rfl, g97⟩
          have q97 := q0.turn g97
          clear g97 q0
          obtain ⟨l0, l1, l2⟩ := q97.lt
          obtain ⟨⟨x0, x1, x2, x3, x4⟩, xf⟩ := five q97.sx.st
          have pz := q97.inc (Nat.le_refl _)
          go_wp2_with fail
          exact ⟨⟨j + 1, by omega, by omega, Hs.out.trans Hy.out, pz⟩, by rw [pz.stAt, Hat.out]; omega⟩
        | false =>
          rw [g1] at blo
          cases g2 : btw x 65 90 with
          | true =>
            rw [g2] at bup
            have hin : inN x = true := by simp [btw] at g2; simp [inN, low, dig]; omega
            have hy := span_yes (p := inN) (s := s) (i := j) (by rw [Hx.out]; exact hin) rfl
            have hy1 := hy.1
            have Hy := Lib.hid hy.2
            clear hy hin
            obtain ⟨l0, l1, l2⟩ := q0.lt
            obtain ⟨⟨x0, x1, x2, x3, x4⟩, xf⟩ := five q0.sx.st
            go_wp2_with fail
            refine (blo _).mono ?_
            rintro e w98 ⟨rfl, g98⟩
            have q98 := q0.turn g98
            clear g98 q0
            obtain ⟨l0, l1, l2⟩ := q98.lt
            obtain ⟨⟨x0, x1, x2, x3, x4⟩, xf⟩ := five q98.sx.st
            go_wp2_with fail
            refine (bup _).mono ?_
            rintro e w99 ⟨rfl, g99⟩
            have q99 := q98.turn g99
            clear g99 q98
            obtain ⟨l0, l1, l2⟩ := q99.lt
            obtain ⟨⟨x0, x1, x2, x3, x4⟩, xf⟩ := five q99.sx.st
            have pz := q99.inc (Nat.le_refl _)
            go_wp2_with fail
            exact ⟨⟨j + 1, by omega, by omega, Hs.out.trans Hy.out, pz⟩, by rw [pz.stAt, Hat.out]; omega⟩
          | false =>
            rw [g2] at bup
            cases g3 : btw x 48 57 with
            | true =>
              rw [g3] at bdg
              have hin : inN x = true := by simp [btw] at g3; simp [inN, low, dig]; omega
              have hy := span_yes (p := inN) (s := s) (i := j) (by rw [Hx.out]; exact hin) rfl
              have hy1 := hy.1
              have Hy := Lib.hid hy.2
              clear hy hin
              obtain ⟨l0, l1, l2⟩ := q0.lt
              obtain ⟨⟨x0, x1, x2, x3, x4⟩, xf⟩ := five q0.sx.st
              go_wp2_with fail
              refine (blo _).mono ?_
              rintro e w100 ⟨rfl, g100⟩
              have q100 := q0.turn g100
              clear g100 q0
              obtain ⟨l0, l1, l2⟩ := q100.lt
              obtain ⟨⟨x0, x1, x2, x3, x4⟩, xf⟩ := five q100.sx.st
              go_wp2_with fail
              refine (bup _).mono ?_
              rintro e w101 ⟨rfl, g101⟩
              have q101 := q100.turn g101
              clear g101 q100
              obtain ⟨l0, l1, l2⟩ := q101.lt
              obtain ⟨⟨x0, x1, x2, x3, x4⟩, xf⟩ := five q101.sx.st
              go_wp2_with fail
              refine (bdg _).mono ?_
              rintro e w102 ⟨rfl, g102⟩
              have q102 := q101.turn g102
              clear g102 q101
              obtain ⟨l0, l1, l2⟩ := q102.lt
              obtain ⟨⟨x0, x1, x2, x3, x4⟩, xf⟩ := five q102.sx.st
              have pz := q102.inc (Nat.le_refl _)
              go_wp2_with fail
              exact ⟨⟨j + 1, by omega, by omega, Hs.out.trans Hy.out, pz⟩, by rw [pz.stAt, Hat.out]; omega⟩
            | false =>
              rw [g3] at bdg
              by_cases g4 : x = 95
              case pos =>
                rw [show (x == 95) = true by simpa using g4] at bun
                have hin : inN x = true := by rw [g4]; decide
                have hy := span_yes (p := inN) (s := s) (i := j) (by rw [Hx.out]; exact hin) rfl
                have hy1 := hy.1
                have Hy := Lib.hid hy.2
                clear hy hin
                obtain ⟨l0, l1, l2⟩ := q0.lt
                obtain ⟨⟨x0, x1, x2, x3, x4⟩, xf⟩ := five q0.sx.st
                go_wp2_with fail
                refine (blo _).mono ?_
                rintro e w103 ⟨rfl, g103⟩
                have q103 := q0.turn g103
                clear g103 q0
                obtain ⟨l0, l1, l2⟩ := q103.lt
                obtain ⟨⟨x0, x1, x2, x3, x4⟩, xf⟩ := five q103.sx.st
                go_wp2_with fail
                refine (bup _).mono ?_
                rintro e w104 ⟨rfl, g104⟩
                have q104 := q103.turn g104
                clear g104 q103
                obtain ⟨l0, l1, l2⟩ := q104.lt
                obtain ⟨⟨x0, x1, x2, x3, x4⟩, xf⟩ := five q104.sx.st
                go_wp2_with fail
                refine (bdg _).mono ?_
                rintro e w105 ⟨rfl, g105⟩
                have q105 := q104.turn g105
                clear g105 q104
                obtain ⟨l0, l1, l2⟩ := q105.lt
                obtain ⟨⟨x0, x1, x2, x3, x4⟩, xf⟩ := five q105.sx.st
                go_wp2_with fail
                refine (bun _).mono ?_
                rintro e w106 ⟨rfl, g106⟩
                have q106 := q105.turn g106
                clear g106 q105
                obtain ⟨l0, l1, l2⟩ := q106.lt
                obtain ⟨⟨x0, x1, x2, x3, x4⟩, xf⟩ := five q106.sx.st
                have pz := q106.inc (Nat.le_refl _)
                go_wp2_with fail
                exact ⟨⟨j + 1, by omega, by omega, Hs.out.trans Hy.out, pz⟩, by rw [pz.stAt, Hat.out]; omega⟩
              rw [show (x == 95) = false by simpa using g4] at bun
              have hin : inN x = false := by simp [btw] at g1 g2 g3; simp [inN, low, dig, g4]; omega
              have hsp : span inN s i = j := Hs.out.trans (span_no (p := inN) (by rw [Hx.out]; exact hin))
              rw [hsp] at hq3
              clear g1 g2 g3 g4 hin hsp Hs
              by_cases h9 : 32 < j - i
              case pos =>
                have h10 : 32 < (j : Int) - (i : Int) := by omega
                have e : q = .error (i, 41) := by
                  have := hq3.out
                  rw [show decide (j - i ≤ 32) = false by simp; omega] at this
                  exact this
                subst e
                clear h9 hq3
                obtain ⟨l0, l1, l2⟩ := q0.lt
                obtain ⟨⟨x0, x1, x2, x3, x4⟩, xf⟩ := five q0.sx.st
                go_wp2_with fail
                refine (blo _).mono ?_
                rintro e w107 ⟨rfl, g107⟩
                have q107 := q0.turn g107
                clear g107 q0
                obtain ⟨l0, l1, l2⟩ := q107.lt
                obtain ⟨⟨x0, x1, x2, x3, x4⟩, xf⟩ := five q107.sx.st
                go_wp2_with fail
                refine (bup _).mono ?_
                rintro e w108 ⟨rfl, g108⟩
                have q108 := q107.turn g108
                clear g108 q107
                obtain ⟨l0, l1, l2⟩ := q108.lt
                obtain ⟨⟨x0, x1, x2, x3, x4⟩, xf⟩ := five q108.sx.st
                go_wp2_with fail
                refine (bdg _).mono ?_
                rintro e w109 ⟨rfl, g109⟩
                have q109 := q108.turn g109
                clear g109 q108
                obtain ⟨l0, l1, l2⟩ := q109.lt
                obtain ⟨⟨x0, x1, x2, x3, x4⟩, xf⟩ := five q109.sx.st
                go_wp2_with fail
                refine (bun _).mono ?_
                rintro e w110 ⟨rfl, g110⟩
                have q110 := q109.turn g110
                clear g110 q109
                obtain ⟨l0, l1, l2⟩ := q110.lt
                obtain ⟨⟨x0, x1, x2, x3, x4⟩, xf⟩ := five q110.sx.st
                go_wp2_with fail
                refine (fail_new s j (n + 1) a (i : Int) 41 _).mono ?_
                rintro e w111 ⟨rfl, g111⟩
                have q111 := q110.turn g111
                clear g111 q110
                obtain ⟨l0, l1, l2⟩ := q111.lt
                obtain ⟨⟨x0, x1, x2, x3, x4⟩, xf⟩ := five q111.sx.st
                obtain ⟨⟨y0, y1, y2, y3, y4⟩, yf⟩ := five q111.sx.out
                obtain ⟨⟨z0, z1, z2, z3, z4, z5, z6, z7, z8⟩, zf⟩ := nine q111.tm
                go_wp2_with fail
                exact bodyPost_ret (v := .tuple #[sv s j (n + 1) 41 (i : Int), lf 0 0 0 0 e0 0 0 0]) (by simp [results, Tryz.results17, go_sem, y0, y1, y2, y3, y4, z0, z1, z2, z3, z4, z5, z6, z7, z8, l0, l1, l2]) rfl ⟨_, _, rfl, by decide, ((q111.sx.gr.set5 (g := W.heap.size + 1) (Nat.le_succ _) _ _ _ _ _).set9 (g := W.heap.size + 1 + 1) (by omega) _ _ _ _ _ _ _ _ _)⟩
              have h10 : decide (32 < (j : Int) - (i : Int)) = false := by simp; omega
              have e : q = .ok (.mk { k := 3, s := s.extract i j } [] [], j, n + 1) := by
                have := hq3.out
                rw [show decide (j - i ≤ 32) = true by simp; omega] at this
                exact this
              subst e
              have hsl := sl s i j hij hj
              clear h9 hq3
              obtain ⟨l0, l1, l2⟩ := q0.lt
              obtain ⟨⟨x0, x1, x2, x3, x4⟩, xf⟩ := five q0.sx.st
              go_wp2_with fail
              refine (blo _).mono ?_
              rintro e w112 ⟨rfl, g112⟩
              have q112 := q0.turn g112
              clear g112 q0
              obtain ⟨l0, l1, l2⟩ := q112.lt
              obtain ⟨⟨x0, x1, x2, x3, x4⟩, xf⟩ := five q112.sx.st
              go_wp2_with fail
              refine (bup _).mono ?_
              rintro e w113 ⟨rfl, g113⟩
              have q113 := q112.turn g113
              clear g113 q112
              obtain ⟨l0, l1, l2⟩ := q113.lt
              obtain ⟨⟨x0, x1, x2, x3, x4⟩, xf⟩ := five q113.sx.st
              go_wp2_with fail
              refine (bdg _).mono ?_
              rintro e w114 ⟨rfl, g114⟩
              have q114 := q113.turn g114
              clear g114 q113
              obtain ⟨l0, l1, l2⟩ := q114.lt
              obtain ⟨⟨x0, x1, x2, x3, x4⟩, xf⟩ := five q114.sx.st
              go_wp2_with fail
              refine (bun _).mono ?_
              rintro e w115 ⟨rfl, g115⟩
              have q115 := q114.turn g115
              clear g115 q114
              obtain ⟨l0, l1, l2⟩ := q115.lt
              obtain ⟨⟨x0, x1, x2, x3, x4⟩, xf⟩ := five q115.sx.st
              obtain ⟨⟨y0, y1, y2, y3, y4⟩, yf⟩ := five q115.sx.out
              obtain ⟨⟨z0, z1, z2, z3, z4, z5, z6, z7, z8⟩, zf⟩ := nine q115.tm
              go_wp2_with fail
              go_region
              all_goals
                go_wp2_with fail
                exact bodyPost_ret (v := .tuple #[sv s j (n + 1) 0 a, lf 3 0 0 0 (s.extract i j) 0 0 0]) (by simp [results, Tryz.results17, go_sem, y0, y1, y2, y3, y4, z0, z1, z2, z3, z4, z5, z6, z7, z8, l0, l1, l2]) rfl ⟨_, rfl, ⟨_, _, [], rfl, .inl ⟨rfl, _, _, rfl⟩, .inl ⟨rfl, _, _, rfl⟩, rfl⟩, ((q115.sx.gr.set5 (g := W.heap.size + 1) (Nat.le_succ _) _ _ _ _ _).set9 (g := W.heap.size + 1 + 1) (by omega) _ _ _ _ _ _ _ _ _).trans (Gr.drew _ _), hj, h0n.out⟩
    | false =>
      rw [show btw c 97 122 = false from h3] at bz
      by_cases h4 : c = 35
      case pos =>
        rw [show (c == 35) = true by simpa using h4] at k35
        have hq3 := hsg (by rw [h4]; decide) (by rw [h4]; decide) (by rw [h4]; decide)
        have sg0 : sgl s i = mrk s (i + 1) := by rw [sgl, if_neg (by rw [Hc.out, h4]; decide), if_neg (by rw [Hc.out, h4]; decide), if_pos (by rw [Hc.out]; exact h4)]
        have hlt : i < s.size := lt_of_pk (by rw [Hc.out, h4]; decide)
        have hi2 : (i : Int) ≤ 65535 := by have := hs.out; omega
        clear h1 h2 h3 h4 hiI
        replace hlt := Lib.hid hlt
        obtain ⟨y, hy⟩ : ∃ y, pk s (i + 1) = y := ⟨_, rfl⟩
        have Hy := Lib.hid hy
        have m99 := fun W => is_c s (i + 1) (n + 1) a 99 (by decide) W
        have m114 := fun W => is_c s (i + 1) (n + 1) a 114 (by decide) W
        rw [hy] at m99 m114
        clear hy
        by_cases h5 : y = 99
        case pos =>
          rw [show (y == 99) = true by simpa using h5] at m99
          have hl2 : i + 1 < s.size := lt_of_pk (by rw [Hy.out, h5]; decide)
          replace hl2 := Lib.hid hl2
          have sgA : sgl s i = (match cxs s (i + 1 + 1) with | .error j => .error j | .ok (v1, v2, j) => .ok ({ k := 2, x := v1.toNat, y := v2.toNat }, rp v1.toNat && rp v2.toNat, j)) := by rw [sg0, mrk, if_pos (by rw [Hy.out]; exact h5)]; rfl
          clear h5 sg0
          go_enter Tryz.func17, Tryz.ntmps17
          go_wp2_with fail
          generalize hW1 : World.alloc (World.alloc (World.alloc W _) _) _ = W1
          have b0 : Sy W W.heap.size s i (n + 1) 0 a W1 := by
            subst hW1
            refine ⟨⟨?_, ?_, ((Gr.alloc _ _ _).trans (Gr.alloc _ _ _)).trans (Gr.alloc _ _ _)⟩, ?_⟩ <;> (simp only [al, World.size_alloc]; repeat (first | rw [if_pos trivial] | rw [if_pos (by omega)] | rw [if_neg (by omega)]))
            rfl
          clear hW1
          refine (k45 _).mono ?_
          rintro e w54 ⟨rfl, g54⟩
          have q54 := b0.turn g54
          clear g54
          obtain ⟨l0, l1, l2⟩ := q54.lt
          obtain ⟨⟨x0, x1, x2, x3, x4⟩, xf⟩ := five q54.sx.st
          go_wp2_with fail
          refine (bd _).mono ?_
          rintro e w55 ⟨rfl, g55⟩
          have q55 := q54.turn g55
          clear g55 q54
          obtain ⟨l0, l1, l2⟩ := q55.lt
          obtain ⟨⟨x0, x1, x2, x3, x4⟩, xf⟩ := five q55.sx.st
          go_wp2_with fail
          refine (bz _).mono ?_
          rintro e w56 ⟨rfl, g56⟩
          have q56 := q55.turn g56
          clear g56 q55
          obtain ⟨l0, l1, l2⟩ := q56.lt
          obtain ⟨⟨x0, x1, x2, x3, x4⟩, xf⟩ := five q56.sx.st
          go_wp2_with fail
          refine (k35 _).mono ?_
          rintro e w57 ⟨rfl, g57⟩
          have q57 := q56.turn g57
          clear g57 q56
          obtain ⟨l0, l1, l2⟩ := q57.lt
          obtain ⟨⟨x0, x1, x2, x3, x4⟩, xf⟩ := five q57.sx.st
          have p58 := q57.inc (Nat.le_refl _)
          go_wp2_with fail
          refine (m99 _).mono ?_
          rintro e w59 ⟨rfl, g59⟩
          have q59 := p58.turn g59
          clear g59
          obtain ⟨l0, l1, l2⟩ := q59.lt
          obtain ⟨⟨x0, x1, x2, x3, x4⟩, xf⟩ := five q59.sx.st
          have p60 := q59.inc (Nat.le_refl _)
          cases hr : cxs s (i + 1 + 1) with
          | error j =>
            have e : q = .error (j, 41) := by rw [hq3, sgA, hr]
            subst e
            have fin := fun W => complexOf_r s hs.out (i + 1 + 1) (n + 1) a (i : Int) W
            rw [hr, show cxV s (n + 1) a (i : Int) (.error j) = .tuple #[sv s j (n + 1) 41 (j : Int), lf 0 0 0 0 e0 0 0 0] from rfl] at fin
            clear hr hsg hq3
            go_wp2_with fail
            refine (fin _).mono ?_
            rintro e w61 ⟨rfl, g61⟩
            have q61 := p60.turn g61
            clear g61
            obtain ⟨l0, l1, l2⟩ := q61.lt
            obtain ⟨⟨x0, x1, x2, x3, x4⟩, xf⟩ := five q61.sx.st
            obtain ⟨⟨y0, y1, y2, y3, y4⟩, yf⟩ := five q61.sx.out
            obtain ⟨⟨z0, z1, z2, z3, z4, z5, z6, z7, z8⟩, zf⟩ := nine q61.tm
            go_wp2_with fail
            exact bodyPost_ret (v := .tuple #[sv s j (n + 1) 41 (j : Int), lf 0 0 0 0 e0 0 0 0]) (by simp [results, Tryz.results17, go_sem, y0, y1, y2, y3, y4, z0, z1, z2, z3, z4, z5, z6, z7, z8, l0, l1, l2]) rfl ⟨_, _, rfl, by decide, ((q61.sx.gr.set5 (g := W.heap.size + 1) (Nat.le_succ _) _ _ _ _ _).set9 (g := W.heap.size + 1 + 1) (by omega) _ _ _ _ _ _ _ _ _)⟩
          | ok v =>
            obtain ⟨v1, v2, j⟩ := v
            have hsl : sgl s i = .ok ({ k := 2, x := v1.toNat, y := v2.toNat }, (rp v1.toNat && rp v2.toNat), j) := by rw [sgA, hr]
            have hj := (sgl_ok hs.out hi hsl).2
            rw [hsl] at hq3
            have fin := fun W => complexOf_r s hs.out (i + 1 + 1) (n + 1) a (i : Int) W
            rw [hr] at fin
            clear hr hsg hsl
            cases ho : (rp v1.toNat && rp v2.toNat) with
            | false =>
              have e : q = .error (i, 41) := by rw [hq3, ho]; rfl
              subst e
              rw [show cxV s (n + 1) a (i : Int) (.ok (v1, v2, j)) = .tuple #[sv s j (n + 1) 41 (i : Int), lf 0 0 0 0 e0 0 0 0] by simp only [cxV, ho]; rfl] at fin
              clear ho hq3
              go_wp2_with fail
              refine (fin _).mono ?_
              rintro e w62 ⟨rfl, g62⟩
              have q62 := p60.turn g62
              clear g62
              obtain ⟨l0, l1, l2⟩ := q62.lt
              obtain ⟨⟨x0, x1, x2, x3, x4⟩, xf⟩ := five q62.sx.st
              obtain ⟨⟨y0, y1, y2, y3, y4⟩, yf⟩ := five q62.sx.out
              obtain ⟨⟨z0, z1, z2, z3, z4, z5, z6, z7, z8⟩, zf⟩ := nine q62.tm
              go_wp2_with fail
              exact bodyPost_ret (v := .tuple #[sv s j (n + 1) 41 (i : Int), lf 0 0 0 0 e0 0 0 0]) (by simp [results, Tryz.results17, go_sem, y0, y1, y2, y3, y4, z0, z1, z2, z3, z4, z5, z6, z7, z8, l0, l1, l2]) rfl ⟨_, _, rfl, by decide, ((q62.sx.gr.set5 (g := W.heap.size + 1) (Nat.le_succ _) _ _ _ _ _).set9 (g := W.heap.size + 1 + 1) (by omega) _ _ _ _ _ _ _ _ _)⟩
            | true =>
              have e : q = .ok (.mk { k := 2, x := v1.toNat, y := v2.toNat } [] [], j, n + 1) := by rw [hq3, ho]; rfl
              subst e
              rw [show cxV s (n + 1) a (i : Int) (.ok (v1, v2, j)) = .tuple #[sv s j (n + 1) 0 a, lf 2 0 v1.toNat v2.toNat e0 0 0 0] by simp only [cxV, ho]; rfl] at fin
              clear ho hq3
              go_wp2_with fail
              refine (fin _).mono ?_
              rintro e w63 ⟨rfl, g63⟩
              have q63 := p60.turn g63
              clear g63
              obtain ⟨l0, l1, l2⟩ := q63.lt
              obtain ⟨⟨x0, x1, x2, x3, x4⟩, xf⟩ := five q63.sx.st
              obtain ⟨⟨y0, y1, y2, y3, y4⟩, yf⟩ := five q63.sx.out
              obtain ⟨⟨z0, z1, z2, z3, z4, z5, z6, z7, z8⟩, zf⟩ := nine q63.tm
              go_wp2_with fail
              exact bodyPost_ret (v := .tuple #[sv s j (n + 1) 0 a, lf 2 0 v1.toNat v2.toNat e0 0 0 0]) (by simp [results, Tryz.results17, go_sem, y0, y1, y2, y3, y4, z0, z1, z2, z3, z4, z5, z6, z7, z8, l0, l1, l2]) rfl ⟨_, rfl, ⟨_, _, [], rfl, .inl ⟨rfl, _, _, rfl⟩, .inl ⟨rfl, _, _, rfl⟩, rfl⟩, ((q63.sx.gr.set5 (g := W.heap.size + 1) (Nat.le_succ _) _ _ _ _ _).set9 (g := W.heap.size + 1 + 1) (by omega) _ _ _ _ _ _ _ _ _), hj, h0n.out⟩
        rw [show (y == 99) = false by simpa using h5] at m99
        by_cases h6 : y = 114
        case pos =>
          rw [show (y == 114) = true by simpa using h6] at m114
          have hl2 : i + 1 < s.size := lt_of_pk (by rw [Hy.out, h6]; decide)
          replace hl2 := Lib.hid hl2
          have sgA : sgl s i = (match ids s (i + 1 + 1) with | .error j => .error j | .ok (v1, v2, v3, j) => .ok ({ k := 4, a := v1, c := v2, d := v3 }, idOk v1 v2 v3, j)) := by rw [sg0, mrk, if_neg (by rw [Hy.out]; exact h5), if_pos (by rw [Hy.out]; exact h6)]; rfl
          clear h5 h6 sg0
          go_enter Tryz.func17, Tryz.ntmps17
          go_wp2_with fail
          generalize hW1 : World.alloc (World.alloc (World.alloc W _) _) _ = W1
          have b0 : Sy W W.heap.size s i (n + 1) 0 a W1 := by
            subst hW1
            refine ⟨⟨?_, ?_, ((Gr.alloc _ _ _).trans (Gr.alloc _ _ _)).trans (Gr.alloc _ _ _)⟩, ?_⟩ <;> (simp only [al, World.size_alloc]; repeat (first | rw [if_pos trivial] | rw [if_pos (by omega)] | rw [if_neg (by omega)]))
            rfl
          clear hW1
          refine (k45 _).mono ?_
          rintro e w64 ⟨rfl, g64⟩
          have q64 := b0.turn g64
          clear g64
          obtain ⟨l0, l1, l2⟩ := q64.lt
          obtain ⟨⟨x0, x1, x2, x3, x4⟩, xf⟩ := five q64.sx.st
          go_wp2_with fail
          refine (bd _).mono ?_
          rintro e w65 ⟨rfl, g65⟩
          have q65 := q64.turn g65
          clear g65 q64
          obtain ⟨l0, l1, l2⟩ := q65.lt
          obtain ⟨⟨x0, x1, x2, x3, x4⟩, xf⟩ := five q65.sx.st
          go_wp2_with fail
          refine (bz _).mono ?_
          rintro e w66 ⟨rfl, g66⟩
          have q66 := q65.turn g66
          clear g66 q65
          obtain ⟨l0, l1, l2⟩ := q66.lt
          obtain ⟨⟨x0, x1, x2, x3, x4⟩, xf⟩ := five q66.sx.st
          go_wp2_with fail
          refine (k35 _).mono ?_
          rintro e w67 ⟨rfl, g67⟩
          have q67 := q66.turn g67
          clear g67 q66
          obtain ⟨l0, l1, l2⟩ := q67.lt
          obtain ⟨⟨x0, x1, x2, x3, x4⟩, xf⟩ := five q67.sx.st
          have p68 := q67.inc (Nat.le_refl _)
          go_wp2_with fail
          refine (m99 _).mono ?_
          rintro e w69 ⟨rfl, g69⟩
          have q69 := p68.turn g69
          clear g69
          obtain ⟨l0, l1, l2⟩ := q69.lt
          obtain ⟨⟨x0, x1, x2, x3, x4⟩, xf⟩ := five q69.sx.st
          go_wp2_with fail
          refine (m114 _).mono ?_
          rintro e w70 ⟨rfl, g70⟩
          have q70 := q69.turn g70
          clear g70 q69
          obtain ⟨l0, l1, l2⟩ := q70.lt
          obtain ⟨⟨x0, x1, x2, x3, x4⟩, xf⟩ := five q70.sx.st
          have p71 := q70.inc (Nat.le_refl _)
          cases hr : ids s (i + 1 + 1) with
          | error j =>
            have e : q = .error (j, 41) := by rw [hq3, sgA, hr]
            subst e
            have fin := fun W => id_r s hs.out (i + 1 + 1) (n + 1) hl2.out a (i : Int) 4 W
            rw [hr, show idR s (n + 1) a (i : Int) 4 (.error j) = .tuple #[sv s j (n + 1) 41 (j : Int), lf 0 0 0 0 e0 0 0 0] from rfl] at fin
            clear hr hsg hq3
            go_wp2_with fail
            refine (fin _).mono ?_
            rintro e w72 ⟨rfl, g72⟩
            have q72 := p71.turn g72
            clear g72
            obtain ⟨l0, l1, l2⟩ := q72.lt
            obtain ⟨⟨x0, x1, x2, x3, x4⟩, xf⟩ := five q72.sx.st
            obtain ⟨⟨y0, y1, y2, y3, y4⟩, yf⟩ := five q72.sx.out
            obtain ⟨⟨z0, z1, z2, z3, z4, z5, z6, z7, z8⟩, zf⟩ := nine q72.tm
            go_wp2_with fail
            exact bodyPost_ret (v := .tuple #[sv s j (n + 1) 41 (j : Int), lf 0 0 0 0 e0 0 0 0]) (by simp [results, Tryz.results17, go_sem, y0, y1, y2, y3, y4, z0, z1, z2, z3, z4, z5, z6, z7, z8, l0, l1, l2]) rfl ⟨_, _, rfl, by decide, ((q72.sx.gr.set5 (g := W.heap.size + 1) (Nat.le_succ _) _ _ _ _ _).set9 (g := W.heap.size + 1 + 1) (by omega) _ _ _ _ _ _ _ _ _)⟩
          | ok v =>
            obtain ⟨v1, v2, v3, j⟩ := v
            have hsl : sgl s i = .ok ({ k := 4, a := v1, c := v2, d := v3 }, idOk v1 v2 v3, j) := by rw [sgA, hr]
            have hj := (sgl_ok hs.out hi hsl).2
            rw [hsl] at hq3
            have fin := fun W => id_r s hs.out (i + 1 + 1) (n + 1) hl2.out a (i : Int) 4 W
            rw [hr] at fin
            clear hr hsg hsl
            cases ho : idOk v1 v2 v3 with
            | false =>
              have e : q = .error (i, 41) := by rw [hq3, ho]; rfl
              subst e
              rw [show idR s (n + 1) a (i : Int) 4 (.ok (v1, v2, v3, j)) = .tuple #[sv s j (n + 1) 41 (i : Int), lf 0 0 0 0 e0 0 0 0] by simp only [idR, ho]; rfl] at fin
              clear ho hq3
              go_wp2_with fail
              refine (fin _).mono ?_
              rintro e w73 ⟨rfl, g73⟩
              have q73 := p71.turn g73
              clear g73
              obtain ⟨l0, l1, l2⟩ := q73.lt
              obtain ⟨⟨x0, x1, x2, x3, x4⟩, xf⟩ := five q73.sx.st
              obtain ⟨⟨y0, y1, y2, y3, y4⟩, yf⟩ := five q73.sx.out
              obtain ⟨⟨z0, z1, z2, z3, z4, z5, z6, z7, z8⟩, zf⟩ := nine q73.tm
              go_wp2_with fail
              exact bodyPost_ret (v := .tuple #[sv s j (n + 1) 41 (i : Int), lf 0 0 0 0 e0 0 0 0]) (by simp [results, Tryz.results17, go_sem, y0, y1, y2, y3, y4, z0, z1, z2, z3, z4, z5, z6, z7, z8, l0, l1, l2]) rfl ⟨_, _, rfl, by decide, ((q73.sx.gr.set5 (g := W.heap.size + 1) (Nat.le_succ _) _ _ _ _ _).set9 (g := W.heap.size + 1 + 1) (by omega) _ _ _ _ _ _ _ _ _)⟩
            | true =>
              have e : q = .ok (.mk { k := 4, a := v1, c := v2, d := v3 } [] [], j, n + 1) := by rw [hq3, ho]; rfl
              subst e
              rw [show idR s (n + 1) a (i : Int) 4 (.ok (v1, v2, v3, j)) = .tuple #[sv s j (n + 1) 0 a, lf 4 0 0 0 e0 v1 v2 v3] by simp only [idR, ho]; rfl] at fin
              clear ho hq3
              go_wp2_with fail
              refine (fin _).mono ?_
              rintro e w74 ⟨rfl, g74⟩
              have q74 := p71.turn g74
              clear g74
              obtain ⟨l0, l1, l2⟩ := q74.lt
              obtain ⟨⟨x0, x1, x2, x3, x4⟩, xf⟩ := five q74.sx.st
              obtain ⟨⟨y0, y1, y2, y3, y4⟩, yf⟩ := five q74.sx.out
              obtain ⟨⟨z0, z1, z2, z3, z4, z5, z6, z7, z8⟩, zf⟩ := nine q74.tm
              go_wp2_with fail
              exact bodyPost_ret (v := .tuple #[sv s j (n + 1) 0 a, lf 4 0 0 0 e0 v1 v2 v3]) (by simp [results, Tryz.results17, go_sem, y0, y1, y2, y3, y4, z0, z1, z2, z3, z4, z5, z6, z7, z8, l0, l1, l2]) rfl ⟨_, rfl, ⟨_, _, [], rfl, .inl ⟨rfl, _, _, rfl⟩, .inl ⟨rfl, _, _, rfl⟩, rfl⟩, ((q74.sx.gr.set5 (g := W.heap.size + 1) (Nat.le_succ _) _ _ _ _ _).set9 (g := W.heap.size + 1 + 1) (by omega) _ _ _ _ _ _ _ _ _), hj, h0n.out⟩
        rw [show (y == 114) = false by simpa using h6] at m114
        by_cases h7 : y = 112
        case pos =>
          have hw := fun W => want_yes s (i + 1) (n + 1) a 112 (by decide) hs.out (by rw [Hy.out]; exact h7) W
          have hl2 : i + 1 < s.size := lt_of_pk (by rw [Hy.out, h7]; decide)
          replace hl2 := Lib.hid hl2
          have sgA : sgl s i = (match ids s (i + 1 + 1) with | .error j => .error j | .ok (v1, v2, v3, j) => .ok ({ k := 5, a := v1, c := v2, d := v3 }, idOk v1 v2 v3, j)) := by rw [sg0, mrk, if_neg (by rw [Hy.out]; exact h5), if_neg (by rw [Hy.out]; exact h6), if_pos (by rw [Hy.out]; exact h7)]; rfl
          clear h5 h6 h7 sg0
          go_enter Tryz.func17, Tryz.ntmps17
          go_wp2_with fail
          generalize hW1 : World.alloc (World.alloc (World.alloc W _) _) _ = W1
          have b0 : Sy W W.heap.size s i (n + 1) 0 a W1 := by
            subst hW1
            refine ⟨⟨?_, ?_, ((Gr.alloc _ _ _).trans (Gr.alloc _ _ _)).trans (Gr.alloc _ _ _)⟩, ?_⟩ <;> (simp only [al, World.size_alloc]; repeat (first | rw [if_pos trivial] | rw [if_pos (by omega)] | rw [if_neg (by omega)]))
            rfl
          clear hW1
          refine (k45 _).mono ?_
          rintro e w75 ⟨rfl, g75⟩
          have q75 := b0.turn g75
          clear g75
          obtain ⟨l0, l1, l2⟩ := q75.lt
          obtain ⟨⟨x0, x1, x2, x3, x4⟩, xf⟩ := five q75.sx.st
          go_wp2_with fail
          refine (bd _).mono ?_
          rintro e w76 ⟨rfl, g76⟩
          have q76 := q75.turn g76
          clear g76 q75
          obtain ⟨l0, l1, l2⟩ := q76.lt
          obtain ⟨⟨x0, x1, x2, x3, x4⟩, xf⟩ := five q76.sx.st
          go_wp2_with fail
          refine (bz _).mono ?_
          rintro e w77 ⟨rfl, g77⟩
          have q77 := q76.turn g77
          clear g77 q76
          obtain ⟨l0, l1, l2⟩ := q77.lt
          obtain ⟨⟨x0, x1, x2, x3, x4⟩, xf⟩ := five q77.sx.st
          go_wp2_with fail
          refine (k35 _).mono ?_
          rintro e w78 ⟨rfl, g78⟩
          have q78 := q77.turn g78
          clear g78 q77
          obtain ⟨l0, l1, l2⟩ := q78.lt
          obtain ⟨⟨x0, x1, x2, x3, x4⟩, xf⟩ := five q78.sx.st
          have p79 := q78.inc (Nat.le_refl _)
          go_wp2_with fail
          refine (m99 _).mono ?_
          rintro e w80 ⟨rfl, g80⟩
          have q80 := p79.turn g80
          clear g80
          obtain ⟨l0, l1, l2⟩ := q80.lt
          obtain ⟨⟨x0, x1, x2, x3, x4⟩, xf⟩ := five q80.sx.st
          go_wp2_with fail
          refine (m114 _).mono ?_
          rintro e w81 ⟨rfl, g81⟩
          have q81 := q80.turn g81
          clear g81 q80
          obtain ⟨l0, l1, l2⟩ := q81.lt
          obtain ⟨⟨x0, x1, x2, x3, x4⟩, xf⟩ := five q81.sx.st
          go_wp2_with fail
          refine (hw _).mono ?_
          rintro e w82 ⟨rfl, g82⟩
          have q82 := q81.turn g82
          clear g82 q81
          obtain ⟨l0, l1, l2⟩ := q82.lt
          obtain ⟨⟨x0, x1, x2, x3, x4⟩, xf⟩ := five q82.sx.st
          cases hr : ids s (i + 1 + 1) with
          | error j =>
            have e : q = .error (j, 41) := by rw [hq3, sgA, hr]
            subst e
            have fin := fun W => id_r s hs.out (i + 1 + 1) (n + 1) hl2.out a (i : Int) 5 W
            rw [hr, show idR s (n + 1) a (i : Int) 5 (.error j) = .tuple #[sv s j (n + 1) 41 (j : Int), lf 0 0 0 0 e0 0 0 0] from rfl] at fin
            clear hr hsg hq3
            go_wp2_with fail
            refine (fin _).mono ?_
            rintro e w83 ⟨rfl, g83⟩
            have q83 := q82.turn g83
            clear g83 q82
            obtain ⟨l0, l1, l2⟩ := q83.lt
            obtain ⟨⟨x0, x1, x2, x3, x4⟩, xf⟩ := five q83.sx.st
            obtain ⟨⟨y0, y1, y2, y3, y4⟩, yf⟩ := five q83.sx.out
            obtain ⟨⟨z0, z1, z2, z3, z4, z5, z6, z7, z8⟩, zf⟩ := nine q83.tm
            go_wp2_with fail
            exact bodyPost_ret (v := .tuple #[sv s j (n + 1) 41 (j : Int), lf 0 0 0 0 e0 0 0 0]) (by simp [results, Tryz.results17, go_sem, y0, y1, y2, y3, y4, z0, z1, z2, z3, z4, z5, z6, z7, z8, l0, l1, l2]) rfl ⟨_, _, rfl, by decide, ((q83.sx.gr.set5 (g := W.heap.size + 1) (Nat.le_succ _) _ _ _ _ _).set9 (g := W.heap.size + 1 + 1) (by omega) _ _ _ _ _ _ _ _ _)⟩
          | ok v =>
            obtain ⟨v1, v2, v3, j⟩ := v
            have hsl : sgl s i = .ok ({ k := 5, a := v1, c := v2, d := v3 }, idOk v1 v2 v3, j) := by rw [sgA, hr]
            have hj := (sgl_ok hs.out hi hsl).2
            rw [hsl] at hq3
            have fin := fun W => id_r s hs.out (i + 1 + 1) (n + 1) hl2.out a (i : Int) 5 W
            rw [hr] at fin
            clear hr hsg hsl
            cases ho : idOk v1 v2 v3 with
            | false =>
              have e : q = .error (i, 41) := by rw [hq3, ho]; rfl
              subst e
              rw [show idR s (n + 1) a (i : Int) 5 (.ok (v1, v2, v3, j)) = .tuple #[sv s j (n + 1) 41 (i : Int), lf 0 0 0 0 e0 0 0 0] by simp only [idR, ho]; rfl] at fin
              clear ho hq3
              go_wp2_with fail
              refine (fin _).mono ?_
              rintro e w84 ⟨rfl, g84⟩
              have q84 := q82.turn g84
              clear g84 q82
              obtain ⟨l0, l1, l2⟩ := q84.lt
              obtain ⟨⟨x0, x1, x2, x3, x4⟩, xf⟩ := five q84.sx.st
              obtain ⟨⟨y0, y1, y2, y3, y4⟩, yf⟩ := five q84.sx.out
              obtain ⟨⟨z0, z1, z2, z3, z4, z5, z6, z7, z8⟩, zf⟩ := nine q84.tm
              go_wp2_with fail
              exact bodyPost_ret (v := .tuple #[sv s j (n + 1) 41 (i : Int), lf 0 0 0 0 e0 0 0 0]) (by simp [results, Tryz.results17, go_sem, y0, y1, y2, y3, y4, z0, z1, z2, z3, z4, z5, z6, z7, z8, l0, l1, l2]) rfl ⟨_, _, rfl, by decide, ((q84.sx.gr.set5 (g := W.heap.size + 1) (Nat.le_succ _) _ _ _ _ _).set9 (g := W.heap.size + 1 + 1) (by omega) _ _ _ _ _ _ _ _ _)⟩
            | true =>
              have e : q = .ok (.mk { k := 5, a := v1, c := v2, d := v3 } [] [], j, n + 1) := by rw [hq3, ho]; rfl
              subst e
              rw [show idR s (n + 1) a (i : Int) 5 (.ok (v1, v2, v3, j)) = .tuple #[sv s j (n + 1) 0 a, lf 5 0 0 0 e0 v1 v2 v3] by simp only [idR, ho]; rfl] at fin
              clear ho hq3
              go_wp2_with fail
              refine (fin _).mono ?_
              rintro e w85 ⟨rfl, g85⟩
              have q85 := q82.turn g85
              clear g85 q82
              obtain ⟨l0, l1, l2⟩ := q85.lt
              obtain ⟨⟨x0, x1, x2, x3, x4⟩, xf⟩ := five q85.sx.st
              obtain ⟨⟨y0, y1, y2, y3, y4⟩, yf⟩ := five q85.sx.out
              obtain ⟨⟨z0, z1, z2, z3, z4, z5, z6, z7, z8⟩, zf⟩ := nine q85.tm
              go_wp2_with fail
              exact bodyPost_ret (v := .tuple #[sv s j (n + 1) 0 a, lf 5 0 0 0 e0 v1 v2 v3]) (by simp [results, Tryz.results17, go_sem, y0, y1, y2, y3, y4, z0, z1, z2, z3, z4, z5, z6, z7, z8, l0, l1, l2]) rfl ⟨_, rfl, ⟨_, _, [], rfl, .inl ⟨rfl, _, _, rfl⟩, .inl ⟨rfl, _, _, rfl⟩, rfl⟩, ((q85.sx.gr.set5 (g := W.heap.size + 1) (Nat.le_succ _) _ _ _ _ _).set9 (g := W.heap.size + 1 + 1) (by omega) _ _ _ _ _ _ _ _ _), hj, h0n.out⟩
        have hw := fun W => want_no s (i + 1) (n + 1) a 112 (by decide) (by rw [Hy.out]; exact h7) W
        have e : q = .error (i + 1, 41) := by rw [hq3, sg0, mrk, if_neg (by rw [Hy.out]; exact h5), if_neg (by rw [Hy.out]; exact h6), if_neg (by rw [Hy.out]; exact h7)]
        subst e
        clear h5 h6 h7 sg0 hq3 hsg
        go_enter Tryz.func17, Tryz.ntmps17
        go_wp2_with fail
        generalize hW1 : World.alloc (World.alloc (World.alloc W _) _) _ = W1
        have b0 : Sy W W.heap.size s i (n + 1) 0 a W1 := by
          subst hW1
          refine ⟨⟨?_, ?_, ((Gr.alloc _ _ _).trans (Gr.alloc _ _ _)).trans (Gr.alloc _ _ _)⟩, ?_⟩ <;> (simp only [al, World.size_alloc]; repeat (first | rw [if_pos trivial] | rw [if_pos (by omega)] | rw [if_neg (by omega)]))
          rfl
        clear hW1
        refine (k45 _).mono ?_
        rintro e w86 ⟨rfl, g86⟩
        have q86 := b0.turn g86
        clear g86
        obtain ⟨l0, l1, l2⟩ := q86.lt
        obtain ⟨⟨x0, x1, x2, x3, x4⟩, xf⟩ := five q86.sx.st
        go_wp2_with fail
        refine (bd _).mono ?_
        rintro e w87 ⟨rfl, g87⟩
        have q87 := q86.turn g87
        clear g87 q86
        obtain ⟨l0, l1, l2⟩ := q87.lt
        obtain ⟨⟨x0, x1, x2, x3, x4⟩, xf⟩ := five q87.sx.st
        go_wp2_with fail
        refine (bz _).mono ?_
        rintro e w88 ⟨rfl, g88⟩
        have q88 := q87.turn g88
        clear g88 q87
        obtain ⟨l0, l1, l2⟩ := q88.lt
        obtain ⟨⟨x0, x1, x2, x3, x4⟩, xf⟩ := five q88.sx.st
        go_wp2_with fail
        refine (k35 _).mono ?_
        rintro e w89 ⟨rfl, g89⟩
        have q89 := q88.turn g89
        clear g89 q88
        obtain ⟨l0, l1, l2⟩ := q89.lt
        obtain ⟨⟨x0, x1, x2, x3, x4⟩, xf⟩ := five q89.sx.st
        have pm := q89.inc (Nat.le_refl _)
        go_wp2_with fail
        refine (m99 _).mono ?_
        rintro e w90 ⟨rfl, g90⟩
        have q90 := pm.turn g90
        clear g90
        obtain ⟨l0, l1, l2⟩ := q90.lt
        obtain ⟨⟨x0, x1, x2, x3, x4⟩, xf⟩ := five q90.sx.st
        go_wp2_with fail
        refine (m114 _).mono ?_
        rintro e w91 ⟨rfl, g91⟩
        have q91 := q90.turn g91
        clear g91 q90
        obtain ⟨l0, l1, l2⟩ := q91.lt
        obtain ⟨⟨x0, x1, x2, x3, x4⟩, xf⟩ := five q91.sx.st
        go_wp2_with fail
        refine (hw _).mono ?_
        rintro e w92 ⟨rfl, g92⟩
        have q92 := q91.turn g92
        clear g92 q91
        obtain ⟨l0, l1, l2⟩ := q92.lt
        obtain ⟨⟨x0, x1, x2, x3, x4⟩, xf⟩ := five q92.sx.st
        go_wp2_with fail
        refine (id_old s (i + 1) (n + 1) 41 ((i + 1 : Nat) : Int) (i : Int) 5 (by decide) _).mono ?_
        rintro e w93 ⟨rfl, g93⟩
        have q93 := q92.turn g93
        clear g93 q92
        obtain ⟨l0, l1, l2⟩ := q93.lt
        obtain ⟨⟨x0, x1, x2, x3, x4⟩, xf⟩ := five q93.sx.st
        obtain ⟨⟨y0, y1, y2, y3, y4⟩, yf⟩ := five q93.sx.out
        obtain ⟨⟨z0, z1, z2, z3, z4, z5, z6, z7, z8⟩, zf⟩ := nine q93.tm
        go_wp2_with fail
        exact bodyPost_ret (v := .tuple #[sv s (i + 1) (n + 1) 41 ((i + 1 : Nat) : Int), lf 0 0 0 0 e0 0 0 0]) (by simp [results, Tryz.results17, go_sem, y0, y1, y2, y3, y4, z0, z1, z2, z3, z4, z5, z6, z7, z8, l0, l1, l2]) rfl ⟨_, _, rfl, by decide, ((q93.sx.gr.set5 (g := W.heap.size + 1) (Nat.le_succ _) _ _ _ _ _).set9 (g := W.heap.size + 1 + 1) (by omega) _ _ _ _ _ _ _ _ _)⟩
      rw [show (c == 35) = false by simpa using h4] at k35
      by_cases h5 : c = 34
      case pos =>
        rw [show (c == 34) = true by simpa using h5] at k34
        have hqd := fun W => quoted_r s hs.out i (n + 1) a (by rw [Hc.out]; exact h5) h0n.out W
        have hq3 : q = (match qtd s i (n + 1) with | .error e => .error e | .ok (l, j, m) => .ok (.mk { k := 8 } l [], j, m)) := by
          rw [Hq.out, prt, if_neg h0.out, if_neg (by rw [Hc.out, h5]; decide), if_neg (by rw [Hc.out, h5]; decide), if_pos (by rw [Hc.out]; exact h5)]
          rfl
        have hlt : i < s.size := lt_of_pk (by rw [Hc.out, h5]; decide)
        clear h1 h2 h3 h4 h5
        go_enter Tryz.func17, Tryz.ntmps17
        go_wp2_with fail
        generalize hW1 : World.alloc (World.alloc (World.alloc W _) _) _ = W1
        have b0 : Sy W W.heap.size s i (n + 1) 0 a W1 := by
          subst hW1
          refine ⟨⟨?_, ?_, ((Gr.alloc _ _ _).trans (Gr.alloc _ _ _)).trans (Gr.alloc _ _ _)⟩, ?_⟩ <;> (simp only [al, World.size_alloc]; repeat (first | rw [if_pos trivial] | rw [if_pos (by omega)] | rw [if_neg (by omega)]))
          rfl
        clear hW1
        refine (k45 _).mono ?_
        rintro e w22 ⟨rfl, g22⟩
        have q22 := b0.turn g22
        clear g22
        obtain ⟨l0, l1, l2⟩ := q22.lt
        obtain ⟨⟨x0, x1, x2, x3, x4⟩, xf⟩ := five q22.sx.st
        go_wp2_with fail
        refine (bd _).mono ?_
        rintro e w23 ⟨rfl, g23⟩
        have q23 := q22.turn g23
        clear g23 q22
        obtain ⟨l0, l1, l2⟩ := q23.lt
        obtain ⟨⟨x0, x1, x2, x3, x4⟩, xf⟩ := five q23.sx.st
        go_wp2_with fail
        refine (bz _).mono ?_
        rintro e w24 ⟨rfl, g24⟩
        have q24 := q23.turn g24
        clear g24 q23
        obtain ⟨l0, l1, l2⟩ := q24.lt
        obtain ⟨⟨x0, x1, x2, x3, x4⟩, xf⟩ := five q24.sx.st
        go_wp2_with fail
        refine (k35 _).mono ?_
        rintro e w25 ⟨rfl, g25⟩
        have q25 := q24.turn g25
        clear g25 q24
        obtain ⟨l0, l1, l2⟩ := q25.lt
        obtain ⟨⟨x0, x1, x2, x3, x4⟩, xf⟩ := five q25.sx.st
        go_wp2_with fail
        refine (k34 _).mono ?_
        rintro e w26 ⟨rfl, g26⟩
        have q26 := q25.turn g26
        clear g26 q25
        obtain ⟨l0, l1, l2⟩ := q26.lt
        obtain ⟨⟨x0, x1, x2, x3, x4⟩, xf⟩ := five q26.sx.st
        go_wp2_with fail
        cases hr : qtd s i (n + 1) with
        | error e =>
          obtain ⟨j', c'⟩ := e
          rw [hr] at hqd hq3
          have hc' : (c' == 0) = false := by
            unfold qtd at hr
            cases h1 : qts s (s.size + 1) (i + 1) [] with
            | error e => rw [h1] at hr; cases hr; rfl
            | ok v =>
              obtain ⟨l', j'⟩ := v
              simp only [h1] at hr
              split at hr
              · cases hr; rfl
              · cases hr
          have e : q = .error (j', c') := hq3
          subst e
          clear hq3 hr
          refine (hqd _).mono ?_
          rintro e w27 ⟨i', n', rfl, g27⟩
          have q27 := q26.turn g27
          obtain ⟨l0, l1, l2⟩ := q27.lt
          obtain ⟨⟨x0, x1, x2, x3, x4⟩, xf⟩ := five q27.sx.st
          obtain ⟨⟨y0, y1, y2, y3, y4⟩, yf⟩ := five q27.sx.out
          obtain ⟨⟨z0, z1, z2, z3, z4, z5, z6, z7, z8⟩, zf⟩ := nine q27.tm
          go_wp2_with fail
          exact bodyPost_ret (v := .tuple #[sv s i' n' c' (j' : Int), lf 0 0 0 0 e0 0 0 0]) (by simp [results, Tryz.results17, go_sem, y0, y1, y2, y3, y4, z0, z1, z2, z3, z4, z5, z6, z7, z8, l0, l1, l2]) rfl ⟨_, _, rfl, hc', ((q27.sx.gr.set5 (g := W.heap.size + 1) (Nat.le_succ _) _ _ _ _ _).set9 (g := W.heap.size + 1 + 1) (by omega) _ _ _ _ _ _ _ _ _)⟩
        | ok v =>
          obtain ⟨l, j', m'⟩ := v
          rw [hr] at hqd hq3
          have hjm := Lib.hid (qtd_ok hlt hr)
          have e : q = .ok (.mk { k := 8 } l [], j', m') := hq3
          subst e
          clear hq3 hr
          refine (hqd _).mono ?_
          rintro e w28 ⟨v, rfl, hrow, g28⟩
          have q28 := q26.turn g28
          obtain ⟨l0, l1, l2⟩ := q28.lt
          obtain ⟨⟨x0, x1, x2, x3, x4⟩, xf⟩ := five q28.sx.st
          obtain ⟨⟨y0, y1, y2, y3, y4⟩, yf⟩ := five q28.sx.out
          obtain ⟨⟨z0, z1, z2, z3, z4, z5, z6, z7, z8⟩, zf⟩ := nine q28.tm
          have hsv : ∃ a2 n2 c2, v = .slice a2 n2 c2 := by rcases hrow with ⟨_, a, c, rfl⟩ | ⟨g', cap, cur, rfl, _⟩ <;> exact ⟨_, _, _, rfl⟩
          obtain ⟨a2, n2, c2, rfl⟩ := hsv
          have hws := q26.lt
          go_wp2_with fail
          exact bodyPost_ret (v := .tuple #[sv s j' m' 0 a, tv 8 0 0 0 e0 0 0 0 (.slice a2 n2 c2) nl]) (by simp [results, Tryz.results17, go_sem, y0, y1, y2, y3, y4, z0, z1, z2, z3, z4, z5, z6, z7, z8, l0, l1, l2]) rfl ⟨_, rfl, ⟨_, _, [], rfl, hrow.turn (turn14 _ (W.heap.size + 1) w26.heap.size W.heap.size (by omega) (by omega) _ _ _ _ _ _ _ _ _ _ _ _ _ _), .inl ⟨rfl, _, _, rfl⟩, rfl⟩, ((q28.sx.gr.set5 (g := W.heap.size + 1) (Nat.le_succ _) _ _ _ _ _).set9 (g := W.heap.size + 1 + 1) (by omega) _ _ _ _ _ _ _ _ _), hjm.out.1, hjm.out.2⟩
      rw [show (c == 34) = false by simpa using h5] at k34
      by_cases h6 : c = 123
      case pos =>
        rw [show (c == 123) = true by simpa using h6] at k123
        have hlt : i < s.size := lt_of_pk (by rw [Hc.out, h6]; decide)
        have hel := fun W => elements_r s hs.out r ih.out i (n + 1) a 6 d 125 hd4 hd3 (by simp) hlt h0n.out W
        have hq3 : q = (match lst s (prt s r) 125 i (n + 1) with | .error e => .error e | .ok (l, j, m) => .ok (.mk { k := 6 } [] l, j, m)) := by
          rw [Hq.out, prt, if_neg h0.out, if_pos (by rw [Hc.out]; exact h6)]
          rfl
        clear h1 h2 h3 h4 h5 h6
        go_enter Tryz.func17, Tryz.ntmps17
        go_wp2_with fail
        generalize hW1 : World.alloc (World.alloc (World.alloc W _) _) _ = W1
        have b0 : Sy W W.heap.size s i (n + 1) 0 a W1 := by
          subst hW1
          refine ⟨⟨?_, ?_, ((Gr.alloc _ _ _).trans (Gr.alloc _ _ _)).trans (Gr.alloc _ _ _)⟩, ?_⟩ <;> (simp only [al, World.size_alloc]; repeat (first | rw [if_pos trivial] | rw [if_pos (by omega)] | rw [if_neg (by omega)]))
          rfl
        clear hW1
        refine (k45 _).mono ?_
        rintro e w29 ⟨rfl, g29⟩
        have q29 := b0.turn g29
        clear g29
        obtain ⟨l0, l1, l2⟩ := q29.lt
        obtain ⟨⟨x0, x1, x2, x3, x4⟩, xf⟩ := five q29.sx.st
        go_wp2_with fail
        refine (bd _).mono ?_
        rintro e w30 ⟨rfl, g30⟩
        have q30 := q29.turn g30
        clear g30 q29
        obtain ⟨l0, l1, l2⟩ := q30.lt
        obtain ⟨⟨x0, x1, x2, x3, x4⟩, xf⟩ := five q30.sx.st
        go_wp2_with fail
        refine (bz _).mono ?_
        rintro e w31 ⟨rfl, g31⟩
        have q31 := q30.turn g31
        clear g31 q30
        obtain ⟨l0, l1, l2⟩ := q31.lt
        obtain ⟨⟨x0, x1, x2, x3, x4⟩, xf⟩ := five q31.sx.st
        go_wp2_with fail
        refine (k35 _).mono ?_
        rintro e w32 ⟨rfl, g32⟩
        have q32 := q31.turn g32
        clear g32 q31
        obtain ⟨l0, l1, l2⟩ := q32.lt
        obtain ⟨⟨x0, x1, x2, x3, x4⟩, xf⟩ := five q32.sx.st
        go_wp2_with fail
        refine (k34 _).mono ?_
        rintro e w33 ⟨rfl, g33⟩
        have q33 := q32.turn g33
        clear g33 q32
        obtain ⟨l0, l1, l2⟩ := q33.lt
        obtain ⟨⟨x0, x1, x2, x3, x4⟩, xf⟩ := five q33.sx.st
        go_wp2_with fail
        refine (k123 _).mono ?_
        rintro e w34 ⟨rfl, g34⟩
        have q34 := q33.turn g34
        clear g34 q33
        obtain ⟨l0, l1, l2⟩ := q34.lt
        obtain ⟨⟨x0, x1, x2, x3, x4⟩, xf⟩ := five q34.sx.st
        go_wp2_with fail
        cases hr : lst s (prt s r) 125 i (n + 1) with
        | error e =>
          obtain ⟨j', c'⟩ := e
          rw [hr] at hel hq3
          have e : q = .error (j', c') := hq3
          subst e
          clear hq3 hr
          refine (hel _).mono ?_
          rintro e w35 ⟨i', n', rfl, hc', g35⟩
          have q35 := q34.turn g35
          obtain ⟨l0, l1, l2⟩ := q35.lt
          obtain ⟨⟨x0, x1, x2, x3, x4⟩, xf⟩ := five q35.sx.st
          obtain ⟨⟨y0, y1, y2, y3, y4⟩, yf⟩ := five q35.sx.out
          obtain ⟨⟨z0, z1, z2, z3, z4, z5, z6, z7, z8⟩, zf⟩ := nine q35.tm
          go_wp2_with fail
          exact bodyPost_ret (v := .tuple #[sv s i' n' c' (j' : Int), lf 0 0 0 0 e0 0 0 0]) (by simp [results, Tryz.results17, go_sem, y0, y1, y2, y3, y4, z0, z1, z2, z3, z4, z5, z6, z7, z8, l0, l1, l2]) rfl ⟨_, _, rfl, hc', ((q35.sx.gr.set5 (g := W.heap.size + 1) (Nat.le_succ _) _ _ _ _ _).set9 (g := W.heap.size + 1 + 1) (by omega) _ _ _ _ _ _ _ _ _)⟩
        | ok v =>
          obtain ⟨l, j', m'⟩ := v
          rw [hr] at hel hq3
          have e : q = .ok (.mk { k := 6 } [] l, j', m') := hq3
          subst e
          clear hq3 hr
          refine (hel _).mono ?_
          rintro e w36 ⟨v, vs, rfl, hrow, hreps, g36, hj4, hm4⟩
          have q36 := q34.turn g36
          obtain ⟨l0, l1, l2⟩ := q36.lt
          obtain ⟨⟨x0, x1, x2, x3, x4⟩, xf⟩ := five q36.sx.st
          obtain ⟨⟨y0, y1, y2, y3, y4⟩, yf⟩ := five q36.sx.out
          obtain ⟨⟨z0, z1, z2, z3, z4, z5, z6, z7, z8⟩, zf⟩ := nine q36.tm
          replace hm4 := Lib.hid hm4
          have hsv : ∃ a2 n2 c2, v = .slice a2 n2 c2 := by rcases hrow with ⟨_, a, c, rfl⟩ | ⟨g', cap, cur, rfl, _⟩ <;> exact ⟨_, _, _, rfl⟩
          obtain ⟨a2, n2, c2, rfl⟩ := hsv
          have hws := q34.lt
          go_wp2_with fail
          exact bodyPost_ret (v := .tuple #[sv s j' m' 0 a, tv 6 0 0 0 e0 0 0 0 nl (.slice a2 n2 c2)]) (by simp [results, Tryz.results17, go_sem, y0, y1, y2, y3, y4, z0, z1, z2, z3, z4, z5, z6, z7, z8, l0, l1, l2]) rfl ⟨_, rfl, ⟨_, _, vs, rfl, .inl ⟨rfl, _, _, rfl⟩, hrow.turn (turn14 _ (W.heap.size + 1) w34.heap.size W.heap.size (by omega) (by omega) _ _ _ _ _ _ _ _ _ _ _ _ _ _), hreps.turn (turn14 _ (W.heap.size + 1) w34.heap.size W.heap.size (by omega) (by omega) _ _ _ _ _ _ _ _ _ _ _ _ _ _)⟩, ((q36.sx.gr.set5 (g := W.heap.size + 1) (Nat.le_succ _) _ _ _ _ _).set9 (g := W.heap.size + 1 + 1) (by omega) _ _ _ _ _ _ _ _ _), hj4, hm4.out⟩
      rw [show (c == 123) = false by simpa using h6] at k123
      by_cases h7 : c = 91
      case pos =>
        rw [show (c == 91) = true by simpa using h7] at k91
        have hlt : i < s.size := lt_of_pk (by rw [Hc.out, h7]; decide)
        have hel := fun W => elements_r s hs.out r ih.out i (n + 1) a 7 d 93 hd4 hd3 (by simp) hlt h0n.out W
        have hq3 : q = (match lst s (prt s r) 93 i (n + 1) with | .error e => .error e | .ok (l, j, m) => .ok (.mk { k := 7 } [] l, j, m)) := by
          rw [Hq.out, prt, if_neg h0.out, if_neg (by rw [Hc.out, h7]; decide), if_pos (by rw [Hc.out]; exact h7)]
          rfl
        clear h1 h2 h3 h4 h5 h6 h7
        go_enter Tryz.func17, Tryz.ntmps17
        go_wp2_with fail
        generalize hW1 : World.alloc (World.alloc (World.alloc W _) _) _ = W1
        have b0 : Sy W W.heap.size s i (n + 1) 0 a W1 := by
          subst hW1
          refine ⟨⟨?_, ?_, ((Gr.alloc _ _ _).trans (Gr.alloc _ _ _)).trans (Gr.alloc _ _ _)⟩, ?_⟩ <;> (simp only [al, World.size_alloc]; repeat (first | rw [if_pos trivial] | rw [if_pos (by omega)] | rw [if_neg (by omega)]))
          rfl
        clear hW1
        refine (k45 _).mono ?_
        rintro e w37 ⟨rfl, g37⟩
        have q37 := b0.turn g37
        clear g37
        obtain ⟨l0, l1, l2⟩ := q37.lt
        obtain ⟨⟨x0, x1, x2, x3, x4⟩, xf⟩ := five q37.sx.st
        go_wp2_with fail
        refine (bd _).mono ?_
        rintro e w38 ⟨rfl, g38⟩
        have q38 := q37.turn g38
        clear g38 q37
        obtain ⟨l0, l1, l2⟩ := q38.lt
        obtain ⟨⟨x0, x1, x2, x3, x4⟩, xf⟩ := five q38.sx.st
        go_wp2_with fail
        refine (bz _).mono ?_
        rintro e w39 ⟨rfl, g39⟩
        have q39 := q38.turn g39
        clear g39 q38
        obtain ⟨l0, l1, l2⟩ := q39.lt
        obtain ⟨⟨x0, x1, x2, x3, x4⟩, xf⟩ := five q39.sx.st
        go_wp2_with fail
        refine (k35 _).mono ?_
        rintro e w40 ⟨rfl, g40⟩
        have q40 := q39.turn g40
        clear g40 q39
        obtain ⟨l0, l1, l2⟩ := q40.lt
        obtain ⟨⟨x0, x1, x2, x3, x4⟩, xf⟩ := five q40.sx.st
        go_wp2_with fail
        refine (k34 _).mono ?_
        rintro e w41 ⟨rfl, g41⟩
        have q41 := q40.turn g41
        clear g41 q40
        obtain ⟨l0, l1, l2⟩ := q41.lt
        obtain ⟨⟨x0, x1, x2, x3, x4⟩, xf⟩ := five q41.sx.st
        go_wp2_with fail
        refine (k123 _).mono ?_
        rintro e w42 ⟨rfl, g42⟩
        have q42 := q41.turn g42
        clear g42 q41
        obtain ⟨l0, l1, l2⟩ := q42.lt
        obtain ⟨⟨x0, x1, x2, x3, x4⟩, xf⟩ := five q42.sx.st
        go_wp2_with fail
        refine (k91 _).mono ?_
        rintro e w43 ⟨rfl, g43⟩
        have q43 := q42.turn g43
        clear g43 q42
        obtain ⟨l0, l1, l2⟩ := q43.lt
        obtain ⟨⟨x0, x1, x2, x3, x4⟩, xf⟩ := five q43.sx.st
        go_wp2_with fail
        cases hr : lst s (prt s r) 93 i (n + 1) with
        | error e =>
          obtain ⟨j', c'⟩ := e
          rw [hr] at hel hq3
          have e : q = .error (j', c') := hq3
          subst e
          clear hq3 hr
          refine (hel _).mono ?_
          rintro e w44 ⟨i', n', rfl, hc', g44⟩
          have q44 := q43.turn g44
          obtain ⟨l0, l1, l2⟩ := q44.lt
          obtain ⟨⟨x0, x1, x2, x3, x4⟩, xf⟩ := five q44.sx.st
          obtain ⟨⟨y0, y1, y2, y3, y4⟩, yf⟩ := five q44.sx.out
          obtain ⟨⟨z0, z1, z2, z3, z4, z5, z6, z7, z8⟩, zf⟩ := nine q44.tm
          go_wp2_with fail
          exact bodyPost_ret (v := .tuple #[sv s i' n' c' (j' : Int), lf 0 0 0 0 e0 0 0 0]) (by simp [results, Tryz.results17, go_sem, y0, y1, y2, y3, y4, z0, z1, z2, z3, z4, z5, z6, z7, z8, l0, l1, l2]) rfl ⟨_, _, rfl, hc', ((q44.sx.gr.set5 (g := W.heap.size + 1) (Nat.le_succ _) _ _ _ _ _).set9 (g := W.heap.size + 1 + 1) (by omega) _ _ _ _ _ _ _ _ _)⟩
        | ok v =>
          obtain ⟨l, j', m'⟩ := v
          rw [hr] at hel hq3
          have e : q = .ok (.mk { k := 7 } [] l, j', m') := hq3
          subst e
          clear hq3 hr
          refine (hel _).mono ?_
          rintro e w45 ⟨v, vs, rfl, hrow, hreps, g45, hj4, hm4⟩
          have q45 := q43.turn g45
          obtain ⟨l0, l1, l2⟩ := q45.lt
          obtain ⟨⟨x0, x1, x2, x3, x4⟩, xf⟩ := five q45.sx.st
          obtain ⟨⟨y0, y1, y2, y3, y4⟩, yf⟩ := five q45.sx.out
          obtain ⟨⟨z0, z1, z2, z3, z4, z5, z6, z7, z8⟩, zf⟩ := nine q45.tm
          replace hm4 := Lib.hid hm4
          have hsv : ∃ a2 n2 c2, v = .slice a2 n2 c2 := by rcases hrow with ⟨_, a, c, rfl⟩ | ⟨g', cap, cur, rfl, _⟩ <;> exact ⟨_, _, _, rfl⟩
          obtain ⟨a2, n2, c2, rfl⟩ := hsv
          have hws := q43.lt
          go_wp2_with fail
          exact bodyPost_ret (v := .tuple #[sv s j' m' 0 a, tv 7 0 0 0 e0 0 0 0 nl (.slice a2 n2 c2)]) (by simp [results, Tryz.results17, go_sem, y0, y1, y2, y3, y4, z0, z1, z2, z3, z4, z5, z6, z7, z8, l0, l1, l2]) rfl ⟨_, rfl, ⟨_, _, vs, rfl, .inl ⟨rfl, _, _, rfl⟩, hrow.turn (turn14 _ (W.heap.size + 1) w43.heap.size W.heap.size (by omega) (by omega) _ _ _ _ _ _ _ _ _ _ _ _ _ _), hreps.turn (turn14 _ (W.heap.size + 1) w43.heap.size W.heap.size (by omega) (by omega) _ _ _ _ _ _ _ _ _ _ _ _ _ _)⟩, ((q45.sx.gr.set5 (g := W.heap.size + 1) (Nat.le_succ _) _ _ _ _ _).set9 (g := W.heap.size + 1 + 1) (by omega) _ _ _ _ _ _ _ _ _), hj4, hm4.out⟩
      rw [show (c == 91) = false by simpa using h7] at k91
      have hq3 := hsg h6 h7 h5
      have e : q = .error (i, 41) := by
        rw [hq3, sgl, if_neg (by rw [Hc.out, h2]; simp [h1]), if_neg (by rw [Hc.out, h3]; decide), if_neg (by rw [Hc.out]; exact h4)]
      subst e
      clear h1 h2 h3 h4 h5 h6 h7 hq3 hsg
      go_enter Tryz.func17, Tryz.ntmps17
      go_wp2_with fail
      generalize hW1 : World.alloc (World.alloc (World.alloc W _) _) _ = W1
      have b0 : Sy W W.heap.size s i (n + 1) 0 a W1 := by
        subst hW1
        refine ⟨⟨?_, ?_, ((Gr.alloc _ _ _).trans (Gr.alloc _ _ _)).trans (Gr.alloc _ _ _)⟩, ?_⟩ <;> (simp only [al, World.size_alloc]; repeat (first | rw [if_pos trivial] | rw [if_pos (by omega)] | rw [if_neg (by omega)]))
        rfl
      clear hW1
      refine (k45 _).mono ?_
      rintro e w46 ⟨rfl, g46⟩
      have q46 := b0.turn g46
      clear g46
      obtain ⟨l0, l1, l2⟩ := q46.lt
      obtain ⟨⟨x0, x1, x2, x3, x4⟩, xf⟩ := five q46.sx.st
      go_wp2_with fail
      refine (bd _).mono ?_
      rintro e w47 ⟨rfl, g47⟩
      have q47 := q46.turn g47
      clear g47 q46
      obtain ⟨l0, l1, l2⟩ := q47.lt
      obtain ⟨⟨x0, x1, x2, x3, x4⟩, xf⟩ := five q47.sx.st
      go_wp2_with fail
      refine (bz _).mono ?_
      rintro e w48 ⟨rfl, g48⟩
      have q48 := q47.turn g48
      clear g48 q47
      obtain ⟨l0, l1, l2⟩ := q48.lt
      obtain ⟨⟨x0, x1, x2, x3, x4⟩, xf⟩ := five q48.sx.st
      go_wp2_with fail
      refine (k35 _).mono ?_
      rintro e w49 ⟨rfl, g49⟩
      have q49 := q48.turn g49
      clear g49 q48
      obtain ⟨l0, l1, l2⟩ := q49.lt
      obtain ⟨⟨x0, x1, x2, x3, x4⟩, xf⟩ := five q49.sx.st
      go_wp2_with fail
      refine (k34 _).mono ?_
      rintro e w50 ⟨rfl, g50⟩
      have q50 := q49.turn g50
      clear g50 q49
      obtain ⟨l0, l1, l2⟩ := q50.lt
      obtain ⟨⟨x0, x1, x2, x3, x4⟩, xf⟩ := five q50.sx.st
      go_wp2_with fail
      refine (k123 _).mono ?_
      rintro e w51 ⟨rfl, g51⟩
      have q51 := q50.turn g51
      clear g51 q50
      obtain ⟨l0, l1, l2⟩ := q51.lt
      obtain ⟨⟨x0, x1, x2, x3, x4⟩, xf⟩ := five q51.sx.st
      go_wp2_with fail
      refine (k91 _).mono ?_
      rintro e w52 ⟨rfl, g52⟩
      have q52 := q51.turn g52
      clear g52 q51
      obtain ⟨l0, l1, l2⟩ := q52.lt
      obtain ⟨⟨x0, x1, x2, x3, x4⟩, xf⟩ := five q52.sx.st
      go_wp2_with fail
      refine (fail_new s i (n + 1) a (i : Int) 41 _).mono ?_
      rintro e w53 ⟨rfl, g53⟩
      have q53 := q52.turn g53
      clear g53 q52
      obtain ⟨l0, l1, l2⟩ := q53.lt
      obtain ⟨⟨x0, x1, x2, x3, x4⟩, xf⟩ := five q53.sx.st
      obtain ⟨⟨y0, y1, y2, y3, y4⟩, yf⟩ := five q53.sx.out
      obtain ⟨⟨z0, z1, z2, z3, z4, z5, z6, z7, z8⟩, zf⟩ := nine q53.tm
      go_wp2_with fail
      exact bodyPost_ret (v := .tuple #[sv s i (n + 1) 41 (i : Int), lf 0 0 0 0 e0 0 0 0]) (by simp [results, Tryz.results17, go_sem, y0, y1, y2, y3, y4, z0, z1, z2, z3, z4, z5, z6, z7, z8, l0, l1, l2]) rfl ⟨_, _, rfl, by decide, ((q53.sx.gr.set5 (g := W.heap.size + 1) (Nat.le_succ _) _ _ _ _ _).set9 (g := W.heap.size + 1 + 1) (by omega) _ _ _ _ _ _ _ _ _)⟩
end Go.Proofs.YtdmichjhmfinpaaGreatDoor
