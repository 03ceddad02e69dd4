/-
  The reference's reader: bytes within quotes.
-/
import Derived.Test.YtdmichjhmfinpaaGreatDoorAJ
set_option linter.unusedVariables false
set_option linter.unusedSimpArgs false
namespace Go.Proofs.YtdmichjhmfinpaaGreatDoor
open Go.RowKit Go.Maps

/-- A state of the reference's, blocks for the answer, and a row of bytes of the call's own. -/
structure Sq (W : World) (N : Nat) (s : ByteArray) (i n : Nat) (c a : Int) (u : Value) (l : List Int) (X : World) : Prop where
  sy : Sy W N s i n c a X
  row : X.ownsRow (N + 3) 5 1 u l.length (l.map (Value.int .u8))
section
variable {W : World} {N : Nat} {s : ByteArray} {i n : Nat} {c a : Int} {u : Value} {l : List Int} {X X' : World}
theorem Sq.turn (h : Sq W N s i n c a u l X) (g : Gr (fun _ => False) X X') : Sq W N s i n c a u l X' := ⟨h.sy.turn g, ownsRow_gr h.row g (fun _ _ e => e)⟩
theorem Sq.set (hN : W.heap.size ≤ N) (h : Sq W N s i n c a u l X) (i' n' : Nat) (c' a' : Int) :
    Sq W N s i' n' c' a' u l (((((X.setCell ⟨N, 0, none⟩ (.string s)).setCell ⟨N, 1, none⟩ (.int .i64 (i' : Int))).setCell ⟨N, 2, none⟩ (.int .i64 (n' : Int))).setCell ⟨N, 3, none⟩ (.int .i64 c')).setCell ⟨N, 4, none⟩ (.int .i64 a')) :=
  ⟨h.sy.set hN i' n' c' a', ownsRow_gr h.row (Gr.own5 X N _ _ _ _ _) (fun k h e => by omega)⟩
theorem Sq.inc (hN : W.heap.size ≤ N) (h : Sq W N s i n c a u l X) : Sq W N s (i + 1) n c a u l (X.setCell ⟨N, 1, none⟩ (.int .i64 ((i : Int) + 1))) :=
  ⟨⟨⟨heap_setCell_same X _ 1 _ 53 _ h.sy.sx.st, (own1 X N 1 _).keep h.sy.sx.out (by omega), h.sy.sx.gr.setNew hN⟩, (own1 X N 1 _).keep h.sy.tm (by omega)⟩, ownsRow_gr h.row (own1 X N 1 _) (fun k h e => by omega)⟩
theorem Sq.two (hN : W.heap.size ≤ N) (h : Sq W N s i n c a u l X) (m : Nat) (z : Int) (hz : z = (m : Int)) : Sq W N s (i + 1) m c a u l ((X.setCell ⟨N, 1, none⟩ (.int .i64 ((i : Int) + 1))).setCell ⟨N, 2, none⟩ (.int .i64 z)) := by
  subst hz
  have k := h.inc hN
  exact ⟨⟨⟨heap_setCell_same _ _ 2 _ 53 _ k.sy.sx.st, (own1 _ N 2 _).keep k.sy.sx.out (by omega), k.sy.sx.gr.setNew hN⟩, (own1 _ N 2 _).keep k.sy.tm (by omega)⟩, ownsRow_gr k.row (own1 _ N 2 _) (fun k h e => by omega)⟩
theorem Sq.far (hN : W.heap.size ≤ N) (h : Sq W N s i n c a u l X) (g : Gr (fun k => N + 3 ≤ k) X X') (hr : X'.ownsRow (N + 3) 5 1 u l.length (l.map (Value.int .u8))) : Sq W N s i n c a u l X' :=
  ⟨⟨⟨g.keep h.sy.sx.st (by omega), g.keep h.sy.sx.out (by omega), h.sy.sx.gr.trans' g (fun i hi e => absurd e (by omega))⟩, g.keep h.sy.tm (by omega)⟩, hr⟩
theorem Sq.app (hN : W.heap.size ≤ N) (h : Sq W N s i n c a u l X) {v' : Value} {o : Obj} {x : Int} (hr : X'.ownsRow (N + 3) 5 1 v' (l.length + 1) (l.map (Value.int .u8) ++ [.int .u8 x])) (hg : (X.alloc o).grownBy X' u.ownBlock) : Sq W N s i n c a v' (l ++ [x]) X' := by
  have g : Gr (fun k => N + 3 ≤ k) X X' := (Gr.alloc X o _).trans (Gr.of_grown hg (fun z e => (ownsRow_lt h.row z e).1))
  refine ⟨⟨⟨g.keep h.sy.sx.st (by omega), g.keep h.sy.sx.out (by omega), h.sy.sx.gr.trans' g (fun i hi e => absurd e (by omega))⟩, g.keep h.sy.tm (by omega)⟩, ?_⟩
  simpa using hr
theorem Sq.size (h : Sq W N s i n c a u l X) : N + 3 ≤ X.heap.size := h.sy.lt.2.2
end
theorem Sq.over {W : World} {N : Nat} {s : ByteArray} {i n : Nat} {c a : Int} {u : Value} {l : List Int} {X : World} (hN : W.heap.size ≤ N) (h : Sq W N s i n c a u l X) {g : Nat} (hg : N + 3 ≤ g) (hu : ∀ k, u.ownBlock = some k → k < g) (v0 v1 v2 v3 v4 : Value) :
    Sq W N s i n c a u l (((((X.setCell ⟨g, 0, none⟩ v0).setCell ⟨g, 1, none⟩ v1).setCell ⟨g, 2, none⟩ v2).setCell ⟨g, 3, none⟩ v3).setCell ⟨g, 4, none⟩ v4) :=
  h.far hN ((Gr.own5 X g v0 v1 v2 v3 v4).mono (fun i _ e => by omega)) (ownsRow_of_block h.row (fun k h1 h2 => (Gr.own5 X g v0 v1 v2 v3 v4).block k (ownsRow_lt h.row k h2).2 (by have := hu k h2; omega)))
theorem cell_one_at (X : World) (N : Nat) (v : Value) (t : TypeId) (h : X.heap.size = N) : ∀ (j : Nat) (u : Value), [v][j]? = some u → (X.alloc (.cells #[v] t)).cell? ((⟨N, 0, none⟩ : Addr).add j) = some u := by
  subst h; exact cell_one_new _ _ _
/-- Where a state stands. -/
def stAt (X : World) (N : Nat) : Nat := match X.cell? ⟨N, 1, none⟩ with
  | some (.int _ j) => j.toNat
  | _ => 0
theorem Sq.stAt {W : World} {N : Nat} {s : ByteArray} {i n : Nat} {c a : Int} {u : Value} {l : List Int} {X : World} (h : Sq W N s i n c a u l X) : Go.Proofs.YtdmichjhmfinpaaGreatDoor.stAt X N = i := by
  obtain ⟨⟨x0, x1, x2, x3, x4⟩, xf⟩ := five h.sy.sx.st
  simp only [Go.Proofs.YtdmichjhmfinpaaGreatDoor.stAt, x1, Int.toNat_natCast]

abbrev stv (s : ByteArray) (i n c a : Int) : Value := .agg #[.string s, .int .i64 i, .int .i64 n, .int .i64 c, .int .i64 a]
set_option maxRecDepth 20000 in
theorem fail_any (s : ByteArray) (i n a p c : Int) (W : World) : Calls Tryz.prog 18 #[stv s i n 0 a, .int .i64 p, .int .i64 c] W fun e w' => e = .returned (stv s i n c p) ∧ Gr (fun _ => False) W w' := by
  go_enter Tryz.func18, Tryz.ntmps18
  go_wp2
  exact bodyPost_ret (v := stv s i n c p) (by simp [results, Tryz.results18, go_sem]) rfl ⟨rfl, (Gr.alloc _ _ _).trans (Gr.alloc _ _ _)⟩
/-- A row that lies behind the blocks of an answer stays as they are written. -/
theorem turn14 (X : World) (g M B : Nat) (h1 : g + 1 < M) (h2 : B ≤ M) (v0 v1 v2 v3 v4 u0 u1 u2 u3 u4 u5 u6 u7 u8 : Value) : Turn (fun k => M ≤ k) (fun k => B ≤ k) X
    ((((((((((((((X.setCell ⟨g, 0, none⟩ v0).setCell ⟨g, 1, none⟩ v1).setCell ⟨g, 2, none⟩ v2).setCell ⟨g, 3, none⟩ v3).setCell ⟨g, 4, none⟩ v4).setCell ⟨g + 1, 0, none⟩ u0).setCell ⟨g + 1, 1, none⟩ u1).setCell ⟨g + 1, 2, none⟩ u2).setCell ⟨g + 1, 3, none⟩ u3).setCell ⟨g + 1, 4, none⟩ u4).setCell ⟨g + 1, 5, none⟩ u5).setCell ⟨g + 1, 6, none⟩ u6).setCell ⟨g + 1, 7, none⟩ u7).setCell ⟨g + 1, 8, none⟩ u8) := fun z hz hlt =>
  ⟨Nat.le_trans h2 hz, (((Gr.own5 X g v0 v1 v2 v3 v4).mono (S' := fun k => k < M) (fun i _ e => by omega)).trans ((Gr.own9 _ (g + 1) u0 u1 u2 u3 u4 u5 u6 u7 u8).mono (S' := fun k => k < M) (fun i _ e => by omega))).block z hlt (by omega)⟩
/-- How the reference's bytes within quotes end. -/
def EndR (W : World) (s : ByteArray) (a : Int) (e : Ending) (w' : World) : Except (Nat × Int) (List Int × Nat × Nat) → Prop
  | .ok (l, j, m) => ∃ v, e = .returned (.tuple #[sv s j m 0 a, tv 8 0 0 0 e0 0 0 0 v nl]) ∧ RowB (fun k => W.heap.size ≤ k) w' l v ∧ Gr (fun _ => False) W w'
  | .error (j, c) => ∃ i' n', e = .returned (.tuple #[sv s i' n' c (j : Int), lf 0 0 0 0 e0 0 0 0]) ∧ Gr (fun _ => False) W w'

set_option maxRecDepth 200000 in
set_option maxHeartbeats 6400000 in
theorem quoted_r (s : ByteArray) (hs : s.size ≤ 65536) (i n : Nat) (a : Int) (hi : pk s i = 34) (hn : n ≤ 4096) (W : World) :
    Calls Tryz.prog 33 #[sv s i n 0 a] W fun e w' => EndR W s a e w' (qtd s i n) := by
  have hlt : i < s.size := lt_of_pk (by rw [hi]; decide)
  clear hi
  have hi2 : (i : Int) < 65536 := by omega
  have hnI : (n : Int) ≤ 4096 := by omega
  clear hn
  obtain ⟨i0, hi0, hz0, hz1, hz2⟩ := info_parts info5
  obtain ⟨r, hr⟩ : ∃ r, r = qtd s i n := ⟨_, rfl⟩
  rw [← hr]
  have Hr := Lib.hid hr
  clear hr
  replace hs := Lib.hid hs
  go_enter Tryz.func33, Tryz.ntmps33
  go_wp2_with fail
  generalize hW1 : World.alloc (World.alloc (World.alloc (World.alloc W _) _) _) _ = W1
  have b0 : Sq W W.heap.size s (i + 1) n 0 a (.slice (some ⟨W.heap.size + 1 + 1 + 1, 0, none⟩) 0 0) [] W1 := by
    subst hW1
    refine ⟨⟨⟨?_, ?_, (((Gr.alloc _ _ _).trans (Gr.alloc _ _ _)).trans (Gr.alloc _ _ _)).trans (Gr.alloc _ _ _)⟩, ?_⟩, rfl, .inr ⟨_, 0, #[], rfl, Nat.le_refl _, ?_, Nat.le_refl _, by decide, rfl, rfl⟩⟩ <;> (simp only [al, World.size_alloc]; repeat (first | rw [if_pos trivial] | rw [if_pos (by omega)] | rw [if_neg (by omega)]))
    rfl
  clear hW1
  go_loopw [5] (fun u wr => ∃ (l : List Int) (j f : Nat), j ≤ s.size ∧ ((s.size < f + j ∧ l.length ≤ j ∧ Hid (qts s (s.size + 1) (i + 1) [] = qts s f j l) ∧ Sq W W.heap.size s j n 0 a u l wr) ∨
      (Hid (qts s (s.size + 1) (i + 1) [] = .error j) ∧ Sq W W.heap.size s j n 41 (j : Int) u l wr))) (fun _ wr => s.size - stAt wr W.heap.size)
  case atStart => exact ⟨[], i + 1, s.size + 1, by omega, .inl ⟨by omega, by simp, rfl, b0⟩⟩
  case round =>
    clear b0
    obtain ⟨l, j, f, hj, ⟨hf, hlj, Hq, q0⟩ | ⟨He, q0⟩⟩ := hrel
    case inr =>
      have e : r = .error (j, 41) := by rw [Hr.out, qtd, He.out]
      subst e
      obtain ⟨l0, l1, l2⟩ := q0.sy.lt
      obtain ⟨⟨x0, x1, x2, x3, x4⟩, xf⟩ := five q0.sy.sx.st
      obtain ⟨⟨y0, y1, y2, y3, y4⟩, yf⟩ := five q0.sy.sx.out
      obtain ⟨⟨z0, z1, z2, z3, z4, z5, z6, z7, z8⟩, zf⟩ := nine q0.sy.tm
      go_wp2_with fail
      exact bodyPost_ret (v := .tuple #[sv s j n 41 (j : Int), lf 0 0 0 0 e0 0 0 0]) (by simp [results, Tryz.results33, go_sem, y0, y1, y2, y3, y4, z0, z1, z2, z3, z4, z5, z6, z7, z8, l0, l1, l2]) rfl ⟨j, n, rfl, ((q0.sy.sx.gr.set5 (g := W.heap.size + 1) (Nat.le_succ _) _ _ _ _ _).set9 (g := W.heap.size + 1 + 1) (by omega) _ _ _ _ _ _ _ _ _)⟩
    have Hat := Lib.hid q0.stAt
    have hsz := q0.size
    have hlJ : (l.length : Int) ≤ 65536 := by have := hs.out; omega
    obtain ⟨f, rfl⟩ : ∃ g, f = g + 1 := ⟨f - 1, by omega⟩
    obtain ⟨x, hx⟩ : ∃ x, pk s j = x := ⟨_, rfl⟩
    have Hx := Lib.hid hx
    have c34 := fun W => is_c s j n a 34 (by decide) W
    have c92 := fun W => is_c s j n a 92 (by decide) W
    have cbt := fun W => between_c s j n a 32 126 (by decide) W
    rw [hx] at c34 c92 cbt
    clear hx
    by_cases h3 : x = 34
    · have hltj : j < s.size := lt_of_pk (by rw [Hx.out, h3]; decide)
      have hj2 : (j : Int) < 65536 := by have := hs.out; omega
      have he : Hid (r = if 4096 < n + l.length then .error (i, 21) else .ok (l, j + 1, n + l.length)) := by
        show r = _
        rw [Hr.out, qtd, Hq.out, qts, if_pos (by rw [Hx.out, h3])]
      subst h3
      clear c92 cbt
      rw [show ((34 : Int) == 34) = true by decide] at c34
      obtain ⟨ad, cap, rfl⟩ := ownsRow_sv q0.row
      obtain ⟨l0, l1, l2⟩ := q0.sy.lt
      obtain ⟨⟨x0, x1, x2, x3, x4⟩, xf⟩ := five q0.sy.sx.st
      go_wp2_with fail
      refine (c34 _).mono ?_
      rintro e w1 ⟨rfl, g1⟩
      have q1 := q0.turn g1
      clear g1 q0
      obtain ⟨l0, l1, l2⟩ := q1.sy.lt
      obtain ⟨⟨x0, x1, x2, x3, x4⟩, xf⟩ := five q1.sy.sx.st
      obtain ⟨m, hm⟩ : ∃ m, n + l.length = m := ⟨_, rfl⟩
      obtain ⟨z, hz⟩ : ∃ z : Int, (n : Int) + (l.length : Int) = z := ⟨_, rfl⟩
      have hzl : 0 ≤ z := by omega
      have hzb : z ≤ 100000 := by omega
      have hmz : z = (m : Int) := by omega
      have p2 := q1.two (Nat.le_refl _) m z hmz
      have Hmz := Lib.hid hmz
      rw [hm] at he
      clear hm hlj hf
      by_cases h7 : 4096 < m
      · have h8 : 4096 < z := by omega
        have e : r = .error (i, 21) := by rw [he.out, if_pos h7]
        subst e
        clear h7 hnI he hmz
        go_wp2_with fail
        refine (fail_any s ((j + 1 : Nat) : Int) z a (i : Int) 21 _).mono ?_
        rintro e w2 ⟨rfl, g2⟩
        have q2 := p2.turn g2
        clear g2 
        obtain ⟨l0, l1, l2⟩ := q2.sy.lt
        obtain ⟨⟨y0, y1, y2, y3, y4⟩, yf⟩ := five q2.sy.sx.out
        obtain ⟨⟨z0, z1, z2, z3, z4, z5, z6, z7, z8⟩, zf⟩ := nine q2.sy.tm
        go_wp2_with fail
        exact bodyPost_ret (v := .tuple #[stv s ((j + 1 : Nat) : Int) z 21 (i : Int), lf 0 0 0 0 e0 0 0 0]) (by simp [results, Tryz.results33, go_sem, y0, y1, y2, y3, y4, z0, z1, z2, z3, z4, z5, z6, z7, z8, l0, l1, l2]) rfl ⟨j + 1, m, by rw [Hmz.out], ((q2.sy.sx.gr.set5 (g := W.heap.size + 1) (Nat.le_succ _) _ _ _ _ _).set9 (g := W.heap.size + 1 + 1) (by omega) _ _ _ _ _ _ _ _ _)⟩
      · have h8 : decide (4096 < z) = false := by simp; omega
        have e : r = .ok (l, j + 1, m) := by rw [he.out, if_neg h7]
        subst e
        clear h7 hnI he hmz
        obtain ⟨l0, l1, l2⟩ := q1.sy.lt
        obtain ⟨⟨x0, x1, x2, x3, x4⟩, xf⟩ := five q1.sy.sx.st
        obtain ⟨⟨y0, y1, y2, y3, y4⟩, yf⟩ := five q1.sy.sx.out
        obtain ⟨⟨z0, z1, z2, z3, z4, z5, z6, z7, z8⟩, zf⟩ := nine q1.sy.tm
        go_wp2_with fail
        exact bodyPost_ret (v := .tuple #[stv s ((j + 1 : Nat) : Int) z 0 a, tv 8 0 0 0 e0 0 0 0 (.slice ad l.length cap) nl]) (by simp [results, Tryz.results33, go_sem, y0, y1, y2, y3, y4, z0, z1, z2, z3, z4, z5, z6, z7, z8, l0, l1, l2]) rfl ⟨_, by rw [Hmz.out], (rowB_own p2.row).turn (turn14 _ (W.heap.size + 1) (W.heap.size + 3) W.heap.size (by omega) (by omega) _ _ _ _ _ _ _ _ _ _ _ _ _ _), ((p2.sy.sx.gr.set5 (g := W.heap.size + 1) (Nat.le_succ _) _ _ _ _ _).set9 (g := W.heap.size + 1 + 1) (by omega) _ _ _ _ _ _ _ _ _)⟩
    have he : Hid (qts s (s.size + 1) (i + 1) [] = match one s j with | .error k => .error k | .ok (c, k) => qts s f k (l ++ [c])) := by
      show _ = _
      rw [Hq.out, qts, if_neg (by rw [Hx.out]; exact h3)]
      rfl
    rw [show (x == 34) = false by simpa using h3] at c34
    clear h3
    by_cases h4 : x = 92
    case neg =>
      rw [show (x == 92) = false by simpa using h4] at c92
      cases h5 : btw x 32 126 with
      | false =>
        rw [h5] at cbt
        have e : r = .error (j, 41) := by
          rw [Hr.out, qtd, he.out, one, if_pos]
          rw [Hx.out, shw]; simp [btw] at h5; simp; omega
        subst e
        clear h5 h4
        obtain ⟨l0, l1, l2⟩ := q0.sy.lt
        obtain ⟨⟨x0, x1, x2, x3, x4⟩, xf⟩ := five q0.sy.sx.st
        go_wp2_with fail
        refine (c34 _).mono ?_
        rintro e w3 ⟨rfl, g3⟩
        have q3 := q0.turn g3
        clear g3 q0
        obtain ⟨l0, l1, l2⟩ := q3.sy.lt
        obtain ⟨⟨x0, x1, x2, x3, x4⟩, xf⟩ := five q3.sy.sx.st
        go_wp2_with fail
        refine (c92 _).mono ?_
        rintro e w4 ⟨rfl, g4⟩
        have q4 := q3.turn g4
        clear g4 q3
        obtain ⟨l0, l1, l2⟩ := q4.sy.lt
        obtain ⟨⟨x0, x1, x2, x3, x4⟩, xf⟩ := five q4.sy.sx.st
        go_wp2_with fail
        refine (cbt _).mono ?_
        rintro e w5 ⟨rfl, g5⟩
        have q5 := q4.turn g5
        clear g5 q4
        obtain ⟨l0, l1, l2⟩ := q5.sy.lt
        obtain ⟨⟨x0, x1, x2, x3, x4⟩, xf⟩ := five q5.sy.sx.st
        go_wp2_with fail
        refine (fail_new s j n a (j : Int) 41 _).mono ?_
        rintro e w6 ⟨rfl, g6⟩
        have q6 := q5.turn g6
        clear g6 q5
        obtain ⟨l0, l1, l2⟩ := q6.sy.lt
        obtain ⟨⟨x0, x1, x2, x3, x4⟩, xf⟩ := five q6.sy.sx.st
        obtain ⟨⟨y0, y1, y2, y3, y4⟩, yf⟩ := five q6.sy.sx.out
        obtain ⟨⟨z0, z1, z2, z3, z4, z5, z6, z7, z8⟩, zf⟩ := nine q6.sy.tm
        go_wp2_with fail
        exact bodyPost_ret (v := .tuple #[sv s j n 41 (j : Int), lf 0 0 0 0 e0 0 0 0]) (by simp [results, Tryz.results33, go_sem, y0, y1, y2, y3, y4, z0, z1, z2, z3, z4, z5, z6, z7, z8, l0, l1, l2]) rfl ⟨_, _, rfl, ((q6.sy.sx.gr.set5 (g := W.heap.size + 1) (Nat.le_succ _) _ _ _ _ _).set9 (g := W.heap.size + 1 + 1) (by omega) _ _ _ _ _ _ _ _ _)⟩
      | true =>
        rw [h5] at cbt
        have hsh : shw x = true := by simp [btw] at h5; simp [shw]; omega
        have ho : one s j = .ok (x, j + 1) := by rw [one, if_neg (by rw [Hx.out, hsh]; decide), if_neg (by rw [Hx.out]; exact h4), Hx.out]
        rw [ho] at he
        have hltj : j < s.size := lt_of_pk (by rw [Hx.out]; intro e; rw [e] at hsh; cases hsh)
        have hj2 : (j : Int) < 65536 := by have := hs.out; omega
        have hix := ix s j hltj
        rw [show bt s j = x by have := Hx.out; rw [pk, if_pos hltj] at this; exact this] at hix
        clear h5 h4 hsh ho
        obtain ⟨l0, l1, l2⟩ := q0.sy.lt
        obtain ⟨⟨x0, x1, x2, x3, x4⟩, xf⟩ := five q0.sy.sx.st
        go_wp2_with fail
        refine (c34 _).mono ?_
        rintro e w7 ⟨rfl, g7⟩
        have q7 := q0.turn g7
        clear g7 q0
        obtain ⟨l0, l1, l2⟩ := q7.sy.lt
        obtain ⟨⟨x0, x1, x2, x3, x4⟩, xf⟩ := five q7.sy.sx.st
        go_wp2_with fail
        refine (c92 _).mono ?_
        rintro e w8 ⟨rfl, g8⟩
        have q8 := q7.turn g8
        clear g8 q7
        obtain ⟨l0, l1, l2⟩ := q8.sy.lt
        obtain ⟨⟨x0, x1, x2, x3, x4⟩, xf⟩ := five q8.sy.sx.st
        go_wp2_with fail
        refine (cbt _).mono ?_
        rintro e w9 ⟨rfl, g9⟩
        have q9 := q8.turn g9
        clear g9 q8
        obtain ⟨l0, l1, l2⟩ := q9.sy.lt
        obtain ⟨⟨x0, x1, x2, x3, x4⟩, xf⟩ := five q9.sy.sx.st
        go_wp2_with (first
          | (at_builtin; refine wpList_own _ rfl 28 _ _ rfl (W.heap.size + 3) 5 i0 (.int .u8 0) 1 1 Tryz.underlying28 hi0 hz0 hz1 hz2 rfl (by decide) u5 l.length (l.map (Value.int .u8)) ⟨w9.heap.size, 0, none⟩ 1 1 [.int .u8 x] rfl rfl (q9.row.alloc _) rfl (cell_one_new _ _ _) (by simp [Value.oneCell']) (by unfold maxLen; omega) (by omega) (by have := q9.size; simp; omega) ?_; intro v' w5 hrow5 hgr5; have a5 := q9.app (Nat.le_refl _) hrow5 hgr5; obtain ⟨⟨x0, x1, x2, x3, x4⟩, xf⟩ := five a5.sy.sx.st))
        have a6 := a5.inc (Nat.le_refl _)
        exact ⟨⟨l ++ [x], j + 1, f, by omega, .inl ⟨by omega, by simp; omega, he, a6⟩⟩, by rw [a6.stAt, Hat.out]; omega⟩
    subst h4
    rw [show ((92 : Int) == 92) = true by decide] at c92
    have hltj : j < s.size := lt_of_pk (by rw [Hx.out]; decide)
    have hj2 : (j : Int) < 65536 := by have := hs.out; omega
    have ho : one s j = esc s (j + 1) := by rw [one, if_neg (by rw [Hx.out]; decide), if_pos Hx.out]
    rw [ho] at he
    clear ho cbt
    obtain ⟨y, hy⟩ : ∃ y, pk s (j + 1) = y := ⟨_, rfl⟩
    have Hy := Lib.hid hy
    have d34 := fun W => is_c s (j + 1) n a 34 (by decide) W
    have d92 := fun W => is_c s (j + 1) n a 92 (by decide) W
    rw [hy] at d34 d92
    clear hy
    by_cases h5 : y = 34
    case pos =>
      rw [show (y == 34) = true by simpa using h5] at d34
      have hlt2 : j + 1 < s.size := lt_of_pk (by rw [Hy.out, h5]; decide)
      have hj3 : ((j + 1 : Nat) : Int) < 65536 := by have := hs.out; omega
      have ho : esc s (j + 1) = .ok (y, j + 1 + 1) := by rw [esc, if_pos (by rw [Hy.out]; simp [h5]), Hy.out]
      rw [ho] at he
      have hix := ix s (j + 1) hlt2
      rw [show bt s (j + 1) = y by have := Hy.out; rw [pk, if_pos hlt2] at this; exact this] at hix
      clear ho h5
      obtain ⟨l0, l1, l2⟩ := q0.sy.lt
      obtain ⟨⟨x0, x1, x2, x3, x4⟩, xf⟩ := five q0.sy.sx.st
      go_wp2_with fail
      refine (c34 _).mono ?_
      rintro e w10 ⟨rfl, g10⟩
      have q10 := q0.turn g10
      clear g10 q0
      obtain ⟨l0, l1, l2⟩ := q10.sy.lt
      obtain ⟨⟨x0, x1, x2, x3, x4⟩, xf⟩ := five q10.sy.sx.st
      go_wp2_with fail
      refine (c92 _).mono ?_
      rintro e w11 ⟨rfl, g11⟩
      have q11 := q10.turn g11
      clear g11 q10
      obtain ⟨l0, l1, l2⟩ := q11.sy.lt
      obtain ⟨⟨x0, x1, x2, x3, x4⟩, xf⟩ := five q11.sy.sx.st
      have p12 := q11.inc (Nat.le_refl _)
      go_wp2_with fail
      refine (d34 _).mono ?_
      rintro e w13 ⟨rfl, g13⟩
      have q13 := p12.turn g13
      clear g13
      obtain ⟨k, hk⟩ : ∃ k, j + 1 = k := ⟨_, rfl⟩
      rw [hk] at q13 d92 hix hj3 hlt2 he
      have Hk := Lib.hid hk
      clear hk
      obtain ⟨l0, l1, l2⟩ := q13.sy.lt
      obtain ⟨⟨x0, x1, x2, x3, x4⟩, xf⟩ := five q13.sy.sx.st
      go_wp2_with (first
        | (at_builtin; refine wpList_own _ rfl 28 _ _ rfl (W.heap.size + 3) 5 i0 (.int .u8 0) 1 1 Tryz.underlying28 hi0 hz0 hz1 hz2 rfl (by decide) u5 l.length (l.map (Value.int .u8)) ⟨w13.heap.size, 0, none⟩ 1 1 [.int .u8 y] rfl rfl (q13.row.alloc _) rfl (cell_one_new _ _ _) (by simp [Value.oneCell']) (by unfold maxLen; omega) (by omega) (by have := q13.size; simp; omega) ?_; intro v' w5 hrow5 hgr5; have a5 := q13.app (Nat.le_refl _) hrow5 hgr5; obtain ⟨⟨x0, x1, x2, x3, x4⟩, xf⟩ := five a5.sy.sx.st))
      have a6 := a5.inc (Nat.le_refl _)
      have hk := Hk.out
      exact ⟨⟨l ++ [y], k + 1, f, by omega, .inl ⟨by omega, by simp; omega, he, a6⟩⟩, by rw [a6.stAt, Hat.out]; omega⟩
    rw [show (y == 34) = false by simpa using h5] at d34
    by_cases h6 : y = 92
    case pos =>
      rw [show (y == 92) = true by simpa using h6] at d92
      clear h5
      have hlt2 : j + 1 < s.size := lt_of_pk (by rw [Hy.out, h6]; decide)
      have hj3 : ((j + 1 : Nat) : Int) < 65536 := by have := hs.out; omega
      have ho : esc s (j + 1) = .ok (y, j + 1 + 1) := by rw [esc, if_pos (by rw [Hy.out]; simp [h6]), Hy.out]
      rw [ho] at he
      have hix := ix s (j + 1) hlt2
      rw [show bt s (j + 1) = y by have := Hy.out; rw [pk, if_pos hlt2] at this; exact this] at hix
      clear ho h6
      obtain ⟨l0, l1, l2⟩ := q0.sy.lt
      obtain ⟨⟨x0, x1, x2, x3, x4⟩, xf⟩ := five q0.sy.sx.st
      go_wp2_with fail
      refine (c34 _).mono ?_
      rintro e w14 ⟨rfl, g14⟩
      have q14 := q0.turn g14
      clear g14 q0
      obtain ⟨l0, l1, l2⟩ := q14.sy.lt
      obtain ⟨⟨x0, x1, x2, x3, x4⟩, xf⟩ := five q14.sy.sx.st
      go_wp2_with fail
      refine (c92 _).mono ?_
      rintro e w15 ⟨rfl, g15⟩
      have q15 := q14.turn g15
      clear g15 q14
      obtain ⟨l0, l1, l2⟩ := q15.sy.lt
      obtain ⟨⟨x0, x1, x2, x3, x4⟩, xf⟩ := five q15.sy.sx.st
      have p16 := q15.inc (Nat.le_refl _)
      go_wp2_with fail
      refine (d34 _).mono ?_
      rintro e w17 ⟨rfl, g17⟩
      have q17 := p16.turn g17
      clear g17
      obtain ⟨k, hk⟩ : ∃ k, j + 1 = k := ⟨_, rfl⟩
      rw [hk] at q17 d92 hix hj3 hlt2 he
      have Hk := Lib.hid hk
      clear hk
      obtain ⟨l0, l1, l2⟩ := q17.sy.lt
      obtain ⟨⟨x0, x1, x2, x3, x4⟩, xf⟩ := five q17.sy.sx.st
      go_wp2_with fail
      refine (d92 _).mono ?_
      rintro e w18 ⟨rfl, g18⟩
      have q18 := q17.turn g18
      clear g18 q17
      obtain ⟨l0, l1, l2⟩ := q18.sy.lt
      obtain ⟨⟨x0, x1, x2, x3, x4⟩, xf⟩ := five q18.sy.sx.st
      go_wp2_with (first
        | (at_builtin; refine wpList_own _ rfl 28 _ _ rfl (W.heap.size + 3) 5 i0 (.int .u8 0) 1 1 Tryz.underlying28 hi0 hz0 hz1 hz2 rfl (by decide) u5 l.length (l.map (Value.int .u8)) ⟨w18.heap.size, 0, none⟩ 1 1 [.int .u8 y] rfl rfl (q18.row.alloc _) rfl (cell_one_new _ _ _) (by simp [Value.oneCell']) (by unfold maxLen; omega) (by omega) (by have := q18.size; simp; omega) ?_; intro v' w5 hrow5 hgr5; have a5 := q18.app (Nat.le_refl _) hrow5 hgr5; obtain ⟨⟨x0, x1, x2, x3, x4⟩, xf⟩ := five a5.sy.sx.st))
      have a6 := a5.inc (Nat.le_refl _)
      have hk := Hk.out
      exact ⟨⟨l ++ [y], k + 1, f, by omega, .inl ⟨by omega, by simp; omega, he, a6⟩⟩, by rw [a6.stAt, Hat.out]; omega⟩
    rw [show (y == 92) = false by simpa using h6] at d92
    by_cases h7 : y = 120
    case neg =>
      have dno := fun W => want_no s (j + 1) n a 120 (by decide) (by rw [Hy.out]; exact h7) W
      have e : r = .error (j + 1, 41) := by rw [Hr.out, qtd, he.out, esc, if_neg (by rw [Hy.out]; simp [h5, h6]), if_neg (by rw [Hy.out]; exact h7)]
      subst e
      clear h5 h6 h7
      obtain ⟨l0, l1, l2⟩ := q0.sy.lt
      obtain ⟨⟨x0, x1, x2, x3, x4⟩, xf⟩ := five q0.sy.sx.st
      go_wp2_with fail
      refine (c34 _).mono ?_
      rintro e w19 ⟨rfl, g19⟩
      have q19 := q0.turn g19
      clear g19 q0
      obtain ⟨l0, l1, l2⟩ := q19.sy.lt
      obtain ⟨⟨x0, x1, x2, x3, x4⟩, xf⟩ := five q19.sy.sx.st
      go_wp2_with fail
      refine (c92 _).mono ?_
      rintro e w20 ⟨rfl, g20⟩
      have q20 := q19.turn g20
      clear g20 q19
      obtain ⟨l0, l1, l2⟩ := q20.sy.lt
      obtain ⟨⟨x0, x1, x2, x3, x4⟩, xf⟩ := five q20.sy.sx.st
      have p21 := q20.inc (Nat.le_refl _)
      go_wp2_with fail
      refine (d34 _).mono ?_
      rintro e w22 ⟨rfl, g22⟩
      have q22 := p21.turn g22
      clear g22
      obtain ⟨l0, l1, l2⟩ := q22.sy.lt
      obtain ⟨⟨x0, x1, x2, x3, x4⟩, xf⟩ := five q22.sy.sx.st
      go_wp2_with fail
      refine (d92 _).mono ?_
      rintro e w23 ⟨rfl, g23⟩
      have q23 := q22.turn g23
      clear g23 q22
      obtain ⟨l0, l1, l2⟩ := q23.sy.lt
      obtain ⟨⟨x0, x1, x2, x3, x4⟩, xf⟩ := five q23.sy.sx.st
      go_wp2_with fail
      refine (dno _).mono ?_
      rintro e w24 ⟨rfl, g24⟩
      have q24 := q23.turn g24
      clear g24 q23
      obtain ⟨l0, l1, l2⟩ := q24.sy.lt
      obtain ⟨⟨x0, x1, x2, x3, x4⟩, xf⟩ := five q24.sy.sx.st
      obtain ⟨⟨y0, y1, y2, y3, y4⟩, yf⟩ := five q24.sy.sx.out
      obtain ⟨⟨z0, z1, z2, z3, z4, z5, z6, z7, z8⟩, zf⟩ := nine q24.sy.tm
      have pz := q24.set (Nat.le_refl _) (j + 1) n 41 ((j + 1 : Nat) : Int)
      go_wp2_with fail
      exact bodyPost_ret (v := .tuple #[sv s (j + 1) n 41 ((j + 1 : Nat) : Int), lf 0 0 0 0 e0 0 0 0]) (by simp [results, Tryz.results33, go_sem, y0, y1, y2, y3, y4, z0, z1, z2, z3, z4, z5, z6, z7, z8, l0, l1, l2]) rfl ⟨_, _, rfl, ((pz.sy.sx.gr.set5 (g := W.heap.size + 1) (Nat.le_succ _) _ _ _ _ _).set9 (g := W.heap.size + 1 + 1) (by omega) _ _ _ _ _ _ _ _ _)⟩
    have dys := fun W => want_yes s (j + 1) n a 120 (by decide) hs.out (by rw [Hy.out]; exact h7) W
    have ho : esc s (j + 1) = cod s (j + 1 + 1) := by rw [esc, if_neg (by rw [Hy.out]; simp [h5, h6]), if_pos (by rw [Hy.out]; exact h7)]
    rw [ho] at he
    have hlt2 : j + 1 < s.size := lt_of_pk (by rw [Hy.out, h7]; decide)
    clear ho h5 h6 h7
    obtain ⟨k, hk⟩ : ∃ k, j + 1 + 1 = k := ⟨_, rfl⟩
    rw [hk] at he dys
    have hkl : k ≤ s.size := by omega
    have hjk : j < k := by omega
    have hlk : l.length ≤ k := by omega
    have hfk : s.size < f + k := by omega
    obtain ⟨v, hv⟩ : ∃ v, pk s k = v := ⟨_, rfl⟩
    have Hv := Lib.hid hv
    have f26 := fun W => between_c s k n a 50 54 (by decide) W
    have f7 := fun W => is_c s k n a 55 (by decide) W
    rw [hv] at f26 f7
    clear hv hk
    cases h8 : btw v 50 54 with
    | true =>
      rw [h8] at f26
      have e : r = .error (k, 41) := by
        rw [Hr.out, qtd, he.out, cod, Hv.out]
        simp [btw] at h8
        rw [show hexv v = v - 48 by rw [hexv, if_pos (by omega)], if_neg (by omega), if_pos (by simp [shw]; omega)]
      subst e
      clear h8
      obtain ⟨l0, l1, l2⟩ := q0.sy.lt
      obtain ⟨⟨x0, x1, x2, x3, x4⟩, xf⟩ := five q0.sy.sx.st
      go_wp2_with fail
      refine (c34 _).mono ?_
      rintro e w25 ⟨rfl, g25⟩
      have q25 := q0.turn g25
      clear g25 q0
      obtain ⟨l0, l1, l2⟩ := q25.sy.lt
      obtain ⟨⟨x0, x1, x2, x3, x4⟩, xf⟩ := five q25.sy.sx.st
      go_wp2_with fail
      refine (c92 _).mono ?_
      rintro e w26 ⟨rfl, g26⟩
      have q26 := q25.turn g26
      clear g26 q25
      obtain ⟨l0, l1, l2⟩ := q26.sy.lt
      obtain ⟨⟨x0, x1, x2, x3, x4⟩, xf⟩ := five q26.sy.sx.st
      have p27 := q26.inc (Nat.le_refl _)
      go_wp2_with fail
      refine (d34 _).mono ?_
      rintro e w28 ⟨rfl, g28⟩
      have q28 := p27.turn g28
      clear g28
      obtain ⟨l0, l1, l2⟩ := q28.sy.lt
      obtain ⟨⟨x0, x1, x2, x3, x4⟩, xf⟩ := five q28.sy.sx.st
      go_wp2_with fail
      refine (d92 _).mono ?_
      rintro e w29 ⟨rfl, g29⟩
      have q29 := q28.turn g29
      clear g29 q28
      obtain ⟨l0, l1, l2⟩ := q29.sy.lt
      obtain ⟨⟨x0, x1, x2, x3, x4⟩, xf⟩ := five q29.sy.sx.st
      go_wp2_with fail
      refine (dys _).mono ?_
      rintro e w30 ⟨rfl, g30⟩
      have q30 := q29.turn g30
      clear g30 q29
      obtain ⟨l0, l1, l2⟩ := q30.sy.lt
      obtain ⟨⟨x0, x1, x2, x3, x4⟩, xf⟩ := five q30.sy.sx.st
      have p31 := q30.set (Nat.le_refl _) k n 0 a
      go_wp2_with fail
      refine (f26 _).mono ?_
      rintro e w32 ⟨rfl, g32⟩
      have q32 := p31.turn g32
      clear g32
      obtain ⟨l0, l1, l2⟩ := q32.sy.lt
      obtain ⟨⟨x0, x1, x2, x3, x4⟩, xf⟩ := five q32.sy.sx.st
      go_wp2_with fail
      refine (fail_new s k n a (k : Int) 41 _).mono ?_
      rintro e w33 ⟨rfl, g33⟩
      have q33 := q32.turn g33
      clear g33 q32
      obtain ⟨l0, l1, l2⟩ := q33.sy.lt
      obtain ⟨⟨x0, x1, x2, x3, x4⟩, xf⟩ := five q33.sy.sx.st
      obtain ⟨⟨y0, y1, y2, y3, y4⟩, yf⟩ := five q33.sy.sx.out
      obtain ⟨⟨z0, z1, z2, z3, z4, z5, z6, z7, z8⟩, zf⟩ := nine q33.sy.tm
      go_wp2_with fail
      exact bodyPost_ret (v := .tuple #[sv s k n 41 (k : Int), lf 0 0 0 0 e0 0 0 0]) (by simp [results, Tryz.results33, go_sem, y0, y1, y2, y3, y4, z0, z1, z2, z3, z4, z5, z6, z7, z8, l0, l1, l2]) rfl ⟨_, _, rfl, ((q33.sy.sx.gr.set5 (g := W.heap.size + 1) (Nat.le_succ _) _ _ _ _ _).set9 (g := W.heap.size + 1 + 1) (by omega) _ _ _ _ _ _ _ _ _)⟩
    | false =>
      rw [h8] at f26
      by_cases h9 : hexv v < 0
      case pos =>
        have nno := fun W => nib_no s k n a (by rw [Hv.out]; exact h9) W
        have e : qts s (s.size + 1) (i + 1) [] = .error k := by rw [he.out, cod, if_pos (by rw [Hv.out]; exact h9)]
        have He := Lib.hid e
        have h10 : (v == 55) = false := by
          simp; intro e; rw [e] at h9; exact absurd h9 (by decide)
        rw [h10] at f7
        clear e h8 h9 h10 he
        obtain ⟨l0, l1, l2⟩ := q0.sy.lt
        obtain ⟨⟨x0, x1, x2, x3, x4⟩, xf⟩ := five q0.sy.sx.st
        go_wp2_with fail
        refine (c34 _).mono ?_
        rintro e w34 ⟨rfl, g34⟩
        have q34 := q0.turn g34
        clear g34 q0
        obtain ⟨l0, l1, l2⟩ := q34.sy.lt
        obtain ⟨⟨x0, x1, x2, x3, x4⟩, xf⟩ := five q34.sy.sx.st
        go_wp2_with fail
        refine (c92 _).mono ?_
        rintro e w35 ⟨rfl, g35⟩
        have q35 := q34.turn g35
        clear g35 q34
        obtain ⟨l0, l1, l2⟩ := q35.sy.lt
        obtain ⟨⟨x0, x1, x2, x3, x4⟩, xf⟩ := five q35.sy.sx.st
        have p36 := q35.inc (Nat.le_refl _)
        go_wp2_with fail
        refine (d34 _).mono ?_
        rintro e w37 ⟨rfl, g37⟩
        have q37 := p36.turn g37
        clear g37
        obtain ⟨l0, l1, l2⟩ := q37.sy.lt
        obtain ⟨⟨x0, x1, x2, x3, x4⟩, xf⟩ := five q37.sy.sx.st
        go_wp2_with fail
        refine (d92 _).mono ?_
        rintro e w38 ⟨rfl, g38⟩
        have q38 := q37.turn g38
        clear g38 q37
        obtain ⟨l0, l1, l2⟩ := q38.sy.lt
        obtain ⟨⟨x0, x1, x2, x3, x4⟩, xf⟩ := five q38.sy.sx.st
        go_wp2_with fail
        refine (dys _).mono ?_
        rintro e w39 ⟨rfl, g39⟩
        have q39 := q38.turn g39
        clear g39 q38
        obtain ⟨l0, l1, l2⟩ := q39.sy.lt
        obtain ⟨⟨x0, x1, x2, x3, x4⟩, xf⟩ := five q39.sy.sx.st
        have p40 := q39.set (Nat.le_refl _) k n 0 a
        go_wp2_with fail
        refine (f26 _).mono ?_
        rintro e w41 ⟨rfl, g41⟩
        have q41 := p40.turn g41
        clear g41
        obtain ⟨l0, l1, l2⟩ := q41.sy.lt
        obtain ⟨⟨x0, x1, x2, x3, x4⟩, xf⟩ := five q41.sy.sx.st
        go_wp2_with fail
        refine (f7 _).mono ?_
        rintro e w42 ⟨rfl, g42⟩
        have q42 := q41.turn g42
        clear g42 q41
        obtain ⟨l0, l1, l2⟩ := q42.sy.lt
        obtain ⟨⟨x0, x1, x2, x3, x4⟩, xf⟩ := five q42.sy.sx.st
        go_wp2_with fail
        refine (nno _).mono ?_
        rintro e w43 ⟨rfl, g43⟩
        have q43 := q42.turn g43
        clear g43 q42
        obtain ⟨l0, l1, l2⟩ := q43.sy.lt
        obtain ⟨⟨x0, x1, x2, x3, x4⟩, xf⟩ := five q43.sy.sx.st
        have hu : ∀ k, u5.ownBlock = some k → k < w43.heap.size := fun k e => (ownsRow_lt q43.row k e).2
        have hyb : W.heap.size + 3 ≤ w43.heap.size := q43.size
        have p44 := q43.set (Nat.le_refl _) k n 41 (k : Int)
        have hsy : ((((((w43.setCell ⟨W.heap.size, 0, none⟩ (.string s)).setCell ⟨W.heap.size, 1, none⟩ (.int .i64 (k : Int))).setCell ⟨W.heap.size, 2, none⟩ (.int .i64 (n : Int))).setCell ⟨W.heap.size, 3, none⟩ (.int .i64 41)).setCell ⟨W.heap.size, 4, none⟩ (.int .i64 (k : Int)))).heap.size = w43.heap.size := by simp only [World.size_setCell]
        go_wp2_with fail
        generalize ((((((w43.setCell ⟨W.heap.size, 0, none⟩ (.string s)).setCell ⟨W.heap.size, 1, none⟩ (.int .i64 (k : Int))).setCell ⟨W.heap.size, 2, none⟩ (.int .i64 (n : Int))).setCell ⟨W.heap.size, 3, none⟩ (.int .i64 41)).setCell ⟨W.heap.size, 4, none⟩ (.int .i64 (k : Int)))) = W44 at p44 hsy ⊢
        have hy6 := heap_alloc_new W44 (.cells #[.string s, .int .i64 (k : Int), .int .i64 (n : Int), .int .i64 41, .int .i64 (k : Int)] 53)
        rw [hsy] at hy6
        have q44 := p44.turn (Gr.alloc W44 (.cells #[.string s, .int .i64 (k : Int), .int .i64 (n : Int), .int .i64 41, .int .i64 (k : Int)] 53) _)
        generalize W44.alloc (.cells #[.string s, .int .i64 (k : Int), .int .i64 (n : Int), .int .i64 41, .int .i64 (k : Int)] 53) = X44 at q44 hy6 ⊢
        clear p44 hsy
        generalize w43.heap.size = yb at hu hyb hy6 ⊢
        refine (nib_old s k n 41 (k : Int) (by decide) _).mono ?_
        rintro e w45 ⟨rfl, g45⟩
        replace hy6 := g45.keep hy6 (fun e => e)
        have q45 := q44.turn g45
        clear g45 q44
        have hyl := (Array.getElem?_eq_some_iff.1 hy6).1
        obtain ⟨⟨t0, t1, t2, t3, t4⟩, tf⟩ := five hy6
        obtain ⟨l0, l1, l2⟩ := q45.sy.lt
        obtain ⟨⟨x0, x1, x2, x3, x4⟩, xf⟩ := five q45.sy.sx.st
        have p9 := (q45.over (Nat.le_refl _) hyb hu (.string s) (.int .i64 (k : Int)) (.int .i64 (n : Int)) (.int .i64 41) (.int .i64 (k : Int))).set (Nat.le_refl _) k n 41 (k : Int)
        go_wp2_with fail
        exact ⟨⟨l, k, 0, hkl, .inr ⟨He, p9⟩⟩, by rw [p9.stAt, Hat.out]; omega⟩
      have h9' : 0 ≤ hexv v := by omega
      have hv2 := hexv_lt v
      have hltk : k < s.size := lt_of_hexv (by rw [Hv.out]; exact h9')
      obtain ⟨k1, hk1⟩ : ∃ k1, k + 1 = k1 := ⟨_, rfl⟩
      have hk1l : k1 ≤ s.size := by omega
      have hjk1 : j < k1 := by omega
      have hlk1 : l.length ≤ k1 := by omega
      have hfk1 : s.size < f + k1 := by omega
      obtain ⟨g, hg⟩ : ∃ g, hexv v = g := ⟨_, rfl⟩
      have hnib := fun W => nibble_ok s k n a g hs.out (by rw [Hv.out]; exact hg) (by omega) W
      rw [hk1] at hnib
      have hcd : cod s k = if shw (g * 16) = true ∧ shw (g * 16 + 15) = true then .error k
        else if hexv (pk s k1) < 0 then .error k1 else if shw (g * 16 + hexv (pk s k1)) = true then .error k1 else .ok (g * 16 + hexv (pk s k1), k1 + 1) := by
        rw [cod, Hv.out, hg, if_neg (by omega), hk1, ← hk1]
      obtain ⟨v2, hw⟩ : ∃ v2, pk s k1 = v2 := ⟨_, rfl⟩
      rw [hw] at hcd
      have Hw := Lib.hid hw
      by_cases h10 : v = 55
      case pos =>
        have hg7 : g = 7 := by rw [← hg, h10]; decide
        subst hg7
        rw [if_neg (by decide)] at hcd
        rw [show (v == 55) = true by simpa using h10] at f7
        have fF := fun W => is_c s k1 n a 102 (by decide) W
        rw [hw] at fF
        clear hw hg hk1 h8 h9 h9' hv2 h10
        by_cases h11 : v2 = 102
        case neg =>
          have e : r = .error (k1, 41) := by
            have : cod s k = .error k1 := by
              rw [hcd]
              split
              · rfl
              · rename_i hh
                rw [if_pos]
                unfold hexv at hh ⊢
                split at hh
                · rename_i h1; simp [h1, shw]; omega
                · split at hh
                  · rename_i h1 h2; simp [h1, h2, shw]; omega
                  · omega
            rw [Hr.out, qtd, he.out, this]
          subst e
          rw [show (v2 == 102) = false by simpa using h11] at fF
          clear h11 hcd
          obtain ⟨l0, l1, l2⟩ := q0.sy.lt
          obtain ⟨⟨x0, x1, x2, x3, x4⟩, xf⟩ := five q0.sy.sx.st
          go_wp2_with fail
          refine (c34 _).mono ?_
          rintro e w46 ⟨rfl, g46⟩
          have q46 := q0.turn g46
          clear g46 q0
          obtain ⟨l0, l1, l2⟩ := q46.sy.lt
          obtain ⟨⟨x0, x1, x2, x3, x4⟩, xf⟩ := five q46.sy.sx.st
          go_wp2_with fail
          refine (c92 _).mono ?_
          rintro e w47 ⟨rfl, g47⟩
          have q47 := q46.turn g47
          clear g47 q46
          obtain ⟨l0, l1, l2⟩ := q47.sy.lt
          obtain ⟨⟨x0, x1, x2, x3, x4⟩, xf⟩ := five q47.sy.sx.st
          have p48 := q47.inc (Nat.le_refl _)
          go_wp2_with fail
          refine (d34 _).mono ?_
          rintro e w49 ⟨rfl, g49⟩
          have q49 := p48.turn g49
          clear g49
          obtain ⟨l0, l1, l2⟩ := q49.sy.lt
          obtain ⟨⟨x0, x1, x2, x3, x4⟩, xf⟩ := five q49.sy.sx.st
          go_wp2_with fail
          refine (d92 _).mono ?_
          rintro e w50 ⟨rfl, g50⟩
          have q50 := q49.turn g50
          clear g50 q49
          obtain ⟨l0, l1, l2⟩ := q50.sy.lt
          obtain ⟨⟨x0, x1, x2, x3, x4⟩, xf⟩ := five q50.sy.sx.st
          go_wp2_with fail
          refine (dys _).mono ?_
          rintro e w51 ⟨rfl, g51⟩
          have q51 := q50.turn g51
          clear g51 q50
          obtain ⟨l0, l1, l2⟩ := q51.sy.lt
          obtain ⟨⟨x0, x1, x2, x3, x4⟩, xf⟩ := five q51.sy.sx.st
          have p52 := q51.set (Nat.le_refl _) k n 0 a
          go_wp2_with fail
          refine (f26 _).mono ?_
          rintro e w53 ⟨rfl, g53⟩
          have q53 := p52.turn g53
          clear g53
          obtain ⟨l0, l1, l2⟩ := q53.sy.lt
          obtain ⟨⟨x0, x1, x2, x3, x4⟩, xf⟩ := five q53.sy.sx.st
          go_wp2_with fail
          refine (f7 _).mono ?_
          rintro e w54 ⟨rfl, g54⟩
          have q54 := q53.turn g54
          clear g54 q53
          obtain ⟨l0, l1, l2⟩ := q54.sy.lt
          obtain ⟨⟨x0, x1, x2, x3, x4⟩, xf⟩ := five q54.sy.sx.st
          go_wp2_with fail
          refine (hnib _).mono ?_
          rintro e w55 ⟨rfl, g55⟩
          have q55 := q54.turn g55
          clear g55 q54
          obtain ⟨l0, l1, l2⟩ := q55.sy.lt
          obtain ⟨⟨x0, x1, x2, x3, x4⟩, xf⟩ := five q55.sy.sx.st
          have hu : ∀ k, u5.ownBlock = some k → k < w55.heap.size := fun k e => (ownsRow_lt q55.row k e).2
          have hyb : W.heap.size + 3 ≤ w55.heap.size := q55.size
          have p56 := q55.set (Nat.le_refl _) k1 n 0 a
          have hsy : ((((((w55.setCell ⟨W.heap.size, 0, none⟩ (.string s)).setCell ⟨W.heap.size, 1, none⟩ (.int .i64 (k1 : Int))).setCell ⟨W.heap.size, 2, none⟩ (.int .i64 (n : Int))).setCell ⟨W.heap.size, 3, none⟩ (.int .i64 0)).setCell ⟨W.heap.size, 4, none⟩ (.int .i64 a))).heap.size = w55.heap.size := by simp only [World.size_setCell]
          go_wp2_with fail
          generalize ((((((w55.setCell ⟨W.heap.size, 0, none⟩ (.string s)).setCell ⟨W.heap.size, 1, none⟩ (.int .i64 (k1 : Int))).setCell ⟨W.heap.size, 2, none⟩ (.int .i64 (n : Int))).setCell ⟨W.heap.size, 3, none⟩ (.int .i64 0)).setCell ⟨W.heap.size, 4, none⟩ (.int .i64 a))) = W56 at p56 hsy ⊢
          have hy6 := heap_alloc_new W56 (.cells #[.string s, .int .i64 (k1 : Int), .int .i64 (n : Int), .int .i64 0, .int .i64 a] 53)
          rw [hsy] at hy6
          have q56 := p56.turn (Gr.alloc W56 (.cells #[.string s, .int .i64 (k1 : Int), .int .i64 (n : Int), .int .i64 0, .int .i64 a] 53) _)
          generalize W56.alloc (.cells #[.string s, .int .i64 (k1 : Int), .int .i64 (n : Int), .int .i64 0, .int .i64 a] 53) = X56 at q56 hy6 ⊢
          clear p56 hsy
          generalize w55.heap.size = yb at hu hyb hy6 ⊢
          refine (fF _).mono ?_
          rintro e w57 ⟨rfl, g57⟩
          have q57 := q56.turn g57
          clear g57 q56
          obtain ⟨l0, l1, l2⟩ := q57.sy.lt
          obtain ⟨⟨x0, x1, x2, x3, x4⟩, xf⟩ := five q57.sy.sx.st
          go_wp2_with fail
          refine (fail_new s k1 n a (k1 : Int) 41 _).mono ?_
          rintro e w58 ⟨rfl, g58⟩
          have q58 := q57.turn g58
          clear g58 q57
          obtain ⟨l0, l1, l2⟩ := q58.sy.lt
          obtain ⟨⟨x0, x1, x2, x3, x4⟩, xf⟩ := five q58.sy.sx.st
          obtain ⟨⟨y0, y1, y2, y3, y4⟩, yf⟩ := five q58.sy.sx.out
          obtain ⟨⟨z0, z1, z2, z3, z4, z5, z6, z7, z8⟩, zf⟩ := nine q58.sy.tm
          go_wp2_with fail
          exact bodyPost_ret (v := .tuple #[sv s k1 n 41 (k1 : Int), lf 0 0 0 0 e0 0 0 0]) (by simp [results, Tryz.results33, go_sem, y0, y1, y2, y3, y4, z0, z1, z2, z3, z4, z5, z6, z7, z8, l0, l1, l2]) rfl ⟨_, _, rfl, ((q58.sy.sx.gr.set5 (g := W.heap.size + 1) (Nat.le_succ _) _ _ _ _ _).set9 (g := W.heap.size + 1 + 1) (by omega) _ _ _ _ _ _ _ _ _)⟩
        rw [show (v2 == 102) = true by simpa using h11] at fF
        have hnF := fun W => nibble_ok s k1 n a 15 hs.out (by rw [Hw.out, h11]; decide) (by decide) W
        have hF : cod s k = .ok (127, k1 + 1) := by rw [hcd, h11, if_neg (by decide), if_neg (by decide)]; rfl
        rw [hF] at he
        have hltk1 : k1 < s.size := lt_of_pk (by rw [Hw.out, h11]; decide)
        clear h11 hF hcd
        obtain ⟨l0, l1, l2⟩ := q0.sy.lt
        obtain ⟨⟨x0, x1, x2, x3, x4⟩, xf⟩ := five q0.sy.sx.st
        go_wp2_with fail
        refine (c34 _).mono ?_
        rintro e w59 ⟨rfl, g59⟩
        have q59 := q0.turn g59
        clear g59 q0
        obtain ⟨l0, l1, l2⟩ := q59.sy.lt
        obtain ⟨⟨x0, x1, x2, x3, x4⟩, xf⟩ := five q59.sy.sx.st
        go_wp2_with fail
        refine (c92 _).mono ?_
        rintro e w60 ⟨rfl, g60⟩
        have q60 := q59.turn g60
        clear g60 q59
        obtain ⟨l0, l1, l2⟩ := q60.sy.lt
        obtain ⟨⟨x0, x1, x2, x3, x4⟩, xf⟩ := five q60.sy.sx.st
        have p61 := q60.inc (Nat.le_refl _)
        go_wp2_with fail
        refine (d34 _).mono ?_
        rintro e w62 ⟨rfl, g62⟩
        have q62 := p61.turn g62
        clear g62
        obtain ⟨l0, l1, l2⟩ := q62.sy.lt
        obtain ⟨⟨x0, x1, x2, x3, x4⟩, xf⟩ := five q62.sy.sx.st
        go_wp2_with fail
        refine (d92 _).mono ?_
        rintro e w63 ⟨rfl, g63⟩
        have q63 := q62.turn g63
        clear g63 q62
        obtain ⟨l0, l1, l2⟩ := q63.sy.lt
        obtain ⟨⟨x0, x1, x2, x3, x4⟩, xf⟩ := five q63.sy.sx.st
        go_wp2_with fail
        refine (dys _).mono ?_
        rintro e w64 ⟨rfl, g64⟩
        have q64 := q63.turn g64
        clear g64 q63
        obtain ⟨l0, l1, l2⟩ := q64.sy.lt
        obtain ⟨⟨x0, x1, x2, x3, x4⟩, xf⟩ := five q64.sy.sx.st
        have p65 := q64.set (Nat.le_refl _) k n 0 a
        go_wp2_with fail
        refine (f26 _).mono ?_
        rintro e w66 ⟨rfl, g66⟩
        have q66 := p65.turn g66
        clear g66
        obtain ⟨l0, l1, l2⟩ := q66.sy.lt
        obtain ⟨⟨x0, x1, x2, x3, x4⟩, xf⟩ := five q66.sy.sx.st
        go_wp2_with fail
        refine (f7 _).mono ?_
        rintro e w67 ⟨rfl, g67⟩
        have q67 := q66.turn g67
        clear g67 q66
        obtain ⟨l0, l1, l2⟩ := q67.sy.lt
        obtain ⟨⟨x0, x1, x2, x3, x4⟩, xf⟩ := five q67.sy.sx.st
        go_wp2_with fail
        refine (hnib _).mono ?_
        rintro e w68 ⟨rfl, g68⟩
        have q68 := q67.turn g68
        clear g68 q67
        obtain ⟨l0, l1, l2⟩ := q68.sy.lt
        obtain ⟨⟨x0, x1, x2, x3, x4⟩, xf⟩ := five q68.sy.sx.st
        have hu : ∀ k, u5.ownBlock = some k → k < w68.heap.size := fun k e => (ownsRow_lt q68.row k e).2
        have hyb : W.heap.size + 3 ≤ w68.heap.size := q68.size
        have p69 := q68.set (Nat.le_refl _) k1 n 0 a
        have hsy : ((((((w68.setCell ⟨W.heap.size, 0, none⟩ (.string s)).setCell ⟨W.heap.size, 1, none⟩ (.int .i64 (k1 : Int))).setCell ⟨W.heap.size, 2, none⟩ (.int .i64 (n : Int))).setCell ⟨W.heap.size, 3, none⟩ (.int .i64 0)).setCell ⟨W.heap.size, 4, none⟩ (.int .i64 a))).heap.size = w68.heap.size := by simp only [World.size_setCell]
        go_wp2_with fail
        generalize ((((((w68.setCell ⟨W.heap.size, 0, none⟩ (.string s)).setCell ⟨W.heap.size, 1, none⟩ (.int .i64 (k1 : Int))).setCell ⟨W.heap.size, 2, none⟩ (.int .i64 (n : Int))).setCell ⟨W.heap.size, 3, none⟩ (.int .i64 0)).setCell ⟨W.heap.size, 4, none⟩ (.int .i64 a))) = W69 at p69 hsy ⊢
        have hy6 := heap_alloc_new W69 (.cells #[.string s, .int .i64 (k1 : Int), .int .i64 (n : Int), .int .i64 0, .int .i64 a] 53)
        rw [hsy] at hy6
        have q69 := p69.turn (Gr.alloc W69 (.cells #[.string s, .int .i64 (k1 : Int), .int .i64 (n : Int), .int .i64 0, .int .i64 a] 53) _)
        generalize W69.alloc (.cells #[.string s, .int .i64 (k1 : Int), .int .i64 (n : Int), .int .i64 0, .int .i64 a] 53) = X69 at q69 hy6 ⊢
        clear p69 hsy
        generalize w68.heap.size = yb at hu hyb hy6 ⊢
        refine (fF _).mono ?_
        rintro e w70 ⟨rfl, g70⟩
        replace hy6 := g70.keep hy6 (fun e => e)
        have q70 := q69.turn g70
        clear g70 q69
        obtain ⟨l0, l1, l2⟩ := q70.sy.lt
        obtain ⟨⟨x0, x1, x2, x3, x4⟩, xf⟩ := five q70.sy.sx.st
        go_wp2_with fail
        refine (hnF _).mono ?_
        rintro e w71 ⟨rfl, g71⟩
        replace hy6 := g71.keep hy6 (fun e => e)
        have q71 := q70.turn g71
        clear g71 q70
        have hyl := (Array.getElem?_eq_some_iff.1 hy6).1
        obtain ⟨⟨t0, t1, t2, t3, t4⟩, tf⟩ := five hy6
        obtain ⟨l0, l1, l2⟩ := q71.sy.lt
        obtain ⟨⟨x0, x1, x2, x3, x4⟩, xf⟩ := five q71.sy.sx.st
        have p9 := (q71.over (Nat.le_refl _) hyb hu (.string s) (.int .i64 ((k1 + 1 : Nat) : Int)) (.int .i64 (n : Int)) (.int .i64 0) (.int .i64 a)).set (Nat.le_refl _) (k1 + 1) n 0 a
        go_wp2_with (first
          | (at_builtin; refine wpList_own _ rfl 28 _ _ rfl (W.heap.size + 3) 5 i0 (.int .u8 0) 1 1 Tryz.underlying28 hi0 hz0 hz1 hz2 rfl (by decide) u5 l.length (l.map (Value.int .u8)) ⟨w71.heap.size, 0, none⟩ 1 1 [.int .u8 127] rfl rfl (p9.row.alloc _) rfl (cell_one_at _ _ _ _ (by simp only [World.size_setCell])) (by simp [Value.oneCell']) (by unfold maxLen; omega) (by omega) (by have := q71.size; simp; omega) ?_; intro v' w5 hrow5 hgr5; have a5 := p9.app (Nat.le_refl _) hrow5 hgr5))
        exact ⟨⟨l ++ [127], k1 + 1, f, by omega, .inl ⟨by omega, by simp; omega, he, a5⟩⟩, by rw [a5.stAt, Hat.out]; omega⟩
      have hg2 : g < 2 ∨ 8 ≤ g := by
        simp [btw] at h8
        rw [← hg]; rw [hexv]; rw [hexv] at h9'
        split at h9'
        · rename_i h1; rw [if_pos h1]; omega
        · rename_i h1
          rw [if_neg h1]
          split at h9'
          · rename_i h2; rw [if_pos h2]; omega
          · omega
      rw [if_neg (by simp [shw]; omega)] at hcd
      rw [show (v == 55) = false by simpa using h10] at f7
      have hg0 : 0 ≤ g := by omega
      have hg15 : g ≤ 15 := by omega
      clear hg hk1 h8 h9 h9' hv2 h10
      by_cases h11 : hexv v2 < 0
      case pos =>
        have nn := fun W => nib_no s k1 n a (by rw [Hw.out]; exact h11) W
        have e : qts s (s.size + 1) (i + 1) [] = .error k1 := by rw [he.out, hcd, if_pos h11]
        have He := Lib.hid e
        clear e h11 hcd hw he
        obtain ⟨l0, l1, l2⟩ := q0.sy.lt
        obtain ⟨⟨x0, x1, x2, x3, x4⟩, xf⟩ := five q0.sy.sx.st
        go_wp2_with fail
        refine (c34 _).mono ?_
        rintro e w72 ⟨rfl, g72⟩
        have q72 := q0.turn g72
        clear g72 q0
        obtain ⟨l0, l1, l2⟩ := q72.sy.lt
        obtain ⟨⟨x0, x1, x2, x3, x4⟩, xf⟩ := five q72.sy.sx.st
        go_wp2_with fail
        refine (c92 _).mono ?_
        rintro e w73 ⟨rfl, g73⟩
        have q73 := q72.turn g73
        clear g73 q72
        obtain ⟨l0, l1, l2⟩ := q73.sy.lt
        obtain ⟨⟨x0, x1, x2, x3, x4⟩, xf⟩ := five q73.sy.sx.st
        have p74 := q73.inc (Nat.le_refl _)
        go_wp2_with fail
        refine (d34 _).mono ?_
        rintro e w75 ⟨rfl, g75⟩
        have q75 := p74.turn g75
        clear g75
        obtain ⟨l0, l1, l2⟩ := q75.sy.lt
        obtain ⟨⟨x0, x1, x2, x3, x4⟩, xf⟩ := five q75.sy.sx.st
        go_wp2_with fail
        refine (d92 _).mono ?_
        rintro e w76 ⟨rfl, g76⟩
        have q76 := q75.turn g76
        clear g76 q75
        obtain ⟨l0, l1, l2⟩ := q76.sy.lt
        obtain ⟨⟨x0, x1, x2, x3, x4⟩, xf⟩ := five q76.sy.sx.st
        go_wp2_with fail
        refine (dys _).mono ?_
        rintro e w77 ⟨rfl, g77⟩
        have q77 := q76.turn g77
        clear g77 q76
        obtain ⟨l0, l1, l2⟩ := q77.sy.lt
        obtain ⟨⟨x0, x1, x2, x3, x4⟩, xf⟩ := five q77.sy.sx.st
        have p78 := q77.set (Nat.le_refl _) k n 0 a
        go_wp2_with fail
        refine (f26 _).mono ?_
        rintro e w79 ⟨rfl, g79⟩
        have q79 := p78.turn g79
        clear g79
        obtain ⟨l0, l1, l2⟩ := q79.sy.lt
        obtain ⟨⟨x0, x1, x2, x3, x4⟩, xf⟩ := five q79.sy.sx.st
        go_wp2_with fail
        refine (f7 _).mono ?_
        rintro e w80 ⟨rfl, g80⟩
        have q80 := q79.turn g80
        clear g80 q79
        obtain ⟨l0, l1, l2⟩ := q80.sy.lt
        obtain ⟨⟨x0, x1, x2, x3, x4⟩, xf⟩ := five q80.sy.sx.st
        go_wp2_with fail
        refine (hnib _).mono ?_
        rintro e w81 ⟨rfl, g81⟩
        have q81 := q80.turn g81
        clear g81 q80
        obtain ⟨l0, l1, l2⟩ := q81.sy.lt
        obtain ⟨⟨x0, x1, x2, x3, x4⟩, xf⟩ := five q81.sy.sx.st
        have hu : ∀ k, u5.ownBlock = some k → k < w81.heap.size := fun k e => (ownsRow_lt q81.row k e).2
        have hyb : W.heap.size + 3 ≤ w81.heap.size := q81.size
        have p82 := q81.set (Nat.le_refl _) k1 n 0 a
        have hsy : ((((((w81.setCell ⟨W.heap.size, 0, none⟩ (.string s)).setCell ⟨W.heap.size, 1, none⟩ (.int .i64 (k1 : Int))).setCell ⟨W.heap.size, 2, none⟩ (.int .i64 (n : Int))).setCell ⟨W.heap.size, 3, none⟩ (.int .i64 0)).setCell ⟨W.heap.size, 4, none⟩ (.int .i64 a))).heap.size = w81.heap.size := by simp only [World.size_setCell]
        go_wp2_with fail
        generalize ((((((w81.setCell ⟨W.heap.size, 0, none⟩ (.string s)).setCell ⟨W.heap.size, 1, none⟩ (.int .i64 (k1 : Int))).setCell ⟨W.heap.size, 2, none⟩ (.int .i64 (n : Int))).setCell ⟨W.heap.size, 3, none⟩ (.int .i64 0)).setCell ⟨W.heap.size, 4, none⟩ (.int .i64 a))) = W82 at p82 hsy ⊢
        have hy6 := heap_alloc_new W82 (.cells #[.string s, .int .i64 (k1 : Int), .int .i64 (n : Int), .int .i64 0, .int .i64 a] 53)
        rw [hsy] at hy6
        have q82 := p82.turn (Gr.alloc W82 (.cells #[.string s, .int .i64 (k1 : Int), .int .i64 (n : Int), .int .i64 0, .int .i64 a] 53) _)
        generalize W82.alloc (.cells #[.string s, .int .i64 (k1 : Int), .int .i64 (n : Int), .int .i64 0, .int .i64 a] 53) = X82 at q82 hy6 ⊢
        clear p82 hsy
        generalize w81.heap.size = yb at hu hyb hy6 ⊢
        refine (nn _).mono ?_
        rintro e w83 ⟨rfl, g83⟩
        replace hy6 := g83.keep hy6 (fun e => e)
        have q83 := q82.turn g83
        clear g83 q82
        have hyl := (Array.getElem?_eq_some_iff.1 hy6).1
        obtain ⟨⟨t0, t1, t2, t3, t4⟩, tf⟩ := five hy6
        obtain ⟨l0, l1, l2⟩ := q83.sy.lt
        obtain ⟨⟨x0, x1, x2, x3, x4⟩, xf⟩ := five q83.sy.sx.st
        have p9 := (q83.over (Nat.le_refl _) hyb hu (.string s) (.int .i64 (k1 : Int)) (.int .i64 (n : Int)) (.int .i64 41) (.int .i64 (k1 : Int))).set (Nat.le_refl _) k1 n 41 (k1 : Int)
        go_wp2_with fail
        exact ⟨⟨l, k1, 0, hk1l, .inr ⟨He, p9⟩⟩, by rw [p9.stAt, Hat.out]; omega⟩
      have hx2 := hexv_lt v2
      have hltk1 : k1 < s.size := lt_of_hexv (by rw [Hw.out]; omega)
      obtain ⟨t, ht⟩ : ∃ t, hexv v2 = t := ⟨_, rfl⟩
      have hnT := fun W => nibble_ok s k1 n a t hs.out (by rw [Hw.out]; exact ht) (by omega) W
      have hT : cod s k = .ok (16 * g + t, k1 + 1) := by
        rw [hcd, if_neg h11, ht, if_neg (by simp [shw]; omega), show g * 16 + t = 16 * g + t by omega]
      rw [hT] at he
      rw [ht] at h11 hx2
      have ht0 : 0 ≤ t := by omega
      have ht15 : t ≤ 15 := by omega
      clear h11 hcd hw hT hx2 ht
      obtain ⟨l0, l1, l2⟩ := q0.sy.lt
      obtain ⟨⟨x0, x1, x2, x3, x4⟩, xf⟩ := five q0.sy.sx.st
      go_wp2_with fail
      refine (c34 _).mono ?_
      rintro e w84 ⟨rfl, g84⟩
      have q84 := q0.turn g84
      clear g84 q0
      obtain ⟨l0, l1, l2⟩ := q84.sy.lt
      obtain ⟨⟨x0, x1, x2, x3, x4⟩, xf⟩ := five q84.sy.sx.st
      go_wp2_with fail
      refine (c92 _).mono ?_
      rintro e w85 ⟨rfl, g85⟩
      have q85 := q84.turn g85
      clear g85 q84
      obtain ⟨l0, l1, l2⟩ := q85.sy.lt
      obtain ⟨⟨x0, x1, x2, x3, x4⟩, xf⟩ := five q85.sy.sx.st
      have p86 := q85.inc (Nat.le_refl _)
      go_wp2_with fail
      refine (d34 _).mono ?_
      rintro e w87 ⟨rfl, g87⟩
      have q87 := p86.turn g87
      clear g87
      obtain ⟨l0, l1, l2⟩ := q87.sy.lt
      obtain ⟨⟨x0, x1, x2, x3, x4⟩, xf⟩ := five q87.sy.sx.st
      go_wp2_with fail
      refine (d92 _).mono ?_
      rintro e w88 ⟨rfl, g88⟩
      have q88 := q87.turn g88
      clear g88 q87
      obtain ⟨l0, l1, l2⟩ := q88.sy.lt
      obtain ⟨⟨x0, x1, x2, x3, x4⟩, xf⟩ := five q88.sy.sx.st
      go_wp2_with fail
      refine (dys _).mono ?_
      rintro e w89 ⟨rfl, g89⟩
      have q89 := q88.turn g89
      clear g89 q88
      obtain ⟨l0, l1, l2⟩ := q89.sy.lt
      obtain ⟨⟨x0, x1, x2, x3, x4⟩, xf⟩ := five q89.sy.sx.st
      have p90 := q89.set (Nat.le_refl _) k n 0 a
      go_wp2_with fail
      refine (f26 _).mono ?_
      rintro e w91 ⟨rfl, g91⟩
      have q91 := p90.turn g91
      clear g91
      obtain ⟨l0, l1, l2⟩ := q91.sy.lt
      obtain ⟨⟨x0, x1, x2, x3, x4⟩, xf⟩ := five q91.sy.sx.st
      go_wp2_with fail
      refine (f7 _).mono ?_
      rintro e w92 ⟨rfl, g92⟩
      have q92 := q91.turn g92
      clear g92 q91
      obtain ⟨l0, l1, l2⟩ := q92.sy.lt
      obtain ⟨⟨x0, x1, x2, x3, x4⟩, xf⟩ := five q92.sy.sx.st
      go_wp2_with fail
      refine (hnib _).mono ?_
      rintro e w93 ⟨rfl, g93⟩
      have q93 := q92.turn g93
      clear g93 q92
      obtain ⟨l0, l1, l2⟩ := q93.sy.lt
      obtain ⟨⟨x0, x1, x2, x3, x4⟩, xf⟩ := five q93.sy.sx.st
      have hu : ∀ k, u5.ownBlock = some k → k < w93.heap.size := fun k e => (ownsRow_lt q93.row k e).2
      have hyb : W.heap.size + 3 ≤ w93.heap.size := q93.size
      have p94 := q93.set (Nat.le_refl _) k1 n 0 a
      have hsy : ((((((w93.setCell ⟨W.heap.size, 0, none⟩ (.string s)).setCell ⟨W.heap.size, 1, none⟩ (.int .i64 (k1 : Int))).setCell ⟨W.heap.size, 2, none⟩ (.int .i64 (n : Int))).setCell ⟨W.heap.size, 3, none⟩ (.int .i64 0)).setCell ⟨W.heap.size, 4, none⟩ (.int .i64 a))).heap.size = w93.heap.size := by simp only [World.size_setCell]
      go_wp2_with fail
      generalize ((((((w93.setCell ⟨W.heap.size, 0, none⟩ (.string s)).setCell ⟨W.heap.size, 1, none⟩ (.int .i64 (k1 : Int))).setCell ⟨W.heap.size, 2, none⟩ (.int .i64 (n : Int))).setCell ⟨W.heap.size, 3, none⟩ (.int .i64 0)).setCell ⟨W.heap.size, 4, none⟩ (.int .i64 a))) = W94 at p94 hsy ⊢
      have hy6 := heap_alloc_new W94 (.cells #[.string s, .int .i64 (k1 : Int), .int .i64 (n : Int), .int .i64 0, .int .i64 a] 53)
      rw [hsy] at hy6
      have q94 := p94.turn (Gr.alloc W94 (.cells #[.string s, .int .i64 (k1 : Int), .int .i64 (n : Int), .int .i64 0, .int .i64 a] 53) _)
      generalize W94.alloc (.cells #[.string s, .int .i64 (k1 : Int), .int .i64 (n : Int), .int .i64 0, .int .i64 a] 53) = X94 at q94 hy6 ⊢
      clear p94 hsy
      generalize w93.heap.size = yb at hu hyb hy6 ⊢
      refine (hnT _).mono ?_
      rintro e w95 ⟨rfl, g95⟩
      replace hy6 := g95.keep hy6 (fun e => e)
      have q95 := q94.turn g95
      clear g95 q94
      have hyl := (Array.getElem?_eq_some_iff.1 hy6).1
      obtain ⟨⟨t0, t1, t2, t3, t4⟩, tf⟩ := five hy6
      obtain ⟨l0, l1, l2⟩ := q95.sy.lt
      obtain ⟨⟨x0, x1, x2, x3, x4⟩, xf⟩ := five q95.sy.sx.st
      have p9 := (q95.over (Nat.le_refl _) hyb hu (.string s) (.int .i64 ((k1 + 1 : Nat) : Int)) (.int .i64 (n : Int)) (.int .i64 0) (.int .i64 a)).set (Nat.le_refl _) (k1 + 1) n 0 a
      go_wp2_with (first
        | (at_builtin; refine wpList_own _ rfl 28 _ _ rfl (W.heap.size + 3) 5 i0 (.int .u8 0) 1 1 Tryz.underlying28 hi0 hz0 hz1 hz2 rfl (by decide) u5 l.length (l.map (Value.int .u8)) ⟨w95.heap.size, 0, none⟩ 1 1 [.int .u8 (16 * g + t)] rfl rfl (p9.row.alloc _) rfl (cell_one_at _ _ _ _ (by simp only [World.size_setCell])) (by simp [Value.oneCell']) (by unfold maxLen; omega) (by omega) (by have := q95.size; simp; omega) ?_; intro v' w5 hrow5 hgr5; have a5 := p9.app (Nat.le_refl _) hrow5 hgr5))
      exact ⟨⟨l ++ [(16 * g + t)], k1 + 1, f, by omega, .inl ⟨by omega, by simp; omega, he, a5⟩⟩, by rw [a5.stAt, Hat.out]; omega⟩
end Go.Proofs.YtdmichjhmfinpaaGreatDoor
