/-
  The reference's reader: elements of a tuple or list.
-/
import Derived.Test.YtdmichjhmfinpaaGreatDoorAN
import Derived.Test.YtdmichjhmfinpaaGreatDoorAO
set_option linter.unusedVariables false
set_option linter.unusedSimpArgs false
namespace Go.Proofs.YtdmichjhmfinpaaGreatDoor
open Go.RowKit Go.Maps

/-- How a part ends, for the reference. -/
def EndU (W : World) (s : ByteArray) (a : Int) (e : Ending) (w' : World) : Except (Nat × Int) (Tm × Nat × Nat) → Prop
  | .ok (T, j, m) => ∃ v, e = .returned (.tuple #[sv s j m 0 a, v]) ∧ Rep (fun k => W.heap.size ≤ k) w' T v ∧ Gr (fun _ => False) W w' ∧ j ≤ s.size ∧ m ≤ 4096
  | .error (j, c) => ∃ i' n', e = .returned (.tuple #[sv s i' n' c (j : Int), lf 0 0 0 0 e0 0 0 0]) ∧ (c == 0) = false ∧ Gr (fun _ => False) W w'
/-- What a call of the reference's part does, r deeper levels being left. -/
def PartR (s : ByteArray) (r : Nat) : Prop := ∀ (W : World) (i n : Nat) (d a : Int), d + r = 25 → i ≤ s.size → n ≤ 4096 →
  Calls Tryz.prog 17 #[sv s i n 0 a, .int .i64 d] W fun e w' => EndU W s a e w' (prt s r i n)
/-- How elements end, for the reference. -/
def EndEl (W : World) (s : ByteArray) (a kd : Int) (e : Ending) (w' : World) : Except (Nat × Int) (List Tm × Nat × Nat) → Prop
  | .ok (l, j, m) => ∃ v vs, e = .returned (.tuple #[sv s j m 0 a, tv kd 0 0 0 e0 0 0 0 nl v]) ∧ RowT (fun k => W.heap.size ≤ k) w' vs l.length v ∧ Reps (fun k => W.heap.size ≤ k) w' l vs ∧ Gr (fun _ => False) W w' ∧ j ≤ s.size ∧ m ≤ 4096
  | .error (j, c) => ∃ i' n', e = .returned (.tuple #[sv s i' n' c (j : Int), lf 0 0 0 0 e0 0 0 0]) ∧ (c == 0) = false ∧ Gr (fun _ => False) W w'

/-- A state of the reference's, blocks for the answer, and a tuple or list that grows. -/
structure Se (W : World) (N : Nat) (s : ByteArray) (i n : Nat) (c a kd : Int) (u : Value) (l : List Tm) (vs : List Value) (X : World) : Prop where
  sy : Sy W N s i n c a X
  tm : X.heap[N + 3]? = some (.cells #[.int .i64 kd, .int .i64 0, .complex .f64 0 0, .string e0, .int .i64 0, .int .u32 0, .int .u64 0, nl, u] 31 (0, 0))
  row : X.ownsRow (N + 4) 31 9 u l.length (vs.flatMap cellsOf)
  reps : Reps (fun z => N + 4 ≤ z ∧ u.ownBlock ≠ some z) X l vs
section
variable {W : World} {N : Nat} {s : ByteArray} {i n : Nat} {c a kd : Int} {u : Value} {l : List Tm} {vs : List Value} {X X' : World}
theorem Se.size (h : Se W N s i n c a kd u l vs X) : N + 4 ≤ X.heap.size := (Array.getElem?_eq_some_iff.1 h.tm).1
theorem Se.turn (h : Se W N s i n c a kd u l vs X) (g : Gr (fun _ => False) X X') : Se W N s i n c a kd u l vs X' :=
  ⟨h.sy.turn g, g.keep h.tm (fun e => e), ownsRow_gr h.row g (fun _ _ e => e), h.reps.turn (fun z hz hlt => ⟨hz, g.block z hlt (fun e => e)⟩)⟩
theorem Se.near (h : Se W N s i n c a kd u l vs X) {i' n' : Nat} {c' a' : Int} (hs : Sy W N s i' n' c' a' X') (g : Gr (fun k => k = N) X X') : Se W N s i' n' c' a' kd u l vs X' :=
  ⟨hs, g.keep h.tm (by omega), ownsRow_gr h.row g (fun _ h1 h2 => by omega), h.reps.turn (fun z hz hlt => ⟨hz, g.block z hlt (by omega)⟩)⟩
theorem Se.set (hN : W.heap.size ≤ N) (h : Se W N s i n c a kd u l vs X) (i' n' : Nat) (c' a' : Int) :
    Se W N s i' n' c' a' kd u l vs (((((X.setCell ⟨N, 0, none⟩ (.string s)).setCell ⟨N, 1, none⟩ (.int .i64 (i' : Int))).setCell ⟨N, 2, none⟩ (.int .i64 (n' : Int))).setCell ⟨N, 3, none⟩ (.int .i64 c')).setCell ⟨N, 4, none⟩ (.int .i64 a')) :=
  h.near (h.sy.set hN i' n' c' a') (Gr.own5 X N _ _ _ _ _)
theorem Se.inc (hN : W.heap.size ≤ N) (h : Se W N s i n c a kd u l vs X) : Se W N s (i + 1) n c a kd u l vs (X.setCell ⟨N, 1, none⟩ (.int .i64 ((i : Int) + 1))) :=
  h.near ⟨⟨heap_setCell_same X _ 1 _ 53 _ h.sy.sx.st, (own1 X N 1 _).keep h.sy.sx.out (by omega), h.sy.sx.gr.setNew hN⟩, (own1 X N 1 _).keep h.sy.tm (by omega)⟩ (own1 X N 1 _)
theorem Se.grown (hN : W.heap.size ≤ N) (h : Se W N s i n c a kd u l vs X) {o : Obj} (hg : (X.alloc o).grownBy X' u.ownBlock) : Sy W N s i n c a X' ∧ X'.heap[N + 3]? = some (.cells #[.int .i64 kd, .int .i64 0, .complex .f64 0 0, .string e0, .int .i64 0, .int .u32 0, .int .u64 0, nl, u] 31 (0, 0)) := by
  have G : Gr (fun k => N + 4 ≤ k) X X' := (Gr.alloc X o _).trans (Gr.of_grown hg (fun z e => (ownsRow_lt h.row z e).1))
  exact ⟨⟨⟨G.keep h.sy.sx.st (by omega), G.keep h.sy.sx.out (by omega), h.sy.sx.gr.trans' G (fun i hi e => absurd e (by omega))⟩, G.keep h.sy.tm (by omega)⟩, G.keep h.tm (by omega)⟩
theorem Se.app (hN : W.heap.size ≤ N) (h : Se W N s i n c a kd u l vs X) {o : Obj} {v' v : Value} {T : Tm} {cs : List Value} (hr : X'.ownsRow (N + 4) 31 9 v' (l.length + 1) (vs.flatMap cellsOf ++ cs)) (hc : cs = cellsOf v)
    (hg : (X.alloc o).grownBy X' u.ownBlock) (hloc : v'.ownBlock = u.ownBlock ∨ v'.ownBlock = some (X.alloc o).heap.size) (hrep : Rep (fun z => N + 4 ≤ z ∧ u.ownBlock ≠ some z) X T v) :
    Se W N s i n c a kd v' (l ++ [T]) (vs ++ [v]) (X'.setCell ⟨N + 3, 8, none⟩ v') := by
  subst hc
  have G : Gr (fun k => N + 4 ≤ k) X X' := (Gr.alloc X o _).trans (Gr.of_grown hg (fun z e => (ownsRow_lt h.row z e).1))
  have ht : Turn (fun z => N + 4 ≤ z ∧ u.ownBlock ≠ some z) (fun z => N + 4 ≤ z ∧ v'.ownBlock ≠ some z) X X' := by
    intro z hz hlt
    have h1 : v'.ownBlock ≠ some z := by
      rcases hloc with e | e
      · rw [e]; exact hz.2
      · rw [e, World.size_alloc]; intro e2; cases e2; omega
    exact ⟨⟨hz.1, h1⟩, (hg.block z (by rw [World.size_alloc]; omega) (fun e => hz.2 e.symm)).trans (heap_alloc_old X o hlt)⟩
  have hall := (h.reps.turn ht).snoc (hrep.turn ht)
  have g := own1 X' (N + 3) 8 v'
  have hrow : X'.ownsRow (N + 4) 31 9 v' (l ++ [T]).length ((vs ++ [v]).flatMap cellsOf) := by
    rw [List.length_append, List.flatMap_append]; simpa using hr
  refine ⟨⟨⟨g.keep (G.keep h.sy.sx.st (by omega)) (by omega), g.keep (G.keep h.sy.sx.out (by omega)) (by omega), (h.sy.sx.gr.trans' G (fun i hi e => absurd e (by omega))).setNew (by show W.heap.size ≤ N + 3; omega)⟩, g.keep (G.keep h.sy.tm (by omega)) (by omega)⟩, ?_, ownsRow_gr hrow g (fun _ h1 h2 => by omega), hall.turn (fun z hz hlt => ⟨hz, g.block z hlt (by omega)⟩)⟩
  exact heap_setCell_same X' (N + 3) 8 _ 31 _ (G.keep h.tm (by omega))
end
theorem cells9_at (w : World) (N : Nat) (h : w.heap.size = N) (v0 v1 v2 v3 v4 v5 v6 v7 v8 : Value) (t : TypeId) : ∀ (j : Nat) (u : Value), [v0, v1, v2, v3, v4, v5, v6, v7, v8][j]? = some u → (w.alloc (.cells #[v0, v1, v2, v3, v4, v5, v6, v7, v8] t)).cell? ((⟨N, 0, none⟩ : Addr).add j) = some u := by
  subst h; exact cells9 _ _ _ _ _ _ _ _ _ _ _

theorem Turn.drew {A A' : Nat → Prop} {X Y : World} (h : Turn A A' X Y) : Turn A A' X Y.drew := fun z hz hlt => h z hz hlt
set_option maxRecDepth 200000 in
set_option maxHeartbeats 4000000 in
theorem elements_r (s : ByteArray) (hs : s.size ≤ 65536) (r : Nat) (hP : PartR s r) (i n : Nat) (a kd d en : Int) (hd : d + 1 + r = 25) (hdp : 1 ≤ d) (hen : en = 125 ∨ en = 93) (hlt : i < s.size) (hn : n ≤ 4096) (W : World) :
    Calls Tryz.prog 34 #[sv s i n 0 a, .int .i64 kd, .int .u8 en, .int .i64 d] W fun e w' => EndEl W s a kd e w' (lst s (prt s r) en i n) := by
  have hi2 : (i : Int) < 65536 := by omega
  have hd1 : d ≤ 24 := by omega
  obtain ⟨i0, hi0, hz0, hz1, hz2⟩ := info_parts info31
  obtain ⟨q, hq⟩ : ∃ q, q = lst s (prt s r) en i n := ⟨_, rfl⟩
  rw [← hq]
  have Hq := Lib.hid hq
  clear hq
  have he0 : en ≠ 0 := by rcases hen with e | e <;> rw [e] <;> decide
  replace hP := Lib.hid hP
  replace hn := Lib.hid hn
  replace hs := Lib.hid hs
  have cen := fun W => is_c s (i + 1) n a en he0 W
  obtain ⟨x, hx⟩ : ∃ x, pk s (i + 1) = x := ⟨_, rfl⟩
  rw [hx] at cen
  have Hx := Lib.hid hx
  clear hx
  by_cases h1 : x = en
  case pos =>
    have hlt2 : i + 1 < s.size := lt_of_pk (by rw [Hx.out, h1]; exact he0)
    have hi3 : ((i + 1 : Nat) : Int) < 65536 := by have := hs.out; omega
    have e : q = .ok ([], i + 1 + 1, n) := by rw [Hq.out, lst, if_pos (by rw [Hx.out, h1])]
    subst e
    rw [show (x == en) = true by simpa using h1] at cen
    clear h1
    go_enter Tryz.func34, Tryz.ntmps34
    go_wp2_with fail
    generalize hW1 : World.alloc (World.alloc (World.alloc (World.alloc W _) _) _) _ = W1
    have b0 : Se W W.heap.size s (i + 1) n 0 a kd nl [] [] W1 := by
      subst hW1
      refine ⟨⟨⟨?_, ?_, (((Gr.alloc _ _ _).trans (Gr.alloc _ _ _)).trans (Gr.alloc _ _ _)).trans (Gr.alloc _ _ _)⟩, ?_⟩, ?_, World.ownsRow_nil _ _ _ _, rfl⟩ <;> (simp only [al, World.size_alloc]; repeat (first | rw [if_pos trivial] | rw [if_pos (by omega)] | rw [if_neg (by omega)]))
      rfl
    clear hW1
    go_loopw [11] (fun v wr => v = .int .i64 0 ∧ Se W W.heap.size s (i + 1) n 0 a kd nl [] [] wr) (fun _ _ => 0)
    case atStart => exact ⟨rfl, b0⟩
    case round =>
      obtain ⟨rfl, q0⟩ := hrel
      clear b0
      obtain ⟨l0, l1, l2⟩ := q0.sy.lt
      obtain ⟨⟨x0, x1, x2, x3, x4⟩, xf⟩ := five q0.sy.sx.st
      go_wp2_with fail
      refine (cen _).mono ?_
      rintro e w1 ⟨rfl, g1⟩
      have q1 := q0.turn g1
      clear g1 q0
      obtain ⟨l0, l1, l2⟩ := q1.sy.lt
      obtain ⟨⟨x0, x1, x2, x3, x4⟩, xf⟩ := five q1.sy.sx.st
      obtain ⟨⟨y0, y1, y2, y3, y4⟩, yf⟩ := five q1.sy.sx.out
      obtain ⟨⟨z0, z1, z2, z3, z4, z5, z6, z7, z8⟩, zf⟩ := nine q1.sy.tm
      obtain ⟨⟨t0, t1, t2, t3, t4, t5, t6, t7, t8⟩, tf⟩ := nine q1.tm
      have hlT := q1.size
      have pz := q1.inc (Nat.le_refl _)
      go_wp2_with fail
      go_region
      all_goals
        go_wp2_with fail
        exact bodyPost_ret (v := .tuple #[sv s (i + 1 + 1) n 0 a, tv kd 0 0 0 e0 0 0 0 nl nl]) (by simp [results, Tryz.results34, go_sem, y0, y1, y2, y3, y4, z0, z1, z2, z3, z4, z5, z6, z7, z8, l0, l1, l2]) rfl ⟨_, _, rfl, (rowT_own pz.row).turn ((turn14 _ (W.heap.size + 1) (W.heap.size + 4) W.heap.size (by omega) (by omega) _ _ _ _ _ _ _ _ _ _ _ _ _ _).drew), pz.reps.turn (fun z hz hlt => (turn14 _ (W.heap.size + 1) (W.heap.size + 4) W.heap.size (by omega) (by omega) _ _ _ _ _ _ _ _ _ _ _ _ _ _).drew z hz.1 hlt), ((pz.sy.sx.gr.set5 (g := W.heap.size + 1) (Nat.le_succ _) _ _ _ _ _).set9 (g := W.heap.size + 1 + 1) (by omega) _ _ _ _ _ _ _ _ _).trans (Gr.drew _ _), by omega, hn.out⟩
  have hq2 : Hid (q = els s (prt s r) en 256 (i + 1) n []) := by
    show q = _
    rw [Hq.out, lst, if_neg (by rw [Hx.out]; exact h1)]
  rw [show (x == en) = false by simpa using h1] at cen
  clear h1
  go_enter Tryz.func34, Tryz.ntmps34
  go_wp2_with fail
  generalize hW1 : World.alloc (World.alloc (World.alloc (World.alloc W _) _) _) _ = W1
  have b0 : Se W W.heap.size s (i + 1) n 0 a kd nl [] [] W1 := by
    subst hW1
    refine ⟨⟨⟨?_, ?_, (((Gr.alloc _ _ _).trans (Gr.alloc _ _ _)).trans (Gr.alloc _ _ _)).trans (Gr.alloc _ _ _)⟩, ?_⟩, ?_, World.ownsRow_nil _ _ _ _, rfl⟩ <;> (simp only [al, World.size_alloc]; repeat (first | rw [if_pos trivial] | rw [if_pos (by omega)] | rw [if_neg (by omega)]))
    rfl
  clear hW1
  go_loopw [11] (fun v wr => ∃ (u : Value) (l : List Tm) (vs : List Value) (j m k : Nat), v = .int .i64 (l.length : Int) ∧ Hid (k + l.length = 256) ∧ 1 ≤ k ∧ j ≤ s.size ∧ Hid (m ≤ 4096) ∧ Hid (q = els s (prt s r) en k j m l) ∧ Hid (l = [] → j = i + 1 ∧ m = n) ∧ Se W W.heap.size s j m 0 a kd u l vs wr) (fun v _ => 256 - (intOf v).toNat)
  case atStart => exact ⟨nl, [], [], i + 1, n, 256, rfl, rfl, by decide, by omega, hn.out, hq2.out, fun _ => ⟨rfl, rfl⟩, b0⟩
  case round =>
    clear b0 hq2
    obtain ⟨u, l, vs, j, m, k, rfl, hk, hk1, hj, hm, He, Hl, q0⟩ := hrel
    obtain ⟨k, rfl⟩ : ∃ k', k = k' + 1 := ⟨k - 1, by omega⟩
    have hl256 : (l.length : Int) ≤ 255 := by have := hk.out; omega
    have hjI : (j : Int) ≤ 65536 := by have := hs.out; omega
    clear hk1
    by_cases hl0 : l = []
    case pos =>
      obtain ⟨e1, e2⟩ := Hl.out hl0
      rw [← e1, ← e2] at cen
      clear e1 e2
      have hz3 : ((l.length : Int) == 0) = true := by rw [hl0]; decide
      clear hl0 Hl
      obtain ⟨l0, l1, l2⟩ := q0.sy.lt
      obtain ⟨⟨x0, x1, x2, x3, x4⟩, xf⟩ := five q0.sy.sx.st
      go_wp2_with fail
      refine (cen _).mono ?_
      rintro e w2 ⟨rfl, g2⟩
      have q2 := q0.turn g2
      clear g2 q0
      obtain ⟨l0, l1, l2⟩ := q2.sy.lt
      obtain ⟨⟨x0, x1, x2, x3, x4⟩, xf⟩ := five q2.sy.sx.st
      have hcall := hP.out w2 j m (d + 1) a (by omega) hj hm.out
      cases hr : prt s r j m with
      | error e =>
        obtain ⟨j', c'⟩ := e
        rw [hr] at hcall
        have e : q = .error (j', c') := by rw [He.out, els, hr]
        subst e
        clear hr
        go_wp2_with fail
        refine hcall.mono ?_
        rintro e w4 ⟨i', n', rfl, hc, hg4⟩
        have hcn : (c' != 0) = true := by rw [bne, hc]; rfl
        have p4 := q2.turn hg4
        obtain ⟨l0, l1, l2⟩ := p4.sy.lt
        obtain ⟨⟨x0, x1, x2, x3, x4⟩, xf⟩ := five p4.sy.sx.st
        obtain ⟨⟨y0, y1, y2, y3, y4⟩, yf⟩ := five p4.sy.sx.out
        obtain ⟨⟨z0, z1, z2, z3, z4, z5, z6, z7, z8⟩, zf⟩ := nine p4.sy.tm
        have pz := p4.set (Nat.le_refl _) i' n' c' (j' : Int)
        go_wp2_with fail
        exact bodyPost_ret (v := .tuple #[sv s i' n' c' (j' : Int), lf 0 0 0 0 e0 0 0 0]) (by simp [results, Tryz.results34, go_sem, y0, y1, y2, y3, y4, z0, z1, z2, z3, z4, z5, z6, z7, z8, l0, l1, l2]) rfl ⟨_, _, rfl, hc, (((pz.sy.sx.gr.set5 (g := W.heap.size + 1) (Nat.le_succ _) _ _ _ _ _).set9 (g := W.heap.size + 1 + 1) (by omega) _ _ _ _ _ _ _ _ _).trans (Gr.alloc _ _ _)).trans (Gr.alloc _ _ _)⟩
      | ok v =>
        obtain ⟨T, j', m'⟩ := v
        rw [hr] at hcall
        have He2 : Hid (q = if pk s j' = en then .ok (l ++ [T], j' + 1, m') else if pk s j' = 44 then (if l.length + 1 = 256 then .error (j', 25) else els s (prt s r) en k (j' + 1) m' (l ++ [T])) else .error (j', 41)) := by
          show q = _
          rw [He.out, els, hr]
        clear hr He
        obtain ⟨y, hy⟩ : ∃ y, pk s j' = y := ⟨_, rfl⟩
        rw [hy] at He2
        have ce2 := fun W => is_c s j' m' a en he0 W
        have c44 := fun W => is_c s j' m' a 44 (by decide) W
        rw [hy] at ce2 c44
        have Hy := Lib.hid hy
        clear hy
        go_wp2_with fail
        refine hcall.mono ?_
        rintro e w4 ⟨v, rfl, hrep4, hg4, hj4, hm4⟩
        replace hm4 := Lib.hid hm4
        have hjI4 : (j' : Int) ≤ 65536 := by have := hs.out; omega
        obtain ⟨tk, tn, tx, ty, ts, ta, tc, td, a1, n1, c1, a2, n2, c2, rfl⟩ := hrep4.agg
        have p4 := q2.turn hg4
        have r4 := hrep4.turn (A' := fun z => W.heap.size + 4 ≤ z ∧ u.ownBlock ≠ some z) (W' := w4) (fun z hz hlt => ⟨⟨by have := q2.size; omega, fun e => by have := (ownsRow_lt q2.row z e).2; omega⟩, rfl⟩)
        clear hcall hrep4 hg4 q2
        have h4s := p4.size
        have l3 : W.heap.size + 1 + 1 + 1 < w4.heap.size := p4.size
        obtain ⟨l0, l1, l2⟩ := p4.sy.lt
        obtain ⟨⟨x0, x1, x2, x3, x4⟩, xf⟩ := five p4.sy.sx.st
        obtain ⟨⟨t0, t1, t2, t3, t4, t5, t6, t7, t8⟩, tf⟩ := nine p4.tm
        obtain ⟨au, cu, rfl⟩ := ownsRow_sv p4.row
        replace p4 := Lib.hid p4
        replace r4 := Lib.hid r4
        go_wp2_with (first
          | (at_builtin; have p5 := p4.out.set (Nat.le_refl _) j' m' 0 a; have r5 := r4.out.turn (A' := fun z => W.heap.size + 4 ≤ z ∧ (Value.slice au l.length cu).ownBlock ≠ some z) (fun z hz hlt => ⟨hz, (Gr.own5 w4 W.heap.size (.string s) (.int .i64 (j' : Int)) (.int .i64 (m' : Int)) (.int .i64 0) (.int .i64 a)).block z hlt (by omega)⟩); have p7 := (p5.turn (Gr.alloc _ (.cells #[.string s, .int .i64 (j' : Int), .int .i64 (m' : Int), .int .i64 0, .int .i64 a] 53) _)).turn (Gr.alloc _ (.cells #[.int .i64 tk, .int .i64 tn, .complex .f64 tx ty, .string ts, .int .i64 ta, .int .u32 tc, .int .u64 td, .slice a1 n1 c1, .slice a2 n2 c2] 31) _); have r7 := (r5.turn (A' := fun z => W.heap.size + 4 ≤ z ∧ (Value.slice au l.length cu).ownBlock ≠ some z) (fun z hz hlt => ⟨hz, (Gr.alloc _ (.cells #[.string s, .int .i64 (j' : Int), .int .i64 (m' : Int), .int .i64 0, .int .i64 a] 53) (fun _ => False)).block z hlt (fun e => e)⟩)).turn (A' := fun z => W.heap.size + 4 ≤ z ∧ (Value.slice au l.length cu).ownBlock ≠ some z) (fun z hz hlt => ⟨hz, (Gr.alloc _ (.cells #[.int .i64 tk, .int .i64 tn, .complex .f64 tx ty, .string ts, .int .i64 ta, .int .u32 tc, .int .u64 td, .slice a1 n1 c1, .slice a2 n2 c2] 31) (fun _ => False)).block z hlt (fun e => e)⟩); clear p5 r5; refine wpList_own2 _ rfl 29 _ _ rfl (W.heap.size + 4) 31 i0 (lf 0 0 0 0 e0 0 0 0) 9 120 Tryz.underlying29 hi0 hz0 hz1 hz2 rfl (by decide) (.slice au l.length cu) l.length (vs.flatMap cellsOf) _ 1 1 [.int .i64 tk, .int .i64 tn, .complex .f64 tx ty, .string ts, .int .i64 ta, .int .u32 tc, .int .u64 td, .slice a1 n1 c1, .slice a2 n2 c2] rfl rfl (p7.row.alloc _) rfl (cells9_at _ _ (by simp only [World.size_alloc, World.size_setCell]) _ _ _ _ _ _ _ _ _ _) (by simp [Value.oneCell']) (by unfold maxLen; omega) (by omega) (by simp only [World.size_alloc, World.size_setCell]; omega) ?_; intro v' w5 hrow5 hgr5 hloc5; obtain ⟨a5, cap5, rfl⟩ := ownsRow_sv hrow5; have a6 := p7.app (Nat.le_refl _) hrow5 rfl hgr5 hloc5 r7; obtain ⟨s8, m8⟩ := p7.grown (Nat.le_refl _) hgr5; have l3 : W.heap.size + 1 + 1 + 1 < w5.heap.size := (Array.getElem?_eq_some_iff.1 m8).1; clear p7 r7 hrow5 hgr5 hloc5; obtain ⟨l0, l1, l2⟩ := s8.lt; obtain ⟨⟨x0, x1, x2, x3, x4⟩, xf⟩ := five s8.sx.st; obtain ⟨⟨t0, t1, t2, t3, t4, t5, t6, t7, t8⟩, tf⟩ := nine m8))
        by_cases h5 : y = en
        case pos =>
          rw [show (y == en) = true by simpa using h5] at ce2
          have hlt4 : j' < s.size := lt_of_pk (by rw [Hy.out, h5]; exact he0)
          have hj5 : (j' : Int) < 65536 := by have := hs.out; omega
          have e : q = .ok (l ++ [T], j' + 1, m') := by rw [He2.out, if_pos h5]
          subst e
          clear h5
          refine (ce2 _).mono ?_
          rintro e w4 ⟨rfl, g4⟩
          have q4 := a6.turn g4
          clear g4
          obtain ⟨l0, l1, l2⟩ := q4.sy.lt
          obtain ⟨⟨x0, x1, x2, x3, x4⟩, xf⟩ := five q4.sy.sx.st
          obtain ⟨⟨y0, y1, y2, y3, y4⟩, yf⟩ := five q4.sy.sx.out
          obtain ⟨⟨z0, z1, z2, z3, z4, z5, z6, z7, z8⟩, zf⟩ := nine q4.sy.tm
          obtain ⟨⟨t0, t1, t2, t3, t4, t5, t6, t7, t8⟩, tf⟩ := nine q4.tm
          have hlT := q4.size
          have pz := q4.inc (Nat.le_refl _)
          go_wp2_with fail
          go_region
          all_goals
            go_wp2_with fail
            exact bodyPost_ret (v := .tuple #[sv s (j' + 1) m' 0 a, tv kd 0 0 0 e0 0 0 0 nl (.slice a5 (l.length + 1) cap5)]) (by simp [results, Tryz.results34, go_sem, y0, y1, y2, y3, y4, z0, z1, z2, z3, z4, z5, z6, z7, z8, l0, l1, l2]) rfl ⟨_, _, rfl, (rowT_own pz.row).turn ((turn14 _ (W.heap.size + 1) (W.heap.size + 4) W.heap.size (by omega) (by omega) _ _ _ _ _ _ _ _ _ _ _ _ _ _).drew), pz.reps.turn (fun z hz hlt => (turn14 _ (W.heap.size + 1) (W.heap.size + 4) W.heap.size (by omega) (by omega) _ _ _ _ _ _ _ _ _ _ _ _ _ _).drew z hz.1 hlt), ((pz.sy.sx.gr.set5 (g := W.heap.size + 1) (Nat.le_succ _) _ _ _ _ _).set9 (g := W.heap.size + 1 + 1) (by omega) _ _ _ _ _ _ _ _ _).trans (Gr.drew _ _), by omega, hm4.out⟩
        rw [show (y == en) = false by simpa using h5] at ce2
        by_cases h6 : y = 44
        case neg =>
          rw [show (y == 44) = false by simpa using h6] at c44
          have e : q = .error (j', 41) := by rw [He2.out, if_neg h5, if_neg h6]
          subst e
          clear h5 h6
          refine (ce2 _).mono ?_
          rintro e w5 ⟨rfl, g5⟩
          have q5 := a6.turn g5
          clear g5
          obtain ⟨l0, l1, l2⟩ := q5.sy.lt
          obtain ⟨⟨x0, x1, x2, x3, x4⟩, xf⟩ := five q5.sy.sx.st
          go_wp2_with fail
          refine (c44 _).mono ?_
          rintro e w6 ⟨rfl, g6⟩
          have q6 := q5.turn g6
          clear g6 q5
          obtain ⟨l0, l1, l2⟩ := q6.sy.lt
          obtain ⟨⟨x0, x1, x2, x3, x4⟩, xf⟩ := five q6.sy.sx.st
          go_wp2_with fail
          refine (fail_new s j' m' a (j' : Int) 41 _).mono ?_
          rintro e w7 ⟨rfl, g7⟩
          have q7 := q6.turn g7
          clear g7 q6
          obtain ⟨l0, l1, l2⟩ := q7.sy.lt
          obtain ⟨⟨x0, x1, x2, x3, x4⟩, xf⟩ := five q7.sy.sx.st
          obtain ⟨⟨y0, y1, y2, y3, y4⟩, yf⟩ := five q7.sy.sx.out
          obtain ⟨⟨z0, z1, z2, z3, z4, z5, z6, z7, z8⟩, zf⟩ := nine q7.sy.tm
          go_wp2_with fail
          exact bodyPost_ret (v := .tuple #[sv s j' m' 41 (j' : Int), lf 0 0 0 0 e0 0 0 0]) (by simp [results, Tryz.results34, go_sem, y0, y1, y2, y3, y4, z0, z1, z2, z3, z4, z5, z6, z7, z8, l0, l1, l2]) rfl ⟨_, _, rfl, by decide, ((q7.sy.sx.gr.set5 (g := W.heap.size + 1) (Nat.le_succ _) _ _ _ _ _).set9 (g := W.heap.size + 1 + 1) (by omega) _ _ _ _ _ _ _ _ _)⟩
        rw [show (y == 44) = true by simpa using h6] at c44
        have hlt4 : j' < s.size := lt_of_pk (by rw [Hy.out, h6]; decide)
        have hj5 : (j' : Int) < 65536 := by have := hs.out; omega
        by_cases h7 : l.length = 255
        case pos =>
          have e : q = .error (j', 25) := by rw [He2.out, if_neg h5, if_pos h6, if_pos (by omega)]
          subst e
          have h8 : ((l.length : Int) + 1 == 256) = true := by rw [h7]; decide
          clear h5 h6 h7 hk
          refine (ce2 _).mono ?_
          rintro e w8 ⟨rfl, g8⟩
          have q8 := a6.turn g8
          clear g8
          obtain ⟨l0, l1, l2⟩ := q8.sy.lt
          obtain ⟨⟨x0, x1, x2, x3, x4⟩, xf⟩ := five q8.sy.sx.st
          go_wp2_with fail
          refine (c44 _).mono ?_
          rintro e w9 ⟨rfl, g9⟩
          have q9 := q8.turn g9
          clear g9 q8
          obtain ⟨l0, l1, l2⟩ := q9.sy.lt
          obtain ⟨⟨x0, x1, x2, x3, x4⟩, xf⟩ := five q9.sy.sx.st
          obtain ⟨⟨t0, t1, t2, t3, t4, t5, t6, t7, t8⟩, tf⟩ := nine q9.tm
          have hlT := q9.size
          go_wp2_with fail
          refine (fail_new s j' m' a (j' : Int) 25 _).mono ?_
          rintro e w10 ⟨rfl, g10⟩
          have q10 := q9.turn g10
          clear g10 q9
          obtain ⟨l0, l1, l2⟩ := q10.sy.lt
          obtain ⟨⟨x0, x1, x2, x3, x4⟩, xf⟩ := five q10.sy.sx.st
          obtain ⟨⟨y0, y1, y2, y3, y4⟩, yf⟩ := five q10.sy.sx.out
          obtain ⟨⟨z0, z1, z2, z3, z4, z5, z6, z7, z8⟩, zf⟩ := nine q10.sy.tm
          go_wp2_with fail
          exact bodyPost_ret (v := .tuple #[sv s j' m' 25 (j' : Int), lf 0 0 0 0 e0 0 0 0]) (by simp [results, Tryz.results34, go_sem, y0, y1, y2, y3, y4, z0, z1, z2, z3, z4, z5, z6, z7, z8, l0, l1, l2]) rfl ⟨_, _, rfl, by decide, ((q10.sy.sx.gr.set5 (g := W.heap.size + 1) (Nat.le_succ _) _ _ _ _ _).set9 (g := W.heap.size + 1 + 1) (by omega) _ _ _ _ _ _ _ _ _)⟩
        have h8 : ((l.length : Int) + 1 == 256) = false := by simp; omega
        have he : Hid (q = els s (prt s r) en k (j' + 1) m' (l ++ [T])) := by
          show q = _
          rw [He2.out, if_neg h5, if_pos h6, if_neg (by omega)]
        replace h7 := Lib.hid h7
        clear h5 h6
        refine (ce2 _).mono ?_
        rintro e w11 ⟨rfl, g11⟩
        have q11 := a6.turn g11
        clear g11
        obtain ⟨l0, l1, l2⟩ := q11.sy.lt
        obtain ⟨⟨x0, x1, x2, x3, x4⟩, xf⟩ := five q11.sy.sx.st
        go_wp2_with fail
        refine (c44 _).mono ?_
        rintro e w12 ⟨rfl, g12⟩
        have q12 := q11.turn g12
        clear g12 q11
        obtain ⟨l0, l1, l2⟩ := q12.sy.lt
        obtain ⟨⟨x0, x1, x2, x3, x4⟩, xf⟩ := five q12.sy.sx.st
        obtain ⟨⟨t0, t1, t2, t3, t4, t5, t6, t7, t8⟩, tf⟩ := nine q12.tm
        have hlT := q12.size
        have pz := q12.inc (Nat.le_refl _)
        go_wp2_with fail
        refine ⟨⟨_, l ++ [T], _, j' + 1, m', k, ?_, ?_, ?_, by omega, hm4, he, ?_, pz⟩, ?_⟩
        · simp
        · have := hk.out; show k + (l ++ [T]).length = 256; simp; omega
        · have := hk.out; have := h7.out; omega
        · show l ++ [T] = [] → _; simp
        · simp [intOf]; omega
    have hz3 : ((l.length : Int) == 0) = false := by
      have : l.length ≠ 0 := fun e => hl0 (List.eq_nil_of_length_eq_zero e)
      simp; omega
    clear hl0 Hl
    obtain ⟨l0, l1, l2⟩ := q0.sy.lt
    obtain ⟨⟨x0, x1, x2, x3, x4⟩, xf⟩ := five q0.sy.sx.st
    have hcall := hP.out wr j m (d + 1) a (by omega) hj hm.out
    cases hr : prt s r j m with
    | error e =>
      obtain ⟨j', c'⟩ := e
      rw [hr] at hcall
      have e : q = .error (j', c') := by rw [He.out, els, hr]
      subst e
      clear hr
      go_wp2_with fail
      refine hcall.mono ?_
      rintro e w4 ⟨i', n', rfl, hc, hg4⟩
      have hcn : (c' != 0) = true := by rw [bne, hc]; rfl
      have p4 := q0.turn hg4
      obtain ⟨l0, l1, l2⟩ := p4.sy.lt
      obtain ⟨⟨x0, x1, x2, x3, x4⟩, xf⟩ := five p4.sy.sx.st
      obtain ⟨⟨y0, y1, y2, y3, y4⟩, yf⟩ := five p4.sy.sx.out
      obtain ⟨⟨z0, z1, z2, z3, z4, z5, z6, z7, z8⟩, zf⟩ := nine p4.sy.tm
      have pz := p4.set (Nat.le_refl _) i' n' c' (j' : Int)
      go_wp2_with fail
      exact bodyPost_ret (v := .tuple #[sv s i' n' c' (j' : Int), lf 0 0 0 0 e0 0 0 0]) (by simp [results, Tryz.results34, go_sem, y0, y1, y2, y3, y4, z0, z1, z2, z3, z4, z5, z6, z7, z8, l0, l1, l2]) rfl ⟨_, _, rfl, hc, (((pz.sy.sx.gr.set5 (g := W.heap.size + 1) (Nat.le_succ _) _ _ _ _ _).set9 (g := W.heap.size + 1 + 1) (by omega) _ _ _ _ _ _ _ _ _).trans (Gr.alloc _ _ _)).trans (Gr.alloc _ _ _)⟩
    | ok v =>
      obtain ⟨T, j', m'⟩ := v
      rw [hr] at hcall
      have He2 : Hid (q = if pk s j' = en then .ok (l ++ [T], j' + 1, m') else if pk s j' = 44 then (if l.length + 1 = 256 then .error (j', 25) else els s (prt s r) en k (j' + 1) m' (l ++ [T])) else .error (j', 41)) := by
        show q = _
        rw [He.out, els, hr]
      clear hr He
      obtain ⟨y, hy⟩ : ∃ y, pk s j' = y := ⟨_, rfl⟩
      rw [hy] at He2
      have ce2 := fun W => is_c s j' m' a en he0 W
      have c44 := fun W => is_c s j' m' a 44 (by decide) W
      rw [hy] at ce2 c44
      have Hy := Lib.hid hy
      clear hy
      go_wp2_with fail
      refine hcall.mono ?_
      rintro e w4 ⟨v, rfl, hrep4, hg4, hj4, hm4⟩
      replace hm4 := Lib.hid hm4
      have hjI4 : (j' : Int) ≤ 65536 := by have := hs.out; omega
      obtain ⟨tk, tn, tx, ty, ts, ta, tc, td, a1, n1, c1, a2, n2, c2, rfl⟩ := hrep4.agg
      have p4 := q0.turn hg4
      have r4 := hrep4.turn (A' := fun z => W.heap.size + 4 ≤ z ∧ u.ownBlock ≠ some z) (W' := w4) (fun z hz hlt => ⟨⟨by have := q0.size; omega, fun e => by have := (ownsRow_lt q0.row z e).2; omega⟩, rfl⟩)
      clear hcall hrep4 hg4 q0
      have h4s := p4.size
      have l3 : W.heap.size + 1 + 1 + 1 < w4.heap.size := p4.size
      obtain ⟨l0, l1, l2⟩ := p4.sy.lt
      obtain ⟨⟨x0, x1, x2, x3, x4⟩, xf⟩ := five p4.sy.sx.st
      obtain ⟨⟨t0, t1, t2, t3, t4, t5, t6, t7, t8⟩, tf⟩ := nine p4.tm
      obtain ⟨au, cu, rfl⟩ := ownsRow_sv p4.row
      replace p4 := Lib.hid p4
      replace r4 := Lib.hid r4
      go_wp2_with (first
        | (at_builtin; have p5 := p4.out.set (Nat.le_refl _) j' m' 0 a; have r5 := r4.out.turn (A' := fun z => W.heap.size + 4 ≤ z ∧ (Value.slice au l.length cu).ownBlock ≠ some z) (fun z hz hlt => ⟨hz, (Gr.own5 w4 W.heap.size (.string s) (.int .i64 (j' : Int)) (.int .i64 (m' : Int)) (.int .i64 0) (.int .i64 a)).block z hlt (by omega)⟩); have p7 := (p5.turn (Gr.alloc _ (.cells #[.string s, .int .i64 (j' : Int), .int .i64 (m' : Int), .int .i64 0, .int .i64 a] 53) _)).turn (Gr.alloc _ (.cells #[.int .i64 tk, .int .i64 tn, .complex .f64 tx ty, .string ts, .int .i64 ta, .int .u32 tc, .int .u64 td, .slice a1 n1 c1, .slice a2 n2 c2] 31) _); have r7 := (r5.turn (A' := fun z => W.heap.size + 4 ≤ z ∧ (Value.slice au l.length cu).ownBlock ≠ some z) (fun z hz hlt => ⟨hz, (Gr.alloc _ (.cells #[.string s, .int .i64 (j' : Int), .int .i64 (m' : Int), .int .i64 0, .int .i64 a] 53) (fun _ => False)).block z hlt (fun e => e)⟩)).turn (A' := fun z => W.heap.size + 4 ≤ z ∧ (Value.slice au l.length cu).ownBlock ≠ some z) (fun z hz hlt => ⟨hz, (Gr.alloc _ (.cells #[.int .i64 tk, .int .i64 tn, .complex .f64 tx ty, .string ts, .int .i64 ta, .int .u32 tc, .int .u64 td, .slice a1 n1 c1, .slice a2 n2 c2] 31) (fun _ => False)).block z hlt (fun e => e)⟩); clear p5 r5; refine wpList_own2 _ rfl 29 _ _ rfl (W.heap.size + 4) 31 i0 (lf 0 0 0 0 e0 0 0 0) 9 120 Tryz.underlying29 hi0 hz0 hz1 hz2 rfl (by decide) (.slice au l.length cu) l.length (vs.flatMap cellsOf) _ 1 1 [.int .i64 tk, .int .i64 tn, .complex .f64 tx ty, .string ts, .int .i64 ta, .int .u32 tc, .int .u64 td, .slice a1 n1 c1, .slice a2 n2 c2] rfl rfl (p7.row.alloc _) rfl (cells9_at _ _ (by simp only [World.size_alloc, World.size_setCell]) _ _ _ _ _ _ _ _ _ _) (by simp [Value.oneCell']) (by unfold maxLen; omega) (by omega) (by simp only [World.size_alloc, World.size_setCell]; omega) ?_; intro v' w5 hrow5 hgr5 hloc5; obtain ⟨a5, cap5, rfl⟩ := ownsRow_sv hrow5; have a6 := p7.app (Nat.le_refl _) hrow5 rfl hgr5 hloc5 r7; obtain ⟨s8, m8⟩ := p7.grown (Nat.le_refl _) hgr5; have l3 : W.heap.size + 1 + 1 + 1 < w5.heap.size := (Array.getElem?_eq_some_iff.1 m8).1; clear p7 r7 hrow5 hgr5 hloc5; obtain ⟨l0, l1, l2⟩ := s8.lt; obtain ⟨⟨x0, x1, x2, x3, x4⟩, xf⟩ := five s8.sx.st; obtain ⟨⟨t0, t1, t2, t3, t4, t5, t6, t7, t8⟩, tf⟩ := nine m8))
      by_cases h5 : y = en
      case pos =>
        rw [show (y == en) = true by simpa using h5] at ce2
        have hlt4 : j' < s.size := lt_of_pk (by rw [Hy.out, h5]; exact he0)
        have hj5 : (j' : Int) < 65536 := by have := hs.out; omega
        have e : q = .ok (l ++ [T], j' + 1, m') := by rw [He2.out, if_pos h5]
        subst e
        clear h5
        refine (ce2 _).mono ?_
        rintro e w14 ⟨rfl, g14⟩
        have q14 := a6.turn g14
        clear g14
        obtain ⟨l0, l1, l2⟩ := q14.sy.lt
        obtain ⟨⟨x0, x1, x2, x3, x4⟩, xf⟩ := five q14.sy.sx.st
        obtain ⟨⟨y0, y1, y2, y3, y4⟩, yf⟩ := five q14.sy.sx.out
        obtain ⟨⟨z0, z1, z2, z3, z4, z5, z6, z7, z8⟩, zf⟩ := nine q14.sy.tm
        obtain ⟨⟨t0, t1, t2, t3, t4, t5, t6, t7, t8⟩, tf⟩ := nine q14.tm
        have hlT := q14.size
        have pz := q14.inc (Nat.le_refl _)
        go_wp2_with fail
        go_region
        all_goals
          go_wp2_with fail
          exact bodyPost_ret (v := .tuple #[sv s (j' + 1) m' 0 a, tv kd 0 0 0 e0 0 0 0 nl (.slice a5 (l.length + 1) cap5)]) (by simp [results, Tryz.results34, go_sem, y0, y1, y2, y3, y4, z0, z1, z2, z3, z4, z5, z6, z7, z8, l0, l1, l2]) rfl ⟨_, _, rfl, (rowT_own pz.row).turn ((turn14 _ (W.heap.size + 1) (W.heap.size + 4) W.heap.size (by omega) (by omega) _ _ _ _ _ _ _ _ _ _ _ _ _ _).drew), pz.reps.turn (fun z hz hlt => (turn14 _ (W.heap.size + 1) (W.heap.size + 4) W.heap.size (by omega) (by omega) _ _ _ _ _ _ _ _ _ _ _ _ _ _).drew z hz.1 hlt), ((pz.sy.sx.gr.set5 (g := W.heap.size + 1) (Nat.le_succ _) _ _ _ _ _).set9 (g := W.heap.size + 1 + 1) (by omega) _ _ _ _ _ _ _ _ _).trans (Gr.drew _ _), by omega, hm4.out⟩
      rw [show (y == en) = false by simpa using h5] at ce2
      by_cases h6 : y = 44
      case neg =>
        rw [show (y == 44) = false by simpa using h6] at c44
        have e : q = .error (j', 41) := by rw [He2.out, if_neg h5, if_neg h6]
        subst e
        clear h5 h6
        refine (ce2 _).mono ?_
        rintro e w15 ⟨rfl, g15⟩
        have q15 := a6.turn g15
        clear g15
        obtain ⟨l0, l1, l2⟩ := q15.sy.lt
        obtain ⟨⟨x0, x1, x2, x3, x4⟩, xf⟩ := five q15.sy.sx.st
        go_wp2_with fail
        refine (c44 _).mono ?_
        rintro e w16 ⟨rfl, g16⟩
        have q16 := q15.turn g16
        clear g16 q15
        obtain ⟨l0, l1, l2⟩ := q16.sy.lt
        obtain ⟨⟨x0, x1, x2, x3, x4⟩, xf⟩ := five q16.sy.sx.st
        go_wp2_with fail
        refine (fail_new s j' m' a (j' : Int) 41 _).mono ?_
        rintro e w17 ⟨rfl, g17⟩
        have q17 := q16.turn g17
        clear g17 q16
        obtain ⟨l0, l1, l2⟩ := q17.sy.lt
        obtain ⟨⟨x0, x1, x2, x3, x4⟩, xf⟩ := five q17.sy.sx.st
        obtain ⟨⟨y0, y1, y2, y3, y4⟩, yf⟩ := five q17.sy.sx.out
        obtain ⟨⟨z0, z1, z2, z3, z4, z5, z6, z7, z8⟩, zf⟩ := nine q17.sy.tm
        go_wp2_with fail
        exact bodyPost_ret (v := .tuple #[sv s j' m' 41 (j' : Int), lf 0 0 0 0 e0 0 0 0]) (by simp [results, Tryz.results34, go_sem, y0, y1, y2, y3, y4, z0, z1, z2, z3, z4, z5, z6, z7, z8, l0, l1, l2]) rfl ⟨_, _, rfl, by decide, ((q17.sy.sx.gr.set5 (g := W.heap.size + 1) (Nat.le_succ _) _ _ _ _ _).set9 (g := W.heap.size + 1 + 1) (by omega) _ _ _ _ _ _ _ _ _)⟩
      rw [show (y == 44) = true by simpa using h6] at c44
      have hlt4 : j' < s.size := lt_of_pk (by rw [Hy.out, h6]; decide)
      have hj5 : (j' : Int) < 65536 := by have := hs.out; omega
      by_cases h7 : l.length = 255
      case pos =>
        have e : q = .error (j', 25) := by rw [He2.out, if_neg h5, if_pos h6, if_pos (by omega)]
        subst e
        have h8 : ((l.length : Int) + 1 == 256) = true := by rw [h7]; decide
        clear h5 h6 h7 hk
        refine (ce2 _).mono ?_
        rintro e w18 ⟨rfl, g18⟩
        have q18 := a6.turn g18
        clear g18
        obtain ⟨l0, l1, l2⟩ := q18.sy.lt
        obtain ⟨⟨x0, x1, x2, x3, x4⟩, xf⟩ := five q18.sy.sx.st
        go_wp2_with fail
        refine (c44 _).mono ?_
        rintro e w19 ⟨rfl, g19⟩
        have q19 := q18.turn g19
        clear g19 q18
        obtain ⟨l0, l1, l2⟩ := q19.sy.lt
        obtain ⟨⟨x0, x1, x2, x3, x4⟩, xf⟩ := five q19.sy.sx.st
        obtain ⟨⟨t0, t1, t2, t3, t4, t5, t6, t7, t8⟩, tf⟩ := nine q19.tm
        have hlT := q19.size
        go_wp2_with fail
        refine (fail_new s j' m' a (j' : Int) 25 _).mono ?_
        rintro e w20 ⟨rfl, g20⟩
        have q20 := q19.turn g20
        clear g20 q19
        obtain ⟨l0, l1, l2⟩ := q20.sy.lt
        obtain ⟨⟨x0, x1, x2, x3, x4⟩, xf⟩ := five q20.sy.sx.st
        obtain ⟨⟨y0, y1, y2, y3, y4⟩, yf⟩ := five q20.sy.sx.out
        obtain ⟨⟨z0, z1, z2, z3, z4, z5, z6, z7, z8⟩, zf⟩ := nine q20.sy.tm
        go_wp2_with fail
        exact bodyPost_ret (v := .tuple #[sv s j' m' 25 (j' : Int), lf 0 0 0 0 e0 0 0 0]) (by simp [results, Tryz.results34, go_sem, y0, y1, y2, y3, y4, z0, z1, z2, z3, z4, z5, z6, z7, z8, l0, l1, l2]) rfl ⟨_, _, rfl, by decide, ((q20.sy.sx.gr.set5 (g := W.heap.size + 1) (Nat.le_succ _) _ _ _ _ _).set9 (g := W.heap.size + 1 + 1) (by omega) _ _ _ _ _ _ _ _ _)⟩
      have h8 : ((l.length : Int) + 1 == 256) = false := by simp; omega
      have he : Hid (q = els s (prt s r) en k (j' + 1) m' (l ++ [T])) := by
        show q = _
        rw [He2.out, if_neg h5, if_pos h6, if_neg (by omega)]
      replace h7 := Lib.hid h7
      clear h5 h6
      refine (ce2 _).mono ?_
      rintro e w21 ⟨rfl, g21⟩
      have q21 := a6.turn g21
      clear g21
      obtain ⟨l0, l1, l2⟩ := q21.sy.lt
      obtain ⟨⟨x0, x1, x2, x3, x4⟩, xf⟩ := five q21.sy.sx.st
      go_wp2_with fail
      refine (c44 _).mono ?_
      rintro e w22 ⟨rfl, g22⟩
      have q22 := q21.turn g22
      clear g22 q21
      obtain ⟨l0, l1, l2⟩ := q22.sy.lt
      obtain ⟨⟨x0, x1, x2, x3, x4⟩, xf⟩ := five q22.sy.sx.st
      obtain ⟨⟨t0, t1, t2, t3, t4, t5, t6, t7, t8⟩, tf⟩ := nine q22.tm
      have hlT := q22.size
      have pz := q22.inc (Nat.le_refl _)
      go_wp2_with fail
      refine ⟨⟨_, l ++ [T], _, j' + 1, m', k, ?_, ?_, ?_, by omega, hm4, he, ?_, pz⟩, ?_⟩
      · simp
      · have := hk.out; show k + (l ++ [T]).length = 256; simp; omega
      · have := hk.out; have := h7.out; omega
      · show l ++ [T] = [] → _; simp
      · simp [intOf]; omega
end Go.Proofs.YtdmichjhmfinpaaGreatDoor
