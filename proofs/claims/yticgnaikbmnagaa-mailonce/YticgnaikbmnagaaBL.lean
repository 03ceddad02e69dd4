/-
  Carried over from another seat of ours (BL).
-/
import Derived.Test.YticgnaikbmnagaaBK
import Derived.Deep.CutRange
import Derived.Deep.RegionWith
set_option linter.unusedVariables false
set_option linter.unusedSimpArgs false
namespace Go.Proofs.Yticgnaikbmnagaa
open Go.RowKit Go.Maps
variable {S S' : Nat → Prop} {W W1 W' : World}

def FreshOk (T : Tm) : Prop := ∀ (A : Nat → Prop) (W : World) (v : Value), Rep A W T v → (∀ k, A k → k < W.heap.size) →
  Calls Try.prog 23 #[v] W fun e w' => ∃ v', e = .returned v' ∧ Rep (fun k => W.heap.size ≤ k) w' T v' ∧ Gr (fun _ => False) W w'
theorem Bx.froz {g : Nat} {k n : Int} {x y : Nat} {s : ByteArray} {a c d : Int} {bs l : Value} (h : Bx W g k n x y s a c d bs l) : ∀ j, j < 9 → W.frozen? ⟨g, j, none⟩ = false := fun j _ => by
  unfold Bx at h
  simp [World.frozen?, h]
theorem Bx.set7 {g : Nat} {k n : Int} {x y : Nat} {s : ByteArray} {a c d : Int} {bs l : Value} (h : Bx W g k n x y s a c d bs l) (u : Value) : Bx (W.setCell ⟨g, 7, none⟩ u) g k n x y s a c d u l := heap_setCell_same W g 7 _ 35 _ h
theorem Bx.set8 {g : Nat} {k n : Int} {x y : Nat} {s : ByteArray} {a c d : Int} {bs l : Value} (h : Bx W g k n x y s a c d bs l) (u : Value) : Bx (W.setCell ⟨g, 8, none⟩ u) g k n x y s a c d bs u := heap_setCell_same W g 8 _ 35 _ h

set_option maxHeartbeats 1000000 in
theorem Bx.set9 {g : Nat} {k n : Int} {x y : Nat} {s : ByteArray} {a c d : Int} {bs l : Value} (h : Bx W g k n x y s a c d bs l) (k' n' : Int) (x' y' : Nat) (s' : ByteArray) (a' c' d' : Int) (b' l' : Value) :
    Bx (((((((((W.setCell ⟨g, 0, none⟩ (.int .i64 k')).setCell ⟨g, 1, none⟩ (.int .i64 n')).setCell ⟨g, 2, none⟩ (.complex .f64 x' y')).setCell ⟨g, 3, none⟩ (.string s')).setCell ⟨g, 4, none⟩ (.int .i64 a')).setCell ⟨g, 5, none⟩ (.int .u32 c')).setCell ⟨g, 6, none⟩ (.int .u64 d')).setCell ⟨g, 7, none⟩ (b')).setCell ⟨g, 8, none⟩ (l')) g k' n' x' y' s' a' c' d' b' l' ∧ Gr (fun i => i = g) W (((((((((W.setCell ⟨g, 0, none⟩ (.int .i64 k')).setCell ⟨g, 1, none⟩ (.int .i64 n')).setCell ⟨g, 2, none⟩ (.complex .f64 x' y')).setCell ⟨g, 3, none⟩ (.string s')).setCell ⟨g, 4, none⟩ (.int .i64 a')).setCell ⟨g, 5, none⟩ (.int .u32 c')).setCell ⟨g, 6, none⟩ (.int .u64 d')).setCell ⟨g, 7, none⟩ (b')).setCell ⟨g, 8, none⟩ (l')) := by
  refine ⟨?_, ?_⟩
  · have h0 := heap_setCell_same W g 0 _ 35 (.int .i64 k') h
    simp only [List.setIfInBounds_toArray, List.set_cons_zero, List.set_cons_succ] at h0
    have h1 := heap_setCell_same _ g 1 _ 35 (.int .i64 n') h0
    simp only [List.setIfInBounds_toArray, List.set_cons_zero, List.set_cons_succ] at h1
    have h2 := heap_setCell_same _ g 2 _ 35 (.complex .f64 x' y') h1
    simp only [List.setIfInBounds_toArray, List.set_cons_zero, List.set_cons_succ] at h2
    have h3 := heap_setCell_same _ g 3 _ 35 (.string s') h2
    simp only [List.setIfInBounds_toArray, List.set_cons_zero, List.set_cons_succ] at h3
    have h4 := heap_setCell_same _ g 4 _ 35 (.int .i64 a') h3
    simp only [List.setIfInBounds_toArray, List.set_cons_zero, List.set_cons_succ] at h4
    have h5 := heap_setCell_same _ g 5 _ 35 (.int .u32 c') h4
    simp only [List.setIfInBounds_toArray, List.set_cons_zero, List.set_cons_succ] at h5
    have h6 := heap_setCell_same _ g 6 _ 35 (.int .u64 d') h5
    simp only [List.setIfInBounds_toArray, List.set_cons_zero, List.set_cons_succ] at h6
    have h7 := heap_setCell_same _ g 7 _ 35 (b') h6
    simp only [List.setIfInBounds_toArray, List.set_cons_zero, List.set_cons_succ] at h7
    have h8 := heap_setCell_same _ g 8 _ 35 (l') h7
    simp only [List.setIfInBounds_toArray, List.set_cons_zero, List.set_cons_succ] at h8
    exact h8
  · exact (((((((((Gr.set (S := fun i => i = g) _ ⟨g, 0, none⟩ _ rfl).trans (Gr.set (S := fun i => i = g) _ ⟨g, 1, none⟩ _ rfl)).trans (Gr.set (S := fun i => i = g) _ ⟨g, 2, none⟩ _ rfl)).trans (Gr.set (S := fun i => i = g) _ ⟨g, 3, none⟩ _ rfl)).trans (Gr.set (S := fun i => i = g) _ ⟨g, 4, none⟩ _ rfl)).trans (Gr.set (S := fun i => i = g) _ ⟨g, 5, none⟩ _ rfl)).trans (Gr.set (S := fun i => i = g) _ ⟨g, 6, none⟩ _ rfl)).trans (Gr.set (S := fun i => i = g) _ ⟨g, 7, none⟩ _ rfl)).trans (Gr.set (S := fun i => i = g) _ ⟨g, 8, none⟩ _ rfl))
set_option maxHeartbeats 1000000 in
/-- Nine stores into a row of terms. -/
theorem row9 {base g n cap : Nat} {P Q : List Value} {o0 o1 o2 o3 o4 o5 o6 o7 o8 : Value} (h : W.ownsRow base 35 9 (.slice (some ⟨g, 0, none⟩) n cap) n (P ++ (o0 :: o1 :: o2 :: o3 :: o4 :: o5 :: o6 :: o7 :: o8 :: Q))) (j : Nat) (hj : P.length = j) (k' n' : Int) (x' y' : Nat) (s' : ByteArray) (a' c' d' : Int) (b' l' : Value) :
    (((((((((W.setCell ⟨g, j, none⟩ (.int .i64 k')).setCell ⟨g, j + 1, none⟩ (.int .i64 n')).setCell ⟨g, j + 2, none⟩ (.complex .f64 x' y')).setCell ⟨g, j + 3, none⟩ (.string s')).setCell ⟨g, j + 4, none⟩ (.int .i64 a')).setCell ⟨g, j + 5, none⟩ (.int .u32 c')).setCell ⟨g, j + 6, none⟩ (.int .u64 d')).setCell ⟨g, j + 7, none⟩ (b')).setCell ⟨g, j + 8, none⟩ (l')).ownsRow base 35 9 (.slice (some ⟨g, 0, none⟩) n cap) n (P ++ (cellsOf (tv k' n' x' y' s' a' c' d' b' l') ++ Q)) ∧ Gr (fun i => i = g) W (((((((((W.setCell ⟨g, j, none⟩ (.int .i64 k')).setCell ⟨g, j + 1, none⟩ (.int .i64 n')).setCell ⟨g, j + 2, none⟩ (.complex .f64 x' y')).setCell ⟨g, j + 3, none⟩ (.string s')).setCell ⟨g, j + 4, none⟩ (.int .i64 a')).setCell ⟨g, j + 5, none⟩ (.int .u32 c')).setCell ⟨g, j + 6, none⟩ (.int .u64 d')).setCell ⟨g, j + 7, none⟩ (b')).setCell ⟨g, j + 8, none⟩ (l')) := by
  subst hj
  refine ⟨?_, ?_⟩
  · have h0 := (h.stored P.length (.int .i64 k')).1
    have h1 := (h0.stored (P.length + 1) (.int .i64 n')).1
    have h2 := (h1.stored (P.length + 2) (.complex .f64 x' y')).1
    have h3 := (h2.stored (P.length + 3) (.string s')).1
    have h4 := (h3.stored (P.length + 4) (.int .i64 a')).1
    have h5 := (h4.stored (P.length + 5) (.int .u32 c')).1
    have h6 := (h5.stored (P.length + 6) (.int .u64 d')).1
    have h7 := (h6.stored (P.length + 7) (b')).1
    have h8 := (h7.stored (P.length + 8) (l')).1
    have e : (((((((((P ++ (o0 :: o1 :: o2 :: o3 :: o4 :: o5 :: o6 :: o7 :: o8 :: Q)).set P.length (.int .i64 k')).set (P.length + 1) (.int .i64 n')).set (P.length + 2) (.complex .f64 x' y')).set (P.length + 3) (.string s')).set (P.length + 4) (.int .i64 a')).set (P.length + 5) (.int .u32 c')).set (P.length + 6) (.int .u64 d')).set (P.length + 7) b').set (P.length + 8) l' = P ++ (cellsOf (tv k' n' x' y' s' a' c' d' b' l') ++ Q) := by
      simp [cellsOf, List.set_append]
    rw [e] at h8
    exact h8
  · exact (((((((((Gr.set (S := fun i => i = g) _ ⟨g, P.length, none⟩ _ rfl).trans (Gr.set (S := fun i => i = g) _ ⟨g, P.length + 1, none⟩ _ rfl)).trans (Gr.set (S := fun i => i = g) _ ⟨g, P.length + 2, none⟩ _ rfl)).trans (Gr.set (S := fun i => i = g) _ ⟨g, P.length + 3, none⟩ _ rfl)).trans (Gr.set (S := fun i => i = g) _ ⟨g, P.length + 4, none⟩ _ rfl)).trans (Gr.set (S := fun i => i = g) _ ⟨g, P.length + 5, none⟩ _ rfl)).trans (Gr.set (S := fun i => i = g) _ ⟨g, P.length + 6, none⟩ _ rfl)).trans (Gr.set (S := fun i => i = g) _ ⟨g, P.length + 7, none⟩ _ rfl)).trans (Gr.set (S := fun i => i = g) _ ⟨g, P.length + 8, none⟩ _ rfl))
theorem ownsRow_mono {base base' : Nat} {e : TypeId} {size : Nat} {v : Value} {n : Nat} {xs : List Value} (h : W.ownsRow base e size v n xs) (hb : base' ≤ base) : W.ownsRow base' e size v n xs := by
  refine ⟨h.1, ?_⟩
  rcases h.2 with h0 | ⟨g, cap, cur, rfl, hg, h2, h3⟩
  · exact .inl h0
  · exact .inr ⟨g, cap, cur, rfl, by omega, h2, h3⟩
theorem Reps.len {A : Nat → Prop} : ∀ {l : List Tm} {vs : List Value}, Reps A W l vs → vs.length = l.length
  | [], vs, h => by cases h; rfl
  | t :: l, vs, h => by
    obtain ⟨v, r, rfl, _, h2⟩ := h
    simp [Reps.len h2]
theorem Reps.get {A : Nat → Prop} : ∀ {l : List Tm} {vs : List Value}, Reps A W l vs → ∀ (j : Nat) (x : Tm), l[j]? = some x → ∃ v, vs[j]? = some v ∧ Rep A W x v
  | [], vs, h, j, x, hx => by simp at hx
  | t :: l, vs, h, 0, x, hx => by
    obtain ⟨v, r, rfl, h1, _⟩ := h
    simp at hx; subst hx
    exact ⟨v, rfl, h1⟩
  | t :: l, vs, h, j + 1, x, hx => by
    obtain ⟨v, r, rfl, _, h2⟩ := h
    obtain ⟨v', h3, h4⟩ := Reps.get h2 j x (by simpa using hx)
    exact ⟨v', by simpa using h3, h4⟩
theorem Reps.flat {A : Nat → Prop} : ∀ {l : List Tm} {vs : List Value}, Reps A W l vs → (vs.flatMap cellsOf).length = l.length * 9
  | [], vs, h => by cases h; rfl
  | t :: l, vs, h => by
    obtain ⟨v, r, rfl, h1, h2⟩ := h
    rw [List.flatMap_cons, List.length_append, Rep.nine h1, Reps.flat h2, List.length_cons]; omega
set_option maxRecDepth 20000 in
set_option maxHeartbeats 1000000 in
theorem fresh_step (t : Lf) (bs : List Int) (l : List Tm) (hbs : bs.length ≤ 100000) (hl : l.length ≤ 100000) (ih : ∀ (k : Nat) x, l[k]? = some x → FreshOk x) : FreshOk (.mk t bs l) := by
  intro A W v hrep hA
  obtain ⟨bv, lv, vs, rfl, hrb, hrt, hrs⟩ := hrep
  replace hrs : Reps A W l vs := hrs
  obtain ⟨a1, c1, rfl⟩ : ∃ a c, bv = .slice a bs.length c := by
    rcases hrb with ⟨rfl, a, c, rfl⟩ | ⟨g, cap, cur, rfl, _⟩
    · exact ⟨a, c, rfl⟩
    · exact ⟨_, cap, rfl⟩
  obtain ⟨a2, c2, rfl⟩ : ∃ a c, lv = .slice a l.length c := by
    rcases hrt with ⟨e, a, c, rfl⟩ | ⟨g, cap, cur, rfl, _⟩
    · exact ⟨a, c, by rw [e]⟩
    · exact ⟨_, cap, rfl⟩
  have hB := fun w (g : Gr (fun _ => False) W w) => cloneB_c w _ bs (hrb.turn (A' := A) (W' := w) (fun k hk _ => ⟨hk, g.block k (hA k hk) (fun e => e)⟩)).sb (by omega)
  have hT := fun w (g : Gr (fun _ => False) W w) => cloneT_c A w _ l vs (hrt.turn (A' := A) (W' := w) (fun k hk _ => ⟨hk, g.block k (hA k hk) (fun e => e)⟩)) (hrs.turn (A' := A) (W' := w) (fun k hk _ => ⟨hk, g.block k (hA k hk) (fun e => e)⟩)) hl
  obtain ⟨tk, tn, tx, ty, tS, ta, tc, td⟩ := t
  have hmI : (l.length : Int) ≤ 100000 := by omega
  replace hB := Lib.hid hB
  replace hT := Lib.hid hT
  go_enter Try.func23, Try.ntmps23
  go_upto_region 1 with fail
  generalize hW2 : World.alloc (World.alloc W _) _ = W2
  have g2 : Gr (fun _ => False) W W2 := hW2 ▸ ((Gr.alloc _ _ _).trans (Gr.alloc _ _ _))
  have hBx : Bx W2 W.heap.size tk tn tx ty tS ta tc td (.slice a1 bs.length c1) (.slice a2 l.length c2) := hW2 ▸ ((Gr.alloc _ _ (fun _ => False)).keep (heap_alloc_new W _) (fun e => e))
  have hRs : Bx W2 (W.heap.size + 1) 0 0 0 0 e0 0 0 0 nl nl := by
    have := heap_alloc_new (W.alloc (.cells #[.int .i64 tk, .int .i64 tn, .complex .f64 tx ty, .string tS, .int .i64 ta, .int .u32 tc, .int .u64 td, .slice a1 bs.length c1, .slice a2 l.length c2] 35)) (.cells #[.int .i64 0, .int .i64 0, .complex .f64 0 0, .string e0, .int .i64 0, .int .u32 0, .int .u64 0, nl, nl] 35)
    rw [World.size_alloc] at this
    rw [← hW2]; exact this
  have hs2 : W2.heap.size = W.heap.size + 2 := by rw [← hW2]; simp
  clear hW2
  have hBf := hBx.facts
  have hBz := Lib.hid hBx
  go_cut [] from 5 to 12 (fun wx => ∃ (vB vT : Value), Bx wx W.heap.size tk tn tx ty tS ta tc td vB vT ∧ Bx wx (W.heap.size + 1) 0 0 0 0 e0 0 0 0 nl nl ∧ Ob (W.heap.size + 2) wx vB bs ∧ wx.ownsRow (W.heap.size + 2) 35 9 vT l.length (vs.flatMap cellsOf) ∧ (∀ k, vB.ownBlock = some k → vT.ownBlock ≠ some k) ∧ Gr (fun _ => False) W wx)
  case first =>
    go_region_with (first
      | (go_at_call 44; refine (hB.out _ ?_).mono ?_; (first | exact g2.trans (Gr.drew _ _) | exact (g2.trans (Gr.drew _ _)).trans gT); rintro e wB ⟨vB, rfl, oB, gB⟩; have fB := (hBz.out.gr ((by first | exact (Gr.drew _ _).trans gB | exact ((Gr.drew _ _).trans gT).trans gB) : Gr (fun _ => False) W2 wB) (fun e => e)); have fB1 := fB.facts; have fB2 := fB.froz 7 (by decide); have fB3 := fB.froz 8 (by decide); replace fB := Lib.hid fB; obtain ⟨xB, yB, rfl⟩ := oB.sv)
      | (go_at_call 45; refine (hT.out _ ?_).mono ?_; (first | exact g2.trans (Gr.drew _ _) | exact (g2.trans (Gr.drew _ _)).trans gB); rintro e wT ⟨vT, rfl, oT, gT⟩; have fT := (hBz.out.gr ((by first | exact (Gr.drew _ _).trans gT | exact ((Gr.drew _ _).trans gB).trans gT) : Gr (fun _ => False) W2 wT) (fun e => e)); have fT1 := fT.facts; have fT2 := fT.froz 7 (by decide); have fT3 := fT.froz 8 (by decide); replace fT := Lib.hid fT; obtain ⟨xT, yT, rfl⟩ := ownsRow_sv oT)
      | fail)
    all_goals
      go_wp2_with fail
      go_meet
      have gBT := gB.trans gT
      have hb2 : W.heap.size + 2 ≤ wB.heap.size := by have := gB.size; have e : W2.drew.heap.size = W2.heap.size := rfl; omega
      have t7 : Gr (fun k => k = W.heap.size) wT ((wT.setCell ⟨W.heap.size, 7, none⟩ (.slice xB bs.length yB)).setCell ⟨W.heap.size, 8, none⟩ (.slice xT l.length yT)) := (Gr.set (S := fun k => k = W.heap.size) _ ⟨W.heap.size, 7, none⟩ _ rfl).trans (Gr.set (S := fun k => k = W.heap.size) _ ⟨W.heap.size, 8, none⟩ _ rfl)
      have oB2 := oB.mono (base' := W.heap.size + 2) (by have e : W2.drew.heap.size = W2.heap.size := rfl; omega)
      have oT2 := ownsRow_mono oT hb2
      refine ⟨.slice xB bs.length yB, .slice xT l.length yT, (fT.out.set7 _).set8 _, (hRs.gr ((Gr.drew _ _).trans gBT) (fun e => e)).gr t7 (by omega), (oB2.g0 gT).gr t7 (fun k hk _ e => by omega), ownsRow_gr oT2 t7 (fun k hk => by omega), fun k e e' => ?_, ((g2.trans (Gr.drew _ _)).trans gBT).trans' t7 (fun i hi e => by omega)⟩
      have h1 := (ownsRow_lt oB.row k e).2
      have h2 := (ownsRow_lt oT k e').1
      omega
  case rest =>
  obtain ⟨vB, vT, hbx, hrz, oB, oT, hne, gx⟩ := hcut
  obtain ⟨xB, yB, rfl⟩ := oB.sv
  obtain ⟨xT, yT, rfl⟩ := ownsRow_sv oT
  clear hBf hBz hBx hRs hB hT hrb hrt
  have hbf := hbx.facts
  go_wp2_with fail
  clear hbf
  go_loopw [16] (fun i wr => ∃ (j : Nat) (vsn : List Value), j ≤ l.length ∧ i = .int .i64 (j : Int) ∧ Bx wr W.heap.size tk tn tx ty tS ta tc td (.slice xB bs.length yB) (.slice xT l.length yT) ∧ Bx wr (W.heap.size + 1) 0 0 0 0 e0 0 0 0 nl nl ∧ Ob (W.heap.size + 2) wr (.slice xB bs.length yB) bs ∧
    wr.ownsRow (W.heap.size + 2) 35 9 (.slice xT l.length yT) l.length ((vsn ++ vs.drop j).flatMap cellsOf) ∧ Reps (fun k => W.heap.size + 2 ≤ k ∧ (Value.slice xT l.length yT).ownBlock ≠ some k) wr (l.take j) vsn ∧ Gr (fun _ => False) W wr) (fun i _ => l.length - (intOf i).toNat)
  case atStart => exact ⟨0, [], Nat.zero_le _, rfl, hbx, hrz, oB, by simpa using oT, rfl, gx⟩
  case round =>
    obtain ⟨j, vsn, hj, rfl, hb1, hz1, oB1, oT1, hr1, g1⟩ := hrel
    by_cases hjl : j < l.length
    · obtain ⟨x, hx⟩ : ∃ x, l[j]? = some x := ⟨_, List.getElem?_eq_getElem hjl⟩
      have hfr := ih j x hx
      have hrsw := hrs.turn (A' := A) (W' := wr) (fun k hk _ => ⟨hk, g1.block k (hA k hk) (fun e => e)⟩)
      obtain ⟨vj, hvj, hrepj⟩ := hrsw.get j x hx
      obtain ⟨P, hP, hPl⟩ : ∃ P, vsn.flatMap cellsOf = P ∧ P.length = j * 9 := ⟨_, rfl, by rw [hr1.flat, List.length_take, Nat.min_eq_left hj]⟩
      have hsplit : (vsn ++ vs.drop j).flatMap cellsOf = P ++ (cellsOf vj ++ (vs.drop (j + 1)).flatMap cellsOf) := by
        rw [List.flatMap_append, hP, List.drop_eq_getElem_cons (by rw [hrs.len]; exact hjl), List.flatMap_cons]
        rw [List.getElem?_eq_getElem (by rw [hrs.len]; exact hjl)] at hvj
        cases hvj
        rfl
      obtain ⟨sk, sn, sx, sy, sS, sa, sc, sd, b1, m1, d1, b2, m2, d2, rfl⟩ := hrepj.agg
      rw [hsplit] at oT1
      obtain ⟨g', rfl, hg'⟩ : ∃ g', xT = some ⟨g', 0, none⟩ ∧ W.heap.size + 2 ≤ g' := by
        rcases oT1.2 with ⟨_, h2⟩ | ⟨g', cap, cur, e, hg', _⟩
        · omega
        · simp only [Value.slice.injEq, true_and] at e
          exact ⟨g', e.1, hg'⟩
      have hg'lt := (ownsRow_lt oT1 g' rfl).2
      have hcl : ∀ i u, (cellsOf (tv sk sn sx sy sS sa sc sd (.slice b1 m1 d1) (.slice b2 m2 d2)))[i]? = some u → wr.cell? ⟨g', j * 9 + i, none⟩ = some u := fun i u hu => by
        have hi : i < 9 := (List.getElem?_eq_some_iff.1 hu).1
        have := oT1.cells (g := g') rfl (j * 9 + i) u (by rw [List.getElem?_append_right (by omega), hPl, List.getElem?_append_left (by rw [hrepj.nine]; omega), show j * 9 + i - j * 9 = i by omega]; exact hu)
        rw [Addr.add_lit, Nat.zero_add] at this
        exact this
      have hfz := fun i => oT1.frozenAt (g := g') i
      have e0 : wr.cell? ⟨g', j * 9, none⟩ = some (.int .i64 sk) := hcl 0 _ rfl
      have e1 : wr.cell? ⟨g', j * 9 + 1, none⟩ = some (.int .i64 sn) := hcl 1 _ rfl
      have e2 : wr.cell? ⟨g', j * 9 + 2, none⟩ = some (.complex .f64 sx sy) := hcl 2 _ rfl
      have e3 : wr.cell? ⟨g', j * 9 + 3, none⟩ = some (.string sS) := hcl 3 _ rfl
      have e4 : wr.cell? ⟨g', j * 9 + 4, none⟩ = some (.int .i64 sa) := hcl 4 _ rfl
      have e5 : wr.cell? ⟨g', j * 9 + 5, none⟩ = some (.int .u32 sc) := hcl 5 _ rfl
      have e6 : wr.cell? ⟨g', j * 9 + 6, none⟩ = some (.int .u64 sd) := hcl 6 _ rfl
      have e7 : wr.cell? ⟨g', j * 9 + 7, none⟩ = some (.slice b1 m1 d1) := hcl 7 _ rfl
      have e8 : wr.cell? ⟨g', j * 9 + 8, none⟩ = some (.slice b2 m2 d2) := hcl 8 _ rfl
      have f0 := hfz (j * 9)
      have f1 := hfz (j * 9 + 1)
      have f2 := hfz (j * 9 + 2)
      have f3 := hfz (j * 9 + 3)
      have f4 := hfz (j * 9 + 4)
      have f5 := hfz (j * 9 + 5)
      have f6 := hfz (j * 9 + 6)
      have f7 := hfz (j * 9 + 7)
      have f8 := hfz (j * 9 + 8)
      clear hcl hfz
      have hjI : (j : Int) < (l.length : Int) := by omega
      have hn1 : W.heap.size ≠ g' := by omega
      have hn2 : wr.heap.size ≠ g' := by omega
      have hbf := hb1.facts
      have G5 : Gr (fun _ => False) wr (wr.alloc (.cells #[.int .i64 sk, .int .i64 sn, .complex .f64 sx sy, .string sS, .int .i64 sa, .int .u32 sc, .int .u64 sd, .slice b1 m1 d1, .slice b2 m2 d2] 35)).drew := (Gr.alloc _ _ _).trans (Gr.drew _ _)
      have hF := Lib.hid (hfr A (wr.alloc (.cells #[.int .i64 sk, .int .i64 sn, .complex .f64 sx sy, .string sS, .int .i64 sa, .int .u32 sc, .int .u64 sd, .slice b1 m1 d1, .slice b2 m2 d2] 35)).drew _ (hrepj.turn (A' := A) (fun k hk _ => ⟨hk, G5.block k (by have := hA k hk; have := g1.size; omega) (fun e => e)⟩)) (fun k hk => by have := hA k hk; have := g1.size; simp; omega))
      have hpb : Bx (wr.alloc (.cells #[.int .i64 sk, .int .i64 sn, .complex .f64 sx sy, .string sS, .int .i64 sa, .int .u32 sc, .int .u64 sd, .slice b1 m1 d1, .slice b2 m2 d2] 35)).drew wr.heap.size sk sn sx sy sS sa sc sd (.slice b1 m1 d1) (.slice b2 m2 d2) := (Gr.drew _ (fun _ => False)).keep (heap_alloc_new wr _) (fun e => e)
      replace hpb := Lib.hid hpb
      have hl5 : wr.heap.size < (wr.alloc (.cells #[.int .i64 sk, .int .i64 sn, .complex .f64 sx sy, .string sS, .int .i64 sa, .int .u32 sc, .int .u64 sd, .slice b1 m1 d1, .slice b2 m2 d2] 35)).heap.size := by simp
      have hpf := hpb.out.facts
      have hNlt : W.heap.size < wr.heap.size := hb1.lt
      have hb5 := (hb1.gr G5 (fun e => e)).facts
      go_wp2_with fail
      go_region_with (first
        | (go_at_call 23; with_reducible refine (Hid.out hF).mono ?_; rintro e w1 ⟨v', rfl, hrep', g5⟩; obtain ⟨rk, rn, rx, ry, rS, ra, rc', rd, b3, m3, d3, b4, m4, d4, rfl⟩ := hrep'.agg; have G6 := G5.trans g5; have hbN := hb1.gr G6 (fun e => e); have hbNf := hbN.facts; have oT5 := ownsRow_gr oT1 G6 (fun _ _ e => e); have hcw := fun i => World.cell?_of_block (w' := w1) (w := wr) (a := ⟨g', j * 9 + i, none⟩) (G6.block g' hg'lt (fun e => e)); have y0 := (World.cell?_of_block (w' := w1) (w := wr) (a := ⟨g', j * 9, none⟩) (G6.block g' hg'lt (fun e => e))).trans e0; have y1 := (hcw 1).trans e1; have y2 := (hcw 2).trans e2; have y3 := (hcw 3).trans e3; have y4 := (hcw 4).trans e4; have y5 := (hcw 5).trans e5; have y6 := (hcw 6).trans e6; have y7 := (hcw 7).trans e7; have y8 := (hcw 8).trans e8; have z0 := oT5.frozenAt (g := g') (j * 9); have z1 := oT5.frozenAt (g := g') (j * 9 + 1); have z2 := oT5.frozenAt (g := g') (j * 9 + 2); have z3 := oT5.frozenAt (g := g') (j * 9 + 3); have z4 := oT5.frozenAt (g := g') (j * 9 + 4); have z5 := oT5.frozenAt (g := g') (j * 9 + 5); have z6 := oT5.frozenAt (g := g') (j * 9 + 6); have z7 := oT5.frozenAt (g := g') (j * 9 + 7); have z8 := oT5.frozenAt (g := g') (j * 9 + 8); clear hcw; replace hrep' := Lib.hid hrep'; replace oT5 := Lib.hid oT5)
        | fail)
      all_goals
        obtain ⟨q9, t9⟩ := row9 (Hid.out oT5) (j * 9) hPl rk rn rx ry rS ra rc' rd (.slice b3 m3 d3) (.slice b4 m4 d4)
        replace q9 := Lib.hid q9
        replace t9 := Lib.hid t9
        go_wp2_with fail
        refine ⟨⟨j + 1, vsn ++ [tv rk rn rx ry rS ra rc' rd (.slice b3 m3 d3) (.slice b4 m4 d4)], by omega, by go_num, hbN.gr t9.out hn1, (hz1.gr G6 (fun e => e)).gr t9.out (by omega), (oB1.g0 G6).gr t9.out (fun k _ hk e => hne k hk (by rw [e]; rfl)), ?_, ?_, (g1.trans G6).trans' t9.out (fun i hi e => by omega)⟩, by simp [intOf]; omega⟩
        · have : (vsn ++ [tv rk rn rx ry rS ra rc' rd (.slice b3 m3 d3) (.slice b4 m4 d4)] ++ vs.drop (j + 1)).flatMap cellsOf = P ++ (cellsOf (tv rk rn rx ry rS ra rc' rd (.slice b3 m3 d3) (.slice b4 m4 d4)) ++ (vs.drop (j + 1)).flatMap cellsOf) := by
            rw [List.flatMap_append, List.flatMap_append, hP, List.flatMap_singleton, List.append_assoc]
          rw [this]; exact q9.out
        · have hx2 : l.take (j + 1) = l.take j ++ [x] := by rw [List.take_add_one, hx]; rfl
          rw [hx2]
          refine Reps.snoc ?_ ?_
          · exact hr1.turn (fun k hk hlt => ⟨hk, (t9.out.block k (Nat.lt_of_lt_of_le hlt G6.size) (fun e => hk.2 (by rw [e]; rfl))).trans (G6.block k hlt (fun e => e))⟩)
          · refine hrep'.out.turn (fun k hk hlt => ?_)
            have h5 := G5.size
            have hk' : g' < k := by omega
            exact ⟨⟨by omega, fun e => by simp [Value.ownBlock] at e; omega⟩, t9.out.block k hlt (by omega)⟩
    · obtain rfl : j = l.length := by omega
      have hvs : vs.drop l.length = [] := List.drop_eq_nil_of_le (Nat.le_of_eq hrs.len)
      rw [hvs, List.append_nil] at oT1
      rw [List.take_length] at hr1
      have hf1 := hb1.facts
      obtain ⟨q9, t9⟩ := hz1.set9 tk tn tx ty tS ta tc td (.slice xB bs.length yB) (.slice xT l.length yT)
      have hz2 := fun j hj => hz1.froz j hj
      have y0 := hz2 0 (by decide)
      have y1 := hz2 1 (by decide)
      have y2 := hz2 2 (by decide)
      have y3 := hz2 3 (by decide)
      have y4 := hz2 4 (by decide)
      have y5 := hz2 5 (by decide)
      have y6 := hz2 6 (by decide)
      have y7 := hz2 7 (by decide)
      have y8 := hz2 8 (by decide)
      clear hz2
      have hzf := hz1.facts
      obtain ⟨p0, p1, p2, p3, p4, p5, p6, p7, p8⟩ := q9.facts
      go_wp2
      refine bodyPost_ret (v := tv tk tn tx ty tS ta tc td (.slice xB bs.length yB) (.slice xT l.length yT)) (by simp [results, Try.results23, go_sem, p0, p1, p2, p3, p4, p5, p6, p7, p8]) rfl ⟨_, rfl, ?_, g1.trans' t9 (fun i hi e => by omega)⟩
      refine ⟨_, _, vsn, rfl, ?_, ?_, ?_⟩
      · exact (rowB_own (oB1.gr t9 (fun k hk _ e => by omega)).row).turn (A' := fun k => W.heap.size ≤ k) (fun k hk _ => ⟨by omega, rfl⟩)
      · exact (rowT_own (ownsRow_gr oT1 t9 (fun k hk => by omega))).turn (A' := fun k => W.heap.size ≤ k) (fun k hk _ => ⟨by omega, rfl⟩)
      · exact hr1.turn (fun k hk hlt => ⟨by omega, t9.block k hlt (by omega)⟩)

/-- No row of a row's trees is too long. -/
def thinL : List Tm → Prop
  | [] => True
  | .mk _ bs l :: r => (bs.length ≤ 100000 ∧ l.length ≤ 100000 ∧ thinL l) ∧ thinL r
/-- No row of a tree is too long. -/
def thin : Tm → Prop
  | .mk _ bs l => bs.length ≤ 100000 ∧ l.length ≤ 100000 ∧ thinL l
theorem thinL_cons (x : Tm) (l : List Tm) : thinL (x :: l) = (thin x ∧ thinL l) := by cases x; rw [thinL, thin]
theorem thinL_get : ∀ (l : List Tm), thinL l → ∀ (k : Nat) x, l[k]? = some x → thin x
  | [], _, k, x, h => by simp at h
  | y :: l, ht, 0, x, h => by simp at h; subst h; rw [thinL_cons] at ht; exact ht.1
  | y :: l, ht, k + 1, x, h => by rw [thinL_cons] at ht; exact thinL_get l ht.2 k x (by simpa using h)
theorem fresh_n : ∀ (n : Nat) (T : Tm), hgt T ≤ n → thin T → FreshOk T
  | 0, .mk t bs l, h, _ => by rw [hgt] at h; omega
  | n + 1, .mk t bs l, h, ht => by
    rw [thin] at ht
    exact fresh_step t bs l ht.1 ht.2.1 (fun k x hx => fresh_n n x (by have := hgtL_mem l k x hx; rw [hgt] at h; omega) (thinL_get l ht.2.2 k x hx))
theorem fresh_t (T : Tm) (ht : thin T) : FreshOk T := fresh_n (hgt T) T (Nat.le_refl _) ht
end Go.Proofs.Yticgnaikbmnagaa



