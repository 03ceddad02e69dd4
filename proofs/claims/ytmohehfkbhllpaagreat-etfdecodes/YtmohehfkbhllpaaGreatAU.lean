/-
  Carried over from another seat of ours (AU).
-/
import Derived.Test.YtmohehfkbhllpaaGreatAS
import Derived.Test.YtmohehfkbhllpaaGreatAT
set_option linter.unusedVariables false
set_option linter.unusedSimpArgs false
namespace Go.Proofs.YtmohehfkbhllpaaGreat
open Go.RowKit Go.Maps

theorem all_L : ∀ (l : List Tm), ∀ x ∈ l, AllOk x
  | [], x, h => by cases h
  | .mk t bs ys :: l, x, h => by
    rcases List.mem_cons.1 h with e | e
    · rw [e]; exact all_c t bs ys (all_L ys)
    · exact all_L l x e
theorem all_T : ∀ T : Tm, AllOk T
  | .mk t bs l => all_c t bs l (all_L l)

theorem part_at {A : Nat → Prop} {W : World} {l : List Tm} {vs : List Value} {g : Nat} {cur : Array Value} {t : TypeId} {z : Nat × Nat} (hcur : W.heap[g]? = some (.cells cur t z)) (htake : cur.toList.take (l.length * 9) = vs.flatMap cellsOf) (hreps : Reps A W l vs) (k : Nat) (x : Lf) (bs : List Int) (xl : List Tm) (hx : l[k]? = some (.mk x bs xl)) :
    ∃ a1 n1 c1 a2 c2, RowB A W bs (.slice a1 n1 c1) ∧ W.cell? ⟨g, k * 9, none⟩ = some (.int .i64 x.k) ∧ W.cell? ⟨g, k * 9 + 1, none⟩ = some (.int .i64 x.n) ∧ W.cell? ⟨g, k * 9 + 2, none⟩ = some (.complex .f64 x.x x.y) ∧ W.cell? ⟨g, k * 9 + 3, none⟩ = some (.string x.s) ∧
      W.cell? ⟨g, k * 9 + 4, none⟩ = some (.int .i64 x.a) ∧ W.cell? ⟨g, k * 9 + 5, none⟩ = some (.int .u32 x.c) ∧ W.cell? ⟨g, k * 9 + 6, none⟩ = some (.int .u64 x.d) ∧ W.cell? ⟨g, k * 9 + 7, none⟩ = some (.slice a1 n1 c1) ∧ W.cell? ⟨g, k * 9 + 8, none⟩ = some (.slice a2 xl.length c2) := by
  obtain ⟨tk, tn, tx, ty, ts, ta, tc, td, a1, n1, c1, a2, n2, c2, hr, e0', e1, e2, e3, e4, e5, e6, e7, e8⟩ := row_at hcur htake hreps k _ hx
  obtain ⟨bv, lv, ws, e, h1, h2, h3⟩ := hr
  obtain ⟨p2, r2, rfl⟩ : ∃ p r, lv = .slice p xl.length r := by
    rcases h2 with ⟨e', a, c, rfl⟩ | ⟨g', cap, cur, rfl, _⟩
    · exact ⟨a, c, by rw [e']⟩
    · exact ⟨_, _, rfl⟩
  simp only [tv, Value.agg.injEq, Array.mk.injEq, List.cons.injEq, Value.int.injEq, Value.complex.injEq, Value.string.injEq, true_and, and_true] at e
  obtain ⟨rfl, rfl, ⟨rfl, rfl⟩, rfl, rfl, rfl, rfl, rfl, e⟩ := e
  cases e
  exact ⟨a1, n1, c1, a2, c2, h1, e0', e1, e2, e3, e4, e5, e6, e7, e8⟩

theorem rowT_cur {A : Nat → Prop} {W : World} {N n : Nat} {u : Value} {xs : List Value} (h : W.ownsRow N 31 9 u n xs) (hn : 1 ≤ n) : ∃ g cap cur, u = .slice (some ⟨g, 0, none⟩) n cap ∧ W.heap[g]? = some (.cells cur 31 (0, 0)) ∧ cur.toList.take (n * 9) = xs := by
  rcases h.2 with ⟨_, e⟩ | ⟨g, cap, cur, e, _, h2, _, _, _, h3⟩
  · omega
  · exact ⟨g, cap, cur, e, h2, h3⟩

set_option maxRecDepth 200000 in
set_option maxHeartbeats 1600000 in
theorem same_c {A A' : Nat → Prop} (W : World) (T : Tm) (v v' : Value) (h : Rep A W T v) (h' : Rep A' W T v') :
    Calls Tryz.prog 7 #[v, v'] W fun e w' => e = .returned (.bool true) ∧ Gr (fun _ => False) W w' := by
  have hT := all_T T
  have hp := allT_pos T 5000 (by omega)
  have hle := allT_le T 5000
  obtain ⟨tk, tn, tx, ty, ts, ta, tc, td, a1, n1, c1, a2, n2, c2, rfl⟩ := h.agg
  obtain ⟨sk, sn, sx, sy, ss, sa, sc, sd, b1, m1, d1, b2, m2, d2, rfl⟩ := h'.agg
  have hA := fun W h => hT A W (tv tk tn tx ty ts ta tc td (.slice a1 n1 c1) (.slice a2 n2 c2)) 5000 h (by omega)
  have hA' := fun W h => hT A' W (tv sk sn sx sy ss sa sc sd (.slice b1 m1 d1) (.slice b2 m2 d2)) 5000 h (by omega)
  generalize allT T 5000 = q at hA hA' hp hle
  have hqI : (q.length : Int) ≤ 5000 := by omega
  replace hle := Lib.hid hle
  go_enter Tryz.func7, Tryz.ntmps7
  go_wp2_with fail
  generalize hW1 : World.alloc (World.alloc W _) _ = W1
  have hg1 : Gr (fun _ => False) W W1 := hW1 ▸ (Gr.alloc _ _ _).trans (Gr.alloc _ _ _)
  have hB1 : W1.heap[W.heap.size + 1]? = some (.cells #[.int .i64 sk, .int .i64 sn, .complex .f64 sx sy, .string ss, .int .i64 sa, .int .u32 sc, .int .u64 sd, .slice b1 m1 d1, .slice b2 m2 d2] 31 (0, 0)) := by
    subst hW1; simp only [al, World.size_alloc]; repeat (first | rw [if_pos trivial] | rw [if_pos (by omega)] | rw [if_neg (by omega)])
  clear hW1
  refine (hA W1 (h.turn (fun z hz hlt => ⟨hz, hg1.block z hlt (fun e => e)⟩))).mono ?_
  rintro e w2 ⟨u, vs, rfl, hrow, hreps, hg2⟩
  obtain ⟨⟨y0, y1, y2, y3, y4, y5, y6, y7, y8⟩, yf⟩ := nine (hg2.keep hB1 (fun e => e))
  have hg12 := hg1.trans hg2
  have hl1 : W.heap.size + 1 < w2.heap.size := (Array.getElem?_eq_some_iff.1 (hg2.keep hB1 (fun e => e))).1
  clear hA
  go_wp2_with fail
  refine (hA' w2 (h'.turn (fun z hz hlt => ⟨hz, hg12.block z hlt (fun e => e)⟩))).mono ?_
  rintro e w3 ⟨u', vs', rfl, hrow', hreps', hg3⟩
  clear hA' y0 y1 y2 y3 y4 y5 y6 y7 y8 yf
  obtain ⟨g, cap, cur, rfl, hh, htk⟩ := rowT_cur (A := A) (ownsRow_gr hrow hg3 (fun _ _ e => e)) hp
  obtain ⟨g', cap', cur', rfl, hh', htk'⟩ := rowT_cur (A := A) hrow' hp
  replace hreps := hreps.turn (A' := A) (W' := w3) (fun z hz hlt => ⟨hz, hg3.block z hlt (fun e => e)⟩)
  have hg03 := hg12.trans hg3
  replace hp := Lib.hid hp
  clear hrow hrow'
  go_wp2_with fail
  go_loopw [7] (fun v wr => ∃ k : Nat, v = .int .i64 (k : Int) ∧ k ≤ q.length ∧ Gr (fun _ => False) w3 wr) (fun v _ => q.length - (intOf v).toNat)
  case atStart => exact ⟨0, rfl, by omega, Gr.refl _ _⟩
  case round =>
    obtain ⟨k, rfl, hk, hg⟩ := hrel
    by_cases hk1 : k < q.length
    case neg =>
      have hkI : decide ((k : Int) < (q.length : Int)) = false := by simp; omega
      replace hk1 := Lib.hid hk1
      go_wp2_with fail
      go_ret
      exact ⟨rfl, hg03.trans hg⟩
    have hkI : (k : Int) < (q.length : Int) := by omega
    have hxk : q[k]? = some q[k] := List.getElem?_eq_getElem hk1
    generalize q[k] = x at hxk
    obtain ⟨x, bs, xl⟩ := x
    obtain ⟨a1, n1, c1, a2, c2, hb1, e0', e1, e2, e3, e4, e5, e6, e7, e8⟩ := part_at (hg.keep hh (fun e => e)) htk (hreps.turn (A' := A) (fun z hz hlt => ⟨hz, hg.block z hlt (fun e => e)⟩)) k x bs xl hxk
    obtain ⟨p1, r1, f1, p2, f2, hb2, f0', i1, i2, i3, i4, i5, i6, i7, i8⟩ := part_at (hg.keep hh' (fun e => e)) htk' (hreps'.turn (A' := A') (fun z hz hlt => ⟨hz, hg.block z hlt (fun e => e)⟩)) k x bs xl hxk
    have hfl := flat_c wr.drew x.k x.n x.x x.y x.s x.a x.c x.d bs _ _ xl.length a2 p2 c2 f2 (show RowB A wr.drew bs _ from hb1) (show RowB A' wr.drew bs _ from hb2)
    replace hk1 := Lib.hid hk1
    clear hb1 hb2
    go_wp2_with fail
    go_region_with (first | (go_at_call 18; refine hfl.mono ?_; rintro e w5 ⟨rfl, hg5⟩))
    all_goals
      go_wp2_with fail
      exact ⟨⟨k + 1, rfl, by have := hk1.out; omega, (hg.trans (Gr.drew wr _)).trans hg5⟩, by have := hk1.out; simp [intOf]; omega⟩
end Go.Proofs.YtmohehfkbhllpaaGreat


