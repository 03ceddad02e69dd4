/-
  Carried over from another seat of ours (KI).
  Carried over from another seat of ours (KJ).
  Carried over from another seat of ours (KL).
-/
import Derived.Test.YtmohehfkbhllpaaGreatKG
set_option linter.unusedVariables false
set_option linter.unusedSimpArgs false
namespace Go.Proofs.YtmohehfkbhllpaaGreat
open Go.RowKit Go.Maps
variable {S S' Z F F0 : Nat → Prop} {W W0 W1 W' : World}

/-- The innermost nest's cells. -/
theorem last_at {base q : Nat} {ov lv : Value} {rest : List Value} {k : Int} {wn : Nat} (h : W.ownsRow base 78 10 ov (q + 1) (rest ++ nestC k lv wn)) (hl : rest.length = q * 10) :
    ∃ g cap, ov = .slice (some ⟨g, 0, none⟩) (q + 1) cap ∧ base ≤ g ∧ g < W.heap.size ∧ q + 1 ≤ cap ∧ cap ≤ maxLen ∧ (∀ j, W.frozen? ⟨g, j, none⟩ = false) ∧ W.cell? ⟨g, q * 10, none⟩ = some (.int .i64 k) ∧ W.cell? ⟨g, q * 10 + 1, none⟩ = some (.int .i64 0) ∧ W.cell? ⟨g, q * 10 + 2, none⟩ = some (.complex .f64 0 0) ∧ W.cell? ⟨g, q * 10 + 3, none⟩ = some (.string e0) ∧ W.cell? ⟨g, q * 10 + 4, none⟩ = some (.int .i64 0) ∧ W.cell? ⟨g, q * 10 + 5, none⟩ = some (.int .u32 0) ∧ W.cell? ⟨g, q * 10 + 6, none⟩ = some (.int .u64 0) ∧ W.cell? ⟨g, q * 10 + 7, none⟩ = some nl ∧ W.cell? ⟨g, q * 10 + 8, none⟩ = some lv ∧ W.cell? ⟨g, q * 10 + 9, none⟩ = some (.int .i64 (wn : Int)) := by
  rcases h.2 with ⟨_, h0⟩ | ⟨g, cap, cur, rfl, hg, h2, h3, h4, h5, h6⟩
  · omega
  · have key : ∀ j u, (nestC k lv wn)[j]? = some u → W.cell? ⟨g, q * 10 + j, none⟩ = some u := by
      intro j u hu
      have hj : j < 10 := (List.getElem?_eq_some_iff.1 hu).1
      have e : (cur.toList.take ((q + 1) * 10))[q * 10 + j]? = some u := by
        rw [h6, List.getElem?_append_right (by omega), hl, Nat.add_sub_cancel_left, hu]
      rw [List.getElem?_take_of_lt (by omega)] at e
      simp only [World.cell?, h2]
      simpa using e
    exact ⟨g, cap, rfl, hg, (Array.getElem?_eq_some_iff.1 h2).1, h3, h4, fun j => by simp [World.frozen?, h2], key 0 _ rfl, key 1 _ rfl, key 2 _ rfl, key 3 _ rfl, key 4 _ rfl, key 5 _ rfl, key 6 _ rfl, key 7 _ rfl, key 8 _ rfl, key 9 _ rfl⟩
theorem ownsRow_less {base q : Nat} {g cap : Nat} {rest us : List Value} (h : W.ownsRow base 78 10 (.slice (some ⟨g, 0, none⟩) (q + 1) cap) (q + 1) (rest ++ us)) (hl : rest.length = q * 10) : W.ownsRow base 78 10 (.slice (some ⟨g, 0, none⟩) q cap) q rest := by
  refine ⟨hl, ?_⟩
  rcases h.2 with ⟨e, h0⟩ | ⟨g', cap', cur, e, hg, h2, h3, h4, h5, h6⟩
  · cases e
  · cases e
    refine .inr ⟨g, cap, cur, rfl, hg, h2, by omega, h4, h5, ?_⟩
    have : (cur.toList.take ((q + 1) * 10)).take (q * 10) = rest := by rw [h6, ← hl, List.take_left']; rfl
    rwa [List.take_take, Nat.min_eq_left (by omega)] at this
theorem Gr.drewN (W : World) (n : Nat) (S : Nat → Prop) : Gr S W (W.drewN n) := ⟨rfl, rfl, rfl, Nat.le_refl _, fun _ _ _ => rfl⟩
theorem Opn.g0 {base b n tb : Nat} {m : List Int} {l : List ByteArray} {ov : Value} {ns : List Ne} {B : Nat → Prop} (h : Opn Z F base W b n tb m l ov ns B) (g : Gr (fun _ => False) W W') : Opn Z F base W' b n tb m l ov ns B := by
  obtain ⟨vals, h1, h2⟩ := h.nst
  exact ⟨h.rt.gr g (fun e => e) (fun _ _ e => e) (fun _ _ e => e), ⟨vals, h1.gr g (fun _ _ e => e), ownsRow_gr h2 g (fun _ _ e => e)⟩, h.own, fun i hi => ⟨(h.bF i hi).1, (h.bF i hi).2.1, Nat.lt_of_lt_of_le (h.bF i hi).2.2 g.size⟩, h.bb, h.zb, fun i hi => Nat.lt_of_lt_of_le (h.fl i hi) g.size⟩
theorem Jc.g0 {b tb R X n : Nat} {m : List Int} {l : List ByteArray} {ov : Value} {ns : List Ne} {B : Nat → Prop} {a a' : Act} {w w' : World} (h : Jc Z F0 W0 b tb R X F n m l ov ns B a w) (hf : Fr b R X ov a') (g : Gr (fun _ => False) w w') : Jc Z F0 W0 b tb R X F n m l ov ns B a' w' :=
  ⟨hf, h.op.g0 g, h.rb.gr g (fun e => e), h.fx, h.f0, h.gr.trans' g (fun _ _ e => e.elim), h.hR, h.hX, h.nl, h.n4, h.b0, h.z0, by obtain ⟨_, _, _, _, _, _, _, _, _, _, hx⟩ := h.xb; exact ⟨_, _, _, _, _, _, _, _, _, _, hx.gr g (fun e => e)⟩⟩
set_option maxRecDepth 20000 in
set_option maxHeartbeats 1600000 in
theorem next_w (Y : Code) (hY : Lab 3 (.seq .skip Y)) (Q : Exit → Act → World → Prop) (b tb R X n : Nat) (m : List Int) (l : List ByteArray) (ov : Value) (e : Ne) (ns : List Ne) (B : Nat → Prop)
    (h0 : ∀ a w, Jc Z F0 W0 b tb R X F n m l ov (e :: ns) B a w → e.ts.length < e.w → Q (.goto 0) a w)
    (h2 : ∀ a w ov' B' T', Jc Z F0 W0 b tb R X F n m l ov' ns B' a w → Hand (W0.heap.size + 2) F B' ov' w X T' → T' = .mk { k := e.k } [] e.ts → ¬ e.ts.length < e.w → Q (.goto 2) a w)
    (a : Act) (w : World) (hJ : Jc Z F0 W0 b tb R X F n m l ov (e :: ns) B a w) (hw : e.w ≤ 256) (hts : e.ts.length ≤ 256) : Y.wp Tryz.prog Q a w := by
  unfold Lab at hY
  simp only [Tryz.f13, scopeOf, findLabel, Option.getD] at hY
  cases hY
  obtain ⟨x, rfl⟩ := hJ.fr.lit
  obtain ⟨vals, hn, hrow⟩ := hJ.op.nst
  obtain ⟨lv, rest, C1, B1, rfl, ⟨la, lc, rfl⟩, hrep1, hn1, hC1, hB1⟩ := hn.pop
  have hlen := hn1.len
  obtain ⟨q, hq⟩ : ∃ q, ns.length = q := ⟨_, rfl⟩
  rw [List.length_cons, hq] at hrow
  rw [hq] at hlen
  obtain ⟨g, cap, rfl, hgb, hgl, hc1, hc2, hz, k0, k1, k2, k3, k4, k5, k6, k7, k8, k9⟩ := last_at hrow hlen
  have hq24 : (q : Int) < 24 := by have := hJ.nl; rw [List.length_cons, hq] at this; omega
  obtain ⟨tk, tn, tx, ty, ts, ta, tc, td, tbv, tlv, hx⟩ := hJ.xb
  have z0 := hx.froz 0 (by decide)
  have z1 := hx.froz 1 (by decide)
  have z2 := hx.froz 2 (by decide)
  have z3 := hx.froz 3 (by decide)
  have z4 := hx.froz 4 (by decide)
  have z5 := hx.froz 5 (by decide)
  have z6 := hx.froz 6 (by decide)
  have z7 := hx.froz 7 (by decide)
  have z8 := hx.froz 8 (by decide)
  have hxf := hx.facts
  have hx' := Lib.hid hx
  have hrep1 := Lib.hid hrep1
  have hC1 := Lib.hid hC1
  have hB1 := Lib.hid hB1
  have hn1 := Lib.hid hn1
  have hrow := Lib.hid hrow
  have HJ := Lib.hid hJ
  clear hJ hn
  by_cases hlt : e.ts.length < e.w
  · have hd : decide ((e.ts.length : Int) < (e.w : Int)) = true := by simpa using hlt
    go_wp2_with fail
    go_quiet (fail)
    go_wp2_with fail
    refine wp_goto ?_
    exact h0 _ _ (HJ.out.g0 ⟨rfl, rfl, rfl, rfl, rfl, rfl⟩ (Gr.drewN _ _ _)) hlt
  · have hd : decide ((e.ts.length : Int) < (e.w : Int)) = false := by simpa using hlt
    go_wp2_with fail
    go_quiet (fail)
    go_wp2_with fail
    go_region
    obtain ⟨s9, g9⟩ := (hx'.out.gr (Gr.drewN w (nq + 1) (fun _ => False)) (fun e => e)).set9 e.k 0 0 0 e0 0 0 0 nl (.slice la e.ts.length lc)
    have g9' := (Gr.drewN w (nq + 1) (fun i => i = X)).trans g9
    go_wp2_with fail
    refine wp_goto ?_
    have hXv := HJ.out.hX
    have hRv := HJ.out.hR
    refine h2 _ _ (.slice (some ⟨g, 0, none⟩) q cap) B1 _ (Jc.mk ⟨rfl, rfl, rfl, rfl, rfl, rfl⟩ ?_ (HJ.out.rb.gr g9' (by omega)) HJ.out.fx HJ.out.f0 (HJ.out.gr.trans' g9' (fun i hi e => by omega)) hRv hXv (by have := HJ.out.nl; simp only [List.length_cons] at this; omega) HJ.out.n4 HJ.out.b0 HJ.out.z0 ⟨_, _, _, _, _, _, _, _, _, _, s9⟩) ⟨C1, _, _, _, _, _, _, _, _, _, _, _, _, _, _, s9, hrep1.out.turn (fun k hk hl => ⟨hk, g9'.block k hl (fun e => by have := (HJ.out.op.bF k (hC1.out k hk).1).2.1; omega)⟩), fun k hk => ?_⟩ rfl hlt
    · have ho := HJ.out.op
      have hb0 := HJ.out.b0
      have hFX : ∀ k, F k → ¬ k = X := fun k hk e => by
        rcases HJ.out.fx k hk with h | h
        · have := HJ.out.f0 k h; omega
        · omega
      refine ⟨ho.rt.gr g9' (by omega) (fun k hk e => by have := HJ.out.z0 k hk; omega) hFX, ⟨rest, hn1.out.gr g9' (fun k hk e => by have := (ho.bF k (hB1.out k hk)).2.1; omega), ?_⟩, fun k hk => ⟨fun e => (ho.own k hk).1 (hB1.out k e), (ho.own k hk).2⟩, fun k hk => ⟨(ho.bF k (hB1.out k hk)).1, (ho.bF k (hB1.out k hk)).2.1, Nat.lt_of_lt_of_le (ho.bF k (hB1.out k hk)).2.2 g9'.size⟩, ho.bb, ho.zb, fun k hk => Nat.lt_of_lt_of_le (ho.fl k hk) g9'.size⟩
      rw [hq]
      exact ownsRow_gr (ownsRow_less hrow.out hlen) g9' (fun k hk e => by omega)
    · have := HJ.out.op.bF k (hC1.out k hk).1
      exact ⟨this.2.1, Nat.lt_of_lt_of_le this.2.2 g9'.size, (hC1.out k hk).2, this.1, fun e => (HJ.out.op.own k e).1 (hC1.out k hk).1⟩
end Go.Proofs.YtmohehfkbhllpaaGreat


namespace Go.Proofs.YtmohehfkbhllpaaGreat
open Go.RowKit Go.Maps
variable {S S' Z F F0 : Nat → Prop} {W W0 W1 W' : World}

abbrev zer9 : List Value := [.int .i64 0, .int .i64 0, .complex .f64 0 0, .string e0, .int .i64 0, .int .u32 0, .int .u64 0, nl, nl]
/-- The last, new element of a row. -/
theorem new_at {base p g cap : Nat} {xs : List Value} (h : W.ownsRow base 31 9 (.slice (some ⟨g, 0, none⟩) (p + 1) cap) (p + 1) (xs ++ zer9)) (hl : xs.length = p * 9) :
    base ≤ g ∧ g < W.heap.size ∧ p + 1 ≤ cap ∧ (∀ j, W.frozen? ⟨g, j, none⟩ = false) ∧ W.cell? ⟨g, p * 9, none⟩ = some (.int .i64 0) ∧ W.cell? ⟨g, p * 9 + 1, none⟩ = some (.int .i64 0) ∧ W.cell? ⟨g, p * 9 + 2, none⟩ = some (.complex .f64 0 0) ∧ W.cell? ⟨g, p * 9 + 3, none⟩ = some (.string e0) ∧ W.cell? ⟨g, p * 9 + 4, none⟩ = some (.int .i64 0) ∧ W.cell? ⟨g, p * 9 + 5, none⟩ = some (.int .u32 0) ∧ W.cell? ⟨g, p * 9 + 6, none⟩ = some (.int .u64 0) ∧ W.cell? ⟨g, p * 9 + 7, none⟩ = some (nl) ∧ W.cell? ⟨g, p * 9 + 8, none⟩ = some (nl) := by
  rcases h.2 with ⟨e, h0⟩ | ⟨g', cap', cur, e, hg, h2, h3, h4, h5, h6⟩
  · cases e
  · cases e
    have key : ∀ j u, zer9[j]? = some u → W.cell? ⟨g, p * 9 + j, none⟩ = some u := by
      intro j u hu
      have hj : j < 9 := (List.getElem?_eq_some_iff.1 hu).1
      have e : (cur.toList.take ((p + 1) * 9))[p * 9 + j]? = some u := by
        rw [h6, List.getElem?_append_right (by omega), hl, Nat.add_sub_cancel_left, hu]
      rw [List.getElem?_take_of_lt (by omega)] at e
      simp only [World.cell?, h2]
      simpa using e
    exact ⟨hg, (Array.getElem?_eq_some_iff.1 h2).1, h3, fun j => by simp [World.frozen?, h2], key 0 _ rfl, key 1 _ rfl, key 2 _ rfl, key 3 _ rfl, key 4 _ rfl, key 5 _ rfl, key 6 _ rfl, key 7 _ rfl, key 8 _ rfl⟩
section
variable {w : World} {ops : Array Oper} {rest : List Oper} {o : Oper} {a : Act} {Q : Exit → Act → World → Prop} {K : Act → World → Prop} {E : Prop}
theorem step_t (hgd : o.guard = none) (x y : Operand)
    (ho : o.op = .call { callee := .builtin .append, args := #[x, y], argTypes := #[29, 29] }) (base p g : Nat) (v : Value) (xs : List Value) (hx : a.eval x = v) (hy : a.eval y = .slice (some ⟨g, 0, none⟩) 1 1)
    (hv : w.ownsRow base 31 9 v p xs) (hs : w.heap[g]? = some (.cells #[.int .i64 0, .int .i64 0, .complex .f64 0 0, .string e0, .int .i64 0, .int .u32 0, .int .u64 0, nl, nl] 31 (0, 0))) (hlen : p ≤ 256) (hbase : base ≤ w.heap.size)
    (h : ∀ g' cap w', w'.ownsRow base 31 9 (.slice (some ⟨g', 0, none⟩) (p + 1) cap) (p + 1) (xs ++ zer9) → Loc v w (.slice (some ⟨g', 0, none⟩) (p + 1) cap) w' → K (a.put o.dst (.slice (some ⟨g', 0, none⟩) (p + 1) cap)) w') :
    if Region.wanted o (yielded ops a.tmps) = true then Oper.wp Tryz.prog o a w K Q else E := by
  have hw : Region.wanted o (yielded ops a.tmps) = true := by simp [Region.wanted, hgd]
  rw [if_pos hw]
  obtain ⟨i0, hi, hz0, hz1, hz2⟩ := info_parts info31
  obtain ⟨v', w', hr, hown, hgrow, _, hloc⟩ := run_append_own_at (P := Tryz.prog) w base 29 o.type 31 i0 (lf 0 0 0 0 e0 0 0 0) 9 120 Tryz.underlying29 hi hz0 hz1 hz2 rfl (by decide) v p xs hv ⟨g, 0, none⟩ 1 1 zer9 rfl
    (fun j u hu => by
      rw [Addr.add_lit, Nat.zero_add]
      simp only [World.cell?, hs]
      simpa using hu) (fun u hu => by simp [zer9] at hu; rcases hu with rfl | rfl | rfl | rfl | rfl | rfl | rfl | rfl | rfl <;> rfl) (by unfold maxLen; omega) (by omega) hbase
  obtain ⟨g', cap, rfl⟩ : ∃ g' cap, v' = .slice (some ⟨g', 0, none⟩) (p + 1) cap := by
    rcases hown.2 with ⟨_, h0⟩ | ⟨g', cap', cur, e, _⟩
    · omega
    · exact ⟨g', cap', e⟩
  unfold Oper.wp execOp
  simp only [ho, resolve, invoke, builtin, Sem.run_bind, Sem.run_pure, Result.andThen_ok, List.map_toArray, List.map_cons, List.map_nil, hx, hy, hr]
  exact h g' cap w' hown ⟨Gr.of_grown hgrow (fun k e => e), hloc.imp id (fun h k e => by rw [h] at e; cases e; exact Nat.le_refl _)⟩
end
end Go.Proofs.YtmohehfkbhllpaaGreat


namespace Go.Proofs.YtmohehfkbhllpaaGreat
open Go.RowKit Go.Maps
variable {S S' Z F F0 : Nat → Prop} {W W0 W1 W' : World}
/-- What lies where behind the append. -/
theorem after_ap {base p q g cap g' cap' wn : Nat} {la : Option Addr} {lc : Nat} {k : Int} {rest xs : List Value} {w wA w1 : World} (hrow : w.ownsRow base 78 10 (.slice (some ⟨g, 0, none⟩) (q + 1) cap) (q + 1) (rest ++ nestC k (.slice la p lc) wn)) (hl : rest.length = q * 10)
    (hng : (Value.slice la p lc).ownBlock ≠ some g) (gA : Gr (fun _ => False) w wA) (o1 : w1.ownsRow base 31 9 (.slice (some ⟨g', 0, none⟩) (p + 1) cap') (p + 1) (xs ++ zer9)) (hxs : xs.length = p * 9) (k1 : Loc (.slice la p lc) wA (.slice (some ⟨g', 0, none⟩) (p + 1) cap') w1) :
    g ≠ g' ∧ g' ≠ g ∧ g < w1.heap.size ∧ g' < w1.heap.size ∧ w1.cell? ⟨g, q * 10 + 8, none⟩ = some (.slice la p lc) ∧ w1.frozen? ⟨g, q * 10 + 8, none⟩ = false ∧ w1.frozen? ⟨g', p * 9, none⟩ = false ∧ w1.frozen? ⟨g', p * 9 + 1, none⟩ = false ∧ w1.frozen? ⟨g', p * 9 + 2, none⟩ = false ∧ w1.frozen? ⟨g', p * 9 + 3, none⟩ = false ∧ w1.frozen? ⟨g', p * 9 + 4, none⟩ = false ∧ w1.frozen? ⟨g', p * 9 + 5, none⟩ = false ∧ w1.frozen? ⟨g', p * 9 + 6, none⟩ = false ∧ w1.frozen? ⟨g', p * 9 + 7, none⟩ = false ∧ w1.frozen? ⟨g', p * 9 + 8, none⟩ = false ∧ w1.cell? ⟨g', p * 9, none⟩ = some (.int .i64 0) ∧ w1.cell? ⟨g', p * 9 + 1, none⟩ = some (.int .i64 0) ∧ w1.cell? ⟨g', p * 9 + 2, none⟩ = some (.complex .f64 0 0) ∧ w1.cell? ⟨g', p * 9 + 3, none⟩ = some (.string e0) ∧ w1.cell? ⟨g', p * 9 + 4, none⟩ = some (.int .i64 0) ∧ w1.cell? ⟨g', p * 9 + 5, none⟩ = some (.int .u32 0) ∧ w1.cell? ⟨g', p * 9 + 6, none⟩ = some (.int .u64 0) ∧ w1.cell? ⟨g', p * 9 + 7, none⟩ = some (nl) ∧ w1.cell? ⟨g', p * 9 + 8, none⟩ = some (nl) := by
  obtain ⟨g0, cap0, e, hgb, hgl, _, _, hz, k0, k1', k2, k3, k4, k5, k6, k7, k8, k9⟩ := last_at hrow hl
  cases e
  obtain ⟨n1, n2, n3, n4, n5⟩ := new_at o1 hxs
  have hne : g ≠ g' := by
    intro e
    rcases k1.at_ with h | h
    · exact hng (by rw [← h, e]; rfl)
    · have := h g' rfl
      have := gA.size
      omega
  have hb : w1.heap[g]? = w.heap[g]? := (k1.gr.block g (Nat.lt_of_lt_of_le hgl gA.size) hng).trans (gA.block g hgl (fun e => e))
  refine ⟨hne, fun e => hne e.symm, Nat.lt_of_lt_of_le (Nat.lt_of_lt_of_le hgl gA.size) k1.gr.size, n2, ?_, ?_, n4 _, n4 _, n4 _, n4 _, n4 _, n4 _, n4 _, n4 _, n4 _, n5⟩
  · rw [← k8]; simp only [World.cell?, hb]
  · rw [← hz (q * 10 + 8)]; simp only [World.frozen?, hb]
/-- What holds behind it all. -/
theorem after_core {b tb R X n : Nat} {m : List Int} {l : List ByteArray} {e : Ne} {ns : List Ne} {B A B1 C : Nat → Prop} {T : Tm} {a a' : Act} {w wF : World} {p q g cap g' cap' : Nat} {la : Option Addr} {lc : Nat} {rest vs : List Value} {tk tn : Int} {tx ty : Nat} {ts : ByteArray} {ta tc td : Int} {bv tl : Value}
    (hJ : Jc Z F0 W0 b tb R X F n m l (.slice (some ⟨g, 0, none⟩) (q + 1) cap) (e :: ns) B a w) (hf : Fr b R X (.slice (some ⟨g, 0, none⟩) (q + 1) cap) a') (hq : ns.length = q) (hp : e.ts.length = p)
    (hrow : w.ownsRow (W0.heap.size + 2) 78 10 (.slice (some ⟨g, 0, none⟩) (q + 1) cap) (q + 1) (rest ++ nestC e.k (.slice la p lc) e.w)) (hl : rest.length = q * 10)
    (hreps : Reps A w e.ts vs) (hn1 : Nst (W0.heap.size + 2) w ns rest B1) (hA : ∀ k, A k → B k ∧ ¬ B1 k) (hB1 : ∀ k, B1 k → B k) (hlv : ∀ k, (Value.slice la p lc).ownBlock = some k → B k ∧ ¬ A k ∧ ¬ B1 k)
    (hrep : Rep C w T (tv tk tn tx ty ts ta tc td bv tl)) (hC : ∀ k, C k → W0.heap.size + 2 ≤ k ∧ k < w.heap.size ∧ ¬ B k ∧ ¬ F k ∧ (Value.slice (some ⟨g, 0, none⟩) (q + 1) cap).ownBlock ≠ some k)
    (hrowN : wF.ownsRow (W0.heap.size + 2) 31 9 (.slice (some ⟨g', 0, none⟩) (p + 1) cap') (p + 1) (vs.flatMap cellsOf ++ cellsOf (tv tk tn tx ty ts ta tc td bv tl))) (hrowF : wF.ownsRow (W0.heap.size + 2) 78 10 (.slice (some ⟨g, 0, none⟩) (q + 1) cap) (q + 1) (rest ++ nestC e.k (.slice (some ⟨g', 0, none⟩) (p + 1) cap') e.w))
    (gT : Gr (fun k => (Value.slice la p lc).ownBlock = some k ∨ k = g) w wF) (hne : g ≠ g') (hat : (Value.slice (some ⟨g', 0, none⟩) (p + 1) cap').ownBlock = (Value.slice la p lc).ownBlock ∨ ∀ k, (Value.slice (some ⟨g', 0, none⟩) (p + 1) cap').ownBlock = some k → w.heap.size ≤ k) :
    Jc Z F0 W0 b tb R X F n m l (.slice (some ⟨g, 0, none⟩) (q + 1) cap) (⟨e.k, e.w, e.ts ++ [T]⟩ :: ns) (fun k => B k ∨ C k ∨ (Value.slice (some ⟨g', 0, none⟩) (p + 1) cap').ownBlock = some k) a' wF := by
  have ho := hJ.op
  have hXv := hJ.hX
  have hRv := hJ.hR
  have hog := ho.own g rfl
  have hgl : g < w.heap.size := (ownsRow_lt hrow g rfl).2
  have hgb : W0.heap.size + 2 ≤ g := (ownsRow_lt hrow g rfl).1
  have n12 := ownsRow_lt hrowN g' rfl
  have hnew : ∀ i, i < w.heap.size → i = g' → (Value.slice la p lc).ownBlock = some i := by
    intro i hi e
    rcases hat with h | h
    · rw [← h, e]; rfl
    · have := h g' rfl
      omega
  have hlvb : ∀ k, (Value.slice la p lc).ownBlock = some k → W0.heap.size + 2 ≤ k := fun k hk => (ho.bF k (hlv k hk).1).2.1
  have hfx : ∀ k, F k → ¬ ((Value.slice la p lc).ownBlock = some k ∨ k = g) := fun k hk h => h.elim (fun h => (ho.bF k (hlv k h).1).1 hk) (fun h => hog.2 (h ▸ hk))
  have hb0 := hJ.b0
  have hgr' : ∀ i, i < W0.heap.size → ((Value.slice la p lc).ownBlock = some i ∨ i = g) → (i = b ∨ F0 i) := fun i hi h => h.elim (fun h => by have := hlvb i h; omega) (fun h => by omega)
  have hxb : ∃ k n x y s a c d b l, Bx wF X k n x y s a c d b l := by
    obtain ⟨_, _, _, _, _, _, _, _, _, _, hx⟩ := hJ.xb
    exact ⟨_, _, _, _, _, _, _, _, _, _, hx.gr gT (fun h => h.elim (fun h => by have := hlvb _ h; omega) (fun h => by omega))⟩
  refine ⟨hf, ⟨ho.rt.gr gT (fun h => h.elim (fun h => by have := hlvb _ h; omega) (fun h => by omega)) (fun k hk h => by have := hJ.z0 k hk; exact h.elim (fun h => by have := hlvb _ h; omega) (fun h => by omega)) hfx, ⟨_, Nst.grow (lv := .slice la p lc) hreps hn1 hA hB1 hlv hrep (fun k hk => ⟨(hC k hk).2.2.1, (hC k hk).2.1⟩) (fun k hk => (ho.bF k hk).2.2) ?_ ?_ ?_, ?_⟩, ?_, ?_, ho.bb, ho.zb, fun k hk => Nat.lt_of_lt_of_le (ho.fl k hk) gT.size⟩, hJ.rb.gr gT (fun h => h.elim (fun h => by have := hlvb _ h; omega) (fun h => by omega)), hJ.fx, hJ.f0, hJ.gr.trans' gT hgr', hRv, hXv, hJ.nl, hJ.n4, hJ.b0, hJ.z0, hxb⟩
  · rw [hp]
    exact hrowN
  · exact hat
  · intro k hkl hk hn
    refine gT.block k hkl (fun h => h.elim hn (fun h => ?_))
    rcases hk with hk | hk
    · exact hog.1 (h ▸ hk)
    · exact (hC k hk).2.2.2.2 (by rw [h]; rfl)
  · rw [List.length_cons, hq]; exact hrowF
  · intro k hk
    cases hk
    refine ⟨fun h => ?_, hog.2⟩
    rcases h with h | h | h
    · exact hog.1 h
    · exact (hC g h).2.2.2.2 rfl
    · cases h; exact hne rfl
  · intro k hk
    rcases hk with h | h | h
    · exact ⟨(ho.bF k h).1, (ho.bF k h).2.1, Nat.lt_of_lt_of_le (ho.bF k h).2.2 gT.size⟩
    · exact ⟨(hC k h).2.2.2.1, (hC k h).1, Nat.lt_of_lt_of_le (hC k h).2.1 gT.size⟩
    · cases h
      refine ⟨fun hF => ?_, n12.1, n12.2⟩
      have hl := ho.fl _ hF
      exact (ho.bF _ (hlv _ (hnew g' hl rfl)).1).1 hF
theorem after_jcA {b tb R X n : Nat} {m : List Int} {l : List ByteArray} {e : Ne} {ns : List Ne} {B A B1 C : Nat → Prop} {T : Tm} {a a' : Act} {w wA w1 : World} {p q g cap g' cap' : Nat} {la : Option Addr} {lc : Nat} {rest vs : List Value} {tk tn : Int} {tx ty : Nat} {ts : ByteArray} {ta tc td : Int} {bv tl : Value}
    (hJ : Jc Z F0 W0 b tb R X F n m l (.slice (some ⟨g, 0, none⟩) (q + 1) cap) (e :: ns) B a w) (hf : Fr b R X (.slice (some ⟨g, 0, none⟩) (q + 1) cap) a') (hq : ns.length = q) (hp : e.ts.length = p)
    (hrow : w.ownsRow (W0.heap.size + 2) 78 10 (.slice (some ⟨g, 0, none⟩) (q + 1) cap) (q + 1) (rest ++ nestC e.k (.slice la p lc) e.w)) (hl : rest.length = q * 10)
    (hreps : Reps A w e.ts vs) (hn1 : Nst (W0.heap.size + 2) w ns rest B1) (hA : ∀ k, A k → B k ∧ ¬ B1 k) (hB1 : ∀ k, B1 k → B k) (hlv : ∀ k, (Value.slice la p lc).ownBlock = some k → B k ∧ ¬ A k ∧ ¬ B1 k)
    (hrep : Rep C w T (tv tk tn tx ty ts ta tc td bv tl)) (hC : ∀ k, C k → W0.heap.size + 2 ≤ k ∧ k < w.heap.size ∧ ¬ B k ∧ ¬ F k ∧ (Value.slice (some ⟨g, 0, none⟩) (q + 1) cap).ownBlock ≠ some k)
    (gA : Gr (fun _ => False) w wA) (o1 : w1.ownsRow (W0.heap.size + 2) 31 9 (.slice (some ⟨g', 0, none⟩) (p + 1) cap') (p + 1) (vs.flatMap cellsOf ++ zer9)) (k1 : Loc (.slice la p lc) wA (.slice (some ⟨g', 0, none⟩) (p + 1) cap') w1) :
    Jc Z F0 W0 b tb R X F n m l (.slice (some ⟨g, 0, none⟩) (q + 1) cap) (⟨e.k, e.w, e.ts ++ [T]⟩ :: ns) (fun k => B k ∨ C k ∨ (Value.slice (some ⟨g', 0, none⟩) (p + 1) cap').ownBlock = some k) a' ((((((((((w1.setCell ⟨g', p * 9, none⟩ (.int .i64 tk)).setCell ⟨g', p * 9 + 1, none⟩ (.int .i64 tn)).setCell ⟨g', p * 9 + 2, none⟩ (.complex .f64 tx ty)).setCell ⟨g', p * 9 + 3, none⟩ (.string ts)).setCell ⟨g', p * 9 + 4, none⟩ (.int .i64 ta)).setCell ⟨g', p * 9 + 5, none⟩ (.int .u32 tc)).setCell ⟨g', p * 9 + 6, none⟩ (.int .u64 td)).setCell ⟨g', p * 9 + 7, none⟩ (bv)).setCell ⟨g', p * 9 + 8, none⟩ (tl)).setCell ⟨g, q * 10 + 8, none⟩ (.slice (some ⟨g', 0, none⟩) (p + 1) cap')) := by
  have ho := hJ.op
  have hog := ho.own g rfl
  have hng : (Value.slice la p lc).ownBlock ≠ some g := fun e => hog.1 (hlv g e).1
  have hxs : (vs.flatMap cellsOf).length = p * 9 := by rw [hreps.flat, hp]
  have hgl : g < w.heap.size := (ownsRow_lt hrow g rfl).2
  have hne : g ≠ g' := (after_ap hrow hl hng gA o1 hxs k1).1
  have hat : (Value.slice (some ⟨g', 0, none⟩) (p + 1) cap').ownBlock = (Value.slice la p lc).ownBlock ∨ ∀ k, (Value.slice (some ⟨g', 0, none⟩) (p + 1) cap').ownBlock = some k → w.heap.size ≤ k := k1.at_.imp id (fun h k e => Nat.le_trans gA.size (h k e))
  have hnew : ∀ i, i < w.heap.size → i = g' → (Value.slice la p lc).ownBlock = some i := by
    intro i hi e
    rcases hat with h | h
    · rw [← h, e]; rfl
    · have := h g' rfl
      omega
  have g1 : Gr (fun k => (Value.slice la p lc).ownBlock = some k) w w1 := (gA.mono (fun _ _ e => e.elim)).trans k1.gr
  have hrow1 : w1.ownsRow (W0.heap.size + 2) 78 10 (.slice (some ⟨g, 0, none⟩) (q + 1) cap) (q + 1) (rest ++ nestC e.k (.slice la p lc) e.w) := ownsRow_of_block hrow (fun k _ e => by cases e; exact g1.block g hgl hng)
  have es : (rest ++ nestC e.k (.slice la p lc) e.w).set (q * 10 + 8) (.slice (some ⟨g', 0, none⟩) (p + 1) cap') = rest ++ nestC e.k (.slice (some ⟨g', 0, none⟩) (p + 1) cap') e.w := by
    rw [← hl]; simp [List.set_append]
  obtain ⟨r9, g9⟩ := row9 (Q := []) o1 (p * 9) hxs tk tn tx ty ts ta tc td bv tl
  rw [List.append_nil] at r9
  generalize hW9 : World.setCell (World.setCell (World.setCell (World.setCell (World.setCell (World.setCell (World.setCell (World.setCell (World.setCell w1 _ _) _ _) _ _) _ _) _ _) _ _) _ _) _ _) _ _ = W9 at r9 g9 ⊢
  have gset : Gr (fun i => i = g) W9 (W9.setCell ⟨g, q * 10 + 8, none⟩ (.slice (some ⟨g', 0, none⟩) (p + 1) cap')) := Gr.set (S := fun i => i = g) _ ⟨g, q * 10 + 8, none⟩ _ rfl
  have hrow9 := ownsRow_of_block hrow1 (W' := W9) (fun k _ e => by cases e; exact g9.block g (ownsRow_lt hrow1 g rfl).2 hne)
  have hrowF := (hrow9.stored (q * 10 + 8) (.slice (some ⟨g', 0, none⟩) (p + 1) cap')).1
  rw [es] at hrowF
  exact after_core hJ hf hq hp hrow hl hreps hn1 hA hB1 hlv hrep hC (ownsRow_of_block r9 (fun k _ e => by cases e; exact gset.block g' (ownsRow_lt r9 g' rfl).2 (fun e => hne e.symm))) hrowF (((g1.trans' g9 hnew).mono (fun _ _ e => .inl e)).trans (gset.mono (fun _ _ e => .inr e))) hne hat
theorem after_jcB {b tb R X n : Nat} {m : List Int} {l : List ByteArray} {e : Ne} {ns : List Ne} {B A B1 C : Nat → Prop} {T : Tm} {a a' : Act} {w wA w1 : World} {p q g cap g' cap' : Nat} {la : Option Addr} {lc : Nat} {rest vs : List Value} {tk tn : Int} {tx ty : Nat} {ts : ByteArray} {ta tc td : Int} {bv tl : Value}
    (hJ : Jc Z F0 W0 b tb R X F n m l (.slice (some ⟨g, 0, none⟩) (q + 1) cap) (e :: ns) B a w) (hf : Fr b R X (.slice (some ⟨g, 0, none⟩) (q + 1) cap) a') (hq : ns.length = q) (hp : e.ts.length = p)
    (hrow : w.ownsRow (W0.heap.size + 2) 78 10 (.slice (some ⟨g, 0, none⟩) (q + 1) cap) (q + 1) (rest ++ nestC e.k (.slice la p lc) e.w)) (hl : rest.length = q * 10)
    (hreps : Reps A w e.ts vs) (hn1 : Nst (W0.heap.size + 2) w ns rest B1) (hA : ∀ k, A k → B k ∧ ¬ B1 k) (hB1 : ∀ k, B1 k → B k) (hlv : ∀ k, (Value.slice la p lc).ownBlock = some k → B k ∧ ¬ A k ∧ ¬ B1 k)
    (hrep : Rep C w T (tv tk tn tx ty ts ta tc td bv tl)) (hC : ∀ k, C k → W0.heap.size + 2 ≤ k ∧ k < w.heap.size ∧ ¬ B k ∧ ¬ F k ∧ (Value.slice (some ⟨g, 0, none⟩) (q + 1) cap).ownBlock ≠ some k)
    (gA : Gr (fun _ => False) w wA) (o1 : w1.ownsRow (W0.heap.size + 2) 31 9 (.slice (some ⟨g', 0, none⟩) (p + 1) cap') (p + 1) (vs.flatMap cellsOf ++ zer9)) (k1 : Loc (.slice la p lc) wA (.slice (some ⟨g', 0, none⟩) (p + 1) cap') w1) :
    Jc Z F0 W0 b tb R X F n m l (.slice (some ⟨g, 0, none⟩) (q + 1) cap) (⟨e.k, e.w, e.ts ++ [T]⟩ :: ns) (fun k => B k ∨ C k ∨ (Value.slice (some ⟨g', 0, none⟩) (p + 1) cap').ownBlock = some k) a' ((((((((((w1.setCell ⟨g, q * 10 + 8, none⟩ (.slice (some ⟨g', 0, none⟩) (p + 1) cap')).setCell ⟨g', p * 9, none⟩ (.int .i64 tk)).setCell ⟨g', p * 9 + 1, none⟩ (.int .i64 tn)).setCell ⟨g', p * 9 + 2, none⟩ (.complex .f64 tx ty)).setCell ⟨g', p * 9 + 3, none⟩ (.string ts)).setCell ⟨g', p * 9 + 4, none⟩ (.int .i64 ta)).setCell ⟨g', p * 9 + 5, none⟩ (.int .u32 tc)).setCell ⟨g', p * 9 + 6, none⟩ (.int .u64 td)).setCell ⟨g', p * 9 + 7, none⟩ (bv)).setCell ⟨g', p * 9 + 8, none⟩ (tl)) := by
  have ho := hJ.op
  have hog := ho.own g rfl
  have hng : (Value.slice la p lc).ownBlock ≠ some g := fun e => hog.1 (hlv g e).1
  have hxs : (vs.flatMap cellsOf).length = p * 9 := by rw [hreps.flat, hp]
  have hgl : g < w.heap.size := (ownsRow_lt hrow g rfl).2
  have hne : g ≠ g' := (after_ap hrow hl hng gA o1 hxs k1).1
  have hat : (Value.slice (some ⟨g', 0, none⟩) (p + 1) cap').ownBlock = (Value.slice la p lc).ownBlock ∨ ∀ k, (Value.slice (some ⟨g', 0, none⟩) (p + 1) cap').ownBlock = some k → w.heap.size ≤ k := k1.at_.imp id (fun h k e => Nat.le_trans gA.size (h k e))
  have hnew : ∀ i, i < w.heap.size → i = g' → (Value.slice la p lc).ownBlock = some i := by
    intro i hi e
    rcases hat with h | h
    · rw [← h, e]; rfl
    · have := h g' rfl
      omega
  have g1 : Gr (fun k => (Value.slice la p lc).ownBlock = some k) w w1 := (gA.mono (fun _ _ e => e.elim)).trans k1.gr
  have hrow1 : w1.ownsRow (W0.heap.size + 2) 78 10 (.slice (some ⟨g, 0, none⟩) (q + 1) cap) (q + 1) (rest ++ nestC e.k (.slice la p lc) e.w) := ownsRow_of_block hrow (fun k _ e => by cases e; exact g1.block g hgl hng)
  have es : (rest ++ nestC e.k (.slice la p lc) e.w).set (q * 10 + 8) (.slice (some ⟨g', 0, none⟩) (p + 1) cap') = rest ++ nestC e.k (.slice (some ⟨g', 0, none⟩) (p + 1) cap') e.w := by
    rw [← hl]; simp [List.set_append]
  have gset : Gr (fun i => i = g) w1 (w1.setCell ⟨g, q * 10 + 8, none⟩ (.slice (some ⟨g', 0, none⟩) (p + 1) cap')) := Gr.set (S := fun i => i = g) _ ⟨g, q * 10 + 8, none⟩ _ rfl
  have hrow2 := (hrow1.stored (q * 10 + 8) (.slice (some ⟨g', 0, none⟩) (p + 1) cap')).1
  rw [es] at hrow2
  have o2 := ownsRow_of_block o1 (W' := w1.setCell ⟨g, q * 10 + 8, none⟩ (.slice (some ⟨g', 0, none⟩) (p + 1) cap')) (fun k _ e => by cases e; exact gset.block g' (ownsRow_lt o1 g' rfl).2 (fun e => hne e.symm))
  generalize hW2 : World.setCell w1 _ _ = W2 at gset hrow2 o2 ⊢
  obtain ⟨r9, g9⟩ := row9 (Q := []) o2 (p * 9) hxs tk tn tx ty ts ta tc td bv tl
  rw [List.append_nil] at r9
  generalize hW9 : World.setCell (World.setCell (World.setCell (World.setCell (World.setCell (World.setCell (World.setCell (World.setCell (World.setCell W2 _ _) _ _) _ _) _ _) _ _) _ _) _ _) _ _) _ _ = W9 at r9 g9 ⊢
  have hrowF := ownsRow_of_block hrow2 (W' := W9) (fun k _ e => by cases e; exact g9.block g (ownsRow_lt hrow2 g rfl).2 hne)
  exact after_core hJ hf hq hp hrow hl hreps hn1 hA hB1 hlv hrep hC r9 hrowF (((g1.mono (fun _ _ e => .inl e)).trans (gset.mono (fun _ _ e => .inr e))).trans' g9 (fun i hi e => .inl (hnew i hi e))) hne hat
set_option maxRecDepth 20000 in
set_option maxHeartbeats 1600000 in
theorem done_nil (Y : Code) (hY : Lab 2 (.seq .skip Y)) (Q : Exit → Act → World → Prop) (b tb R X n : Nat) (m : List Int) (l : List ByteArray) (ov : Value) (B : Nat → Prop) (T : Tm)
    (h4 : ∀ a w, Jc Z F0 W0 b tb R X F n m l ov [] B a w → Hand (W0.heap.size + 2) F B ov w X T → Q (.goto 4) a w)
    (a : Act) (w : World) (hJ : Jc Z F0 W0 b tb R X F n m l ov [] B a w) (hT : Hand (W0.heap.size + 2) F B ov w X T) : Y.wp Tryz.prog Q a w := by
  unfold Lab at hY
  simp only [Tryz.f13, scopeOf, findLabel, Option.getD] at hY
  cases hY
  obtain ⟨x, rfl⟩ := hJ.fr.lit
  obtain ⟨vals, hn, hrow⟩ := hJ.op.nst
  have hsv : ∃ a c, ov = .slice a 0 c := ownsRow_sv hrow
  obtain ⟨oa, oc, rfl⟩ := hsv
  have HJ := Lib.hid hJ
  have HT := Lib.hid hT
  clear hJ hn hrow hT
  go_wp2_with fail
  refine wp_goto ?_
  exact h4 _ _ (HJ.out.g0 ⟨rfl, rfl, rfl, rfl, rfl, rfl⟩ (Gr.refl _ _)) HT.out
end Go.Proofs.YtmohehfkbhllpaaGreat

