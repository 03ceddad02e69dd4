/-
  Carried over from another seat of ours (KN).
  Carried over from another seat of ours (KO).
  Carried over from another seat of ours (KP).
  Carried over from another seat of ours (KQ).
  Carried over from another seat of ours (KR).
-/
import Derived.Test.YtmohehfkbhllpaaGreatKM
set_option linter.unusedVariables false
set_option linter.unusedSimpArgs false
namespace Go.Proofs.YtmohehfkbhllpaaGreat
open Go.RowKit Go.Maps
variable {S S' Z F F0 : Nat → Prop} {W W0 W1 W' : World}
theorem Hand.g0 {base : Nat} {B : Nat → Prop} {ov : Value} {X : Nat} {T : Tm} {w w' : World} (h : Hand base F B ov w X T) (g : Gr (fun _ => False) w w') : Hand base F B ov w' X T := by
  obtain ⟨C, k, n, x, y, s, a, c, d, a1, n1, c1, a2, n2, c2, hx, hrep, hC⟩ := h
  exact ⟨C, k, n, x, y, s, a, c, d, a1, n1, c1, a2, n2, c2, hx.gr g (fun e => e), hrep.turn (fun i hi hl => ⟨hi, g.block i hl (fun e => e)⟩), fun i hi => ⟨(hC i hi).1, Nat.lt_of_lt_of_le (hC i hi).2.1 g.size, (hC i hi).2.2⟩⟩
end Go.Proofs.YtmohehfkbhllpaaGreat


namespace Go.Proofs.YtmohehfkbhllpaaGreat
open Go.RowKit Go.Maps
variable {S S' Z F F0 : Nat → Prop} {W W0 W1 W' : World}
set_option maxRecDepth 20000 in
set_option maxHeartbeats 1600000 in
theorem begin_no (Y : Code) (hY : Lab 0 (.seq .skip Y)) (Q : Exit → Act → World → Prop) (b tb R X n : Nat) (m : List Int) (l : List ByteArray) (ov : Value) (ns : List Ne) (B : Nat → Prop) (c : Int) (hc : ptq (24 - ns.length) m n l = .error c) (hm : m = [] ∨ ns.length = 24 ∨ n = 4096)
    (hpan : ∀ a w, a.defers = [] → Gr (fun k => k = b ∨ F0 k) W0 w → Q (.panic [{ v := .iface 32 (.int .i64 c), recovered := false }]) a w)
    (a : Act) (w : World) (hJ : Jc Z F0 W0 b tb R X F n m l ov ns B a w) : Y.wp Tryz.prog Q a w := by
  unfold Lab at hY
  simp only [Tryz.f13, scopeOf, findLabel, Option.getD] at hY
  cases hY
  have hnl := hJ.nl
  have hn4 := hJ.n4
  have hre := hJ.op.rt.re
  obtain ⟨vals, -, hrow⟩ := hJ.op.nst
  obtain ⟨x, rfl⟩ := hJ.fr.lit
  obtain ⟨q, hq⟩ : ∃ q, ns.length = q := ⟨_, rfl⟩
  rw [hq] at hrow hc hnl hm
  have hsv : ∃ a c, ov = .slice a q c := ownsRow_sv hrow
  obtain ⟨oa, oc, rfl⟩ := hsv
  have HJ := Lib.hid hJ
  have hgr : Hid (∀ w', Gr (fun k => k = b) w w' → Gr (fun k => k = b ∨ F0 k) W0 w') := Lib.hid (fun w' g => hJ.gr.trans (g.mono (fun _ _ e => .inl e)))
  have hpan := Lib.hid hpan
  have Hre := Lib.hid hre
  have Hc := Lib.hid hc
  have Hm := Lib.hid hm
  have Hnl := Lib.hid hnl
  have Hn4 := Lib.hid hn4
  have hqI : (q : Int) ≤ 24 := by omega
  clear hJ hrow hq hre hc hm hnl hn4
  by_cases h24 : q = 24
  · have e : c = 20 := by have := Hc.out; rw [h24] at this; simp [ptq] at this; exact this.symm
    subst e
    go_wp2_with fail
    refine (begin_deep w b _ (by omega)).mono ?_
    rintro e w' ⟨rfl, g⟩
    exact hpan.out _ _ rfl (hgr.out _ g)
  · obtain ⟨f, hf⟩ : ∃ f, 24 - q = f + 1 := ⟨23 - q, by have := Hnl.out; omega⟩
    by_cases h40 : n = 4096
    · have e : c = 21 := by have := Hc.out; rw [hf] at this; simp [ptq, h40] at this; exact this.symm
      subst e
      have hb := Lib.hid (begin_size w b n tb m ((q : Int) + 1) (by have := Hnl.out; omega) Hre.out h40)
      clear h24 hf
      have h40 := Lib.hid h40
      go_wp2_with fail
      refine hb.out.mono ?_
      rintro e w' ⟨rfl, g⟩
      exact hpan.out _ _ rfl (hgr.out _ g)
    · have hm : m = [] := Hm.out.elim id (fun h => h.elim (fun h => absurd h h24) (fun h => absurd h h40))
      subst hm
      have e : c = 72 := by have := Hc.out; rw [hf] at this; simp [ptq] at this; rw [if_neg (by have := Hn4.out; omega)] at this; cases this; rfl
      subst e
      have hb := Lib.hid (begin_ok w b n tb [] ((q : Int) + 1) (by have := Hnl.out; omega) Hre.out (by have := Hn4.out; omega))
      clear h24 hf h40
      go_wp2_with fail
      refine hb.out.mono ?_
      rintro e w' ⟨rfl, hs⟩
      have ho := Lib.hid (one_no w' b (n + 1) tb hs.1)
      have g1 := Lib.hid hs.2
      clear hs
      go_wp2_with fail
      refine ho.out.mono ?_
      rintro e w2 ⟨rfl, g⟩
      exact hpan.out _ _ rfl (hgr.out _ (g1.out.trans g))
end Go.Proofs.YtmohehfkbhllpaaGreat


namespace Go.Proofs.YtmohehfkbhllpaaGreat
open Go.RowKit Go.Maps
variable {S S' Z F F0 : Nat → Prop} {W W0 W1 W' : World}
section
variable {b tb R X n n' : Nat} {m m' : List Int} {l l' : List ByteArray} {ov : Value} {ns : List Ne} {B : Nat → Prop} {a a' : Act} {w w' : World}
theorem Jc.nX (h : Jc Z F0 W0 b tb R X F n m l ov ns B a w) : X ≠ b ∧ R ≠ b ∧ (∀ k, Z k → k ≠ X) ∧ (∀ k, F k → k ≠ X) ∧ (∀ k, F k → k ≠ R) := by
  have h1 := h.hX
  have h2 := h.hR
  have h3 := h.b0
  refine ⟨by omega, by omega, fun k hk e => by have := h.z0 k hk; omega, fun k hk e => ?_, fun k hk e => ?_⟩
  · rcases h.fx k hk with h4 | h4
    · have := h.f0 k h4; omega
    · omega
  · rcases h.fx k hk with h4 | h4
    · have := h.f0 k h4; omega
    · omega
/-- Behind a callee that turns the reader alone. -/
theorem Jc.sr (h : Jc Z F0 W0 b tb R X F n m l ov ns B a w) (k : Sr Z w b w' m' n' tb) (hn : n' ≤ 4096) (hf : Fr b R X ov a') : Jc Z F0 W0 b tb R X F n' m' l ov ns B a' w' := by
  have hX := h.nX
  refine ⟨hf, h.op.sr k, h.rb.gr k.2 hX.2.1, h.fx, h.f0, h.gr.trans (k.2.mono (fun _ _ e => .inl e)), h.hR, h.hX, h.nl, hn, h.b0, h.z0, ?_⟩
  obtain ⟨_, _, _, _, _, _, _, _, _, _, hx⟩ := h.xb
  exact ⟨_, _, _, _, _, _, _, _, _, _, hx.gr k.2 hX.1⟩
/-- Behind the callee that reads a name. -/
theorem Jc.nm (h : Jc Z F0 W0 b tb R X F n m l ov ns B a w) (k : Nm Z F w b n' tb w' m' l') (hn : n' ≤ 4096) (hf : Fr b R X ov a') : ∃ F', Jc Z F0 W0 b tb R X F' n' m' l' ov ns B a' w' ∧ ∀ i, F' i → F i ∨ w.heap.size ≤ i := by
  have hX := h.nX
  obtain ⟨F', ho, hF'⟩ := h.op.nm k
  have hRl := h.rb.lt
  have hsz : W0.heap.size + 2 ≤ w.heap.size := by
    obtain ⟨_, _, _, _, _, _, _, _, _, _, hx⟩ := h.xb
    have := hx.lt; have := h.hX; omega
  refine ⟨F', ⟨hf, ho, h.rb.gr k.gr (fun e => e.elim hX.2.1 (fun e => hX.2.2.2.2 _ e rfl)), fun i hi => (hF' i hi).elim (h.fx i) (fun e => .inr (by omega)), h.f0, h.gr.trans' k.gr (fun i hi e => e.elim .inl (fun e => (h.fx i e).elim .inr (fun e => by omega))), h.hR, h.hX, h.nl, hn, h.b0, h.z0, ?_⟩, hF'⟩
  obtain ⟨_, _, _, _, _, _, _, _, _, _, hx⟩ := h.xb
  exact ⟨_, _, _, _, _, _, _, _, _, _, hx.gr k.gr (fun e => e.elim hX.1 (fun e => hX.2.2.2.1 _ e rfl))⟩
/-- Behind a store into the term at hand. -/
theorem Jc.tx (h : Jc Z F0 W0 b tb R X F n m l ov ns B a w) (g : Gr (fun i => i = X) w w') (hx : ∃ k n x y s a c d b l, Bx w' X k n x y s a c d b l) (hf : Fr b R X ov a') : Jc Z F0 W0 b tb R X F n m l ov ns B a' w' := by
  have hX := h.nX
  have h1 := h.hX
  have h2 := h.hR
  have ho := h.op
  obtain ⟨vals, o1, o2⟩ := ho.nst
  refine ⟨hf, ⟨ho.rt.gr g (fun e => hX.1 e.symm) hX.2.2.1 hX.2.2.2.1, ⟨vals, o1.gr g (fun k hk e => by have := (ho.bF k hk).2.1; omega), ownsRow_gr o2 g (fun k hk e => by omega)⟩, ho.own, fun k hk => ⟨(ho.bF k hk).1, (ho.bF k hk).2.1, Nat.lt_of_lt_of_le (ho.bF k hk).2.2 g.size⟩, ho.bb, ho.zb, fun k hk => Nat.lt_of_lt_of_le (ho.fl k hk) g.size⟩, h.rb.gr g (by omega), h.fx, h.f0, h.gr.trans' g (fun i hi e => by omega), h.hR, h.hX, h.nl, h.n4, h.b0, h.z0, hx⟩
end
end Go.Proofs.YtmohehfkbhllpaaGreat


namespace Go.Proofs.YtmohehfkbhllpaaGreat
open Go.RowKit Go.Maps
variable {S S' Z F F0 : Nat → Prop} {W W0 W1 W' : World}
theorem Bx.set1 {g : Nat} {k n : Int} {x y : Nat} {s : ByteArray} {a c d : Int} {bs l : Value} (h : Bx W g k n x y s a c d bs l) (u : Int) : Bx (W.setCell ⟨g, 1, none⟩ (.int .i64 u)) g k u x y s a c d bs l := heap_setCell_same W g 1 _ 31 _ h
set_option maxRecDepth 20000 in
set_option maxHeartbeats 1600000 in
theorem begin_int (Y : Code) (hY : Lab 0 (.seq .skip Y)) (Q : Exit → Act → World → Prop) (b tb R X n : Nat) (m : List Int) (l : List ByteArray) (ov : Value) (ns : List Ne) (B : Nat → Prop)
    (h1 : ∀ (u : Nat) m', nmb 10 0 0 m = .ok (u, m') → ∀ a w, Jc Z F0 W0 b tb R X F (n + 1) m' l ov ns B a w → Bx w X 1 (unf (u : Int)) 0 0 e0 0 0 0 nl nl → Q (.goto 1) a w)
    (hpan : ∀ c, nmb 10 0 0 m = .error c → ∀ a w, a.defers = [] → Gr (fun k => k = b ∨ F0 k) W0 w → Q (.panic [{ v := .iface 32 (.int .i64 c), recovered := false }]) a w)
    (a : Act) (w : World) (hJ : Jc Z F0 W0 b tb R X F n (1 :: m) l ov ns B a w) (hn24 : ns.length < 24) (hn : n < 4096) : Y.wp Tryz.prog Q a w := by
  unfold Lab at hY
  simp only [Tryz.f13, scopeOf, findLabel, Option.getD] at hY
  cases hY
  obtain ⟨vals, -, hrow⟩ := hJ.op.nst
  obtain ⟨x, rfl⟩ := hJ.fr.lit
  obtain ⟨q, hq⟩ : ∃ q, ns.length = q := ⟨_, rfl⟩
  rw [hq] at hrow hn24
  have hsv : ∃ a c, ov = .slice a q c := ownsRow_sv hrow
  obtain ⟨oa, oc, rfl⟩ := hsv
  have hqI : (q : Int) < 24 := by omega
  have hb := Lib.hid (begin_ok w b n tb (1 :: m) ((q : Int) + 1) (by omega) hJ.op.rt.re hn)
  have HJ := Lib.hid hJ
  have hpan := Lib.hid hpan
  have h1 := Lib.hid h1
  have Hn := Lib.hid hn
  clear hJ hrow hq hn hn24
  go_wp2_with fail
  refine hb.out.mono ?_
  rintro e w1 ⟨rfl, hs⟩
  have J1 := Lib.hid (HJ.out.sr hs (by have := Hn.out; omega) HJ.out.fr)
  clear hs
  have ho := Lib.hid (one_ok w1 b (n + 1) tb 1 m J1.out.op.rt.re)
  go_wp2_with fail
  refine ho.out.mono ?_
  rintro e w2 ⟨rfl, hs⟩
  have J2 := J1.out.sr hs (by have := Hn.out; omega) HJ.out.fr
  clear hs
  obtain ⟨tk, tn, tx, ty, ts, ta, tc, td, tbv, tlv, hx⟩ := J2.xb
  have hxf := hx.facts
  have z0 := hx.froz 0 (by decide)
  have z1 := hx.froz 1 (by decide)
  have z2 := hx.froz 2 (by decide)
  have z3 := hx.froz 3 (by decide)
  have z4 := hx.froz 4 (by decide)
  have z5 := hx.froz 5 (by decide)
  have z6 := hx.froz 6 (by decide)
  have z7 := hx.froz 7 (by decide)
  have z8 := hx.froz 8 (by decide)
  obtain ⟨s9, g9⟩ := hx.set9 1 0 0 0 e0 0 0 0 nl nl
  have J3 := Lib.hid (J2.tx g9 ⟨_, _, _, _, _, _, _, _, _, _, s9⟩ HJ.out.fr)
  have S9 := Lib.hid s9
  have hnum := Lib.hid (number_c _ b (n + 1) tb m J3.out.op.rt.re)
  clear s9 g9 hx J2
  have hXb := J3.out.nX.1
  cases hr : nmb 10 0 0 m with
  | error c =>
    rw [hr] at hnum
    have Hr := Lib.hid hr
    clear hr
    go_wp2_with fail
    refine hnum.out.mono ?_
    rintro e w3 ⟨rfl, g⟩
    exact hpan.out c Hr.out _ _ rfl (J3.out.gr.trans (g.mono (fun _ _ e => .inl e)))
  | ok um =>
    obtain ⟨u, m'⟩ := um
    rw [hr] at hnum
    have Hr := Lib.hid hr
    clear hr
    go_wp2_with fail
    refine hnum.out.mono ?_
    rintro e w3 ⟨rfl, hs, hu⟩
    have J4 := Lib.hid (J3.out.sr hs (by have := Hn.out; omega) HJ.out.fr)
    have hx4 := S9.out.gr hs.2 hXb
    have hf4 := hx4.facts
    have y1 := hx4.froz 1 (by decide)
    have hl4 := hx4.lt
    have Hx4 := Lib.hid hx4
    have hu := Lib.hid hu
    clear hs hx4
    go_wp2_with fail
    refine (unfolded_c u hu.out _).mono ?_
    rintro e w4 ⟨rfl, rfl⟩
    go_wp2_with fail
    refine wp_goto ?_
    have hx5 := Hx4.out.set1 (unf (u : Int))
    exact h1.out u m' Hr.out _ _ (J4.out.tx (Gr.set (S := fun i => i = X) _ ⟨X, 1, none⟩ _ rfl) ⟨_, _, _, _, _, _, _, _, _, _, hx5⟩ ⟨rfl, rfl, rfl, rfl, rfl, rfl⟩) hx5
end Go.Proofs.YtmohehfkbhllpaaGreat


namespace Go.Proofs.YtmohehfkbhllpaaGreat
open Go.RowKit Go.Maps
variable {S S' Z F F0 : Nat → Prop} {W W0 W1 W' : World}
theorem Bx.set2 {g : Nat} {k n : Int} {x y : Nat} {s : ByteArray} {a c d : Int} {bs l : Value} (h : Bx W g k n x y s a c d bs l) (u v : Nat) : Bx (W.setCell ⟨g, 2, none⟩ (.complex .f64 u v)) g k n u v s a c d bs l := heap_setCell_same W g 2 _ 31 _ h
set_option maxRecDepth 20000 in
set_option maxHeartbeats 1600000 in
theorem begin_cx (Y : Code) (hY : Lab 0 (.seq .skip Y)) (Q : Exit → Act → World → Prop) (b tb R X n : Nat) (m : List Int) (l : List ByteArray) (ov : Value) (ns : List Ne) (B : Nat → Prop)
    (h1 : ¬ m.length < 16 → ∀ a w, Jc Z F0 W0 b tb R X F (n + 1) (m.drop 16) l ov ns B a w → Bx w X 2 0 (be (m.take 8)) (be ((m.drop 8).take 8)) e0 0 0 0 nl nl → Q (.goto 1) a w)
    (hpan : m.length < 16 → ∀ a w, a.defers = [] → Gr (fun k => k = b ∨ F0 k) W0 w → Q (.panic [{ v := .iface 32 (.int .i64 72), recovered := false }]) a w)
    (a : Act) (w : World) (hJ : Jc Z F0 W0 b tb R X F n (2 :: m) l ov ns B a w) (hn24 : ns.length < 24) (hn : n < 4096) : Y.wp Tryz.prog Q a w := by
  unfold Lab at hY
  simp only [Tryz.f13, scopeOf, findLabel, Option.getD] at hY
  cases hY
  obtain ⟨vals, -, hrow⟩ := hJ.op.nst
  obtain ⟨x, rfl⟩ := hJ.fr.lit
  obtain ⟨q, hq⟩ : ∃ q, ns.length = q := ⟨_, rfl⟩
  rw [hq] at hrow hn24
  have hsv : ∃ a c, ov = .slice a q c := ownsRow_sv hrow
  obtain ⟨oa, oc, rfl⟩ := hsv
  have hqI : (q : Int) < 24 := by omega
  have hb := Lib.hid (begin_ok w b n tb (2 :: m) ((q : Int) + 1) (by omega) hJ.op.rt.re hn)
  have HJ := Lib.hid hJ
  have hpan := Lib.hid hpan
  have h1 := Lib.hid h1
  have Hn := Lib.hid hn
  clear hJ hrow hq hn hn24
  go_wp2_with fail
  refine hb.out.mono ?_
  rintro e w1 ⟨rfl, hs⟩
  have J1 := Lib.hid (HJ.out.sr hs (by have := Hn.out; omega) HJ.out.fr)
  clear hs
  have ho := Lib.hid (one_ok w1 b (n + 1) tb 2 m J1.out.op.rt.re)
  go_wp2_with fail
  refine ho.out.mono ?_
  rintro e w2 ⟨rfl, hs⟩
  have J2 := J1.out.sr hs (by have := Hn.out; omega) HJ.out.fr
  clear hs
  obtain ⟨tk, tn, tx, ty, ts, ta, tc, td, tbv, tlv, hx⟩ := J2.xb
  have hxf := hx.facts
  have z0 := hx.froz 0 (by decide)
  have z1 := hx.froz 1 (by decide)
  have z2 := hx.froz 2 (by decide)
  have z3 := hx.froz 3 (by decide)
  have z4 := hx.froz 4 (by decide)
  have z5 := hx.froz 5 (by decide)
  have z6 := hx.froz 6 (by decide)
  have z7 := hx.froz 7 (by decide)
  have z8 := hx.froz 8 (by decide)
  obtain ⟨s9, g9⟩ := hx.set9 2 0 0 0 e0 0 0 0 nl nl
  have J3 := Lib.hid (J2.tx g9 ⟨_, _, _, _, _, _, _, _, _, _, s9⟩ HJ.out.fr)
  have S9 := Lib.hid s9
  have hnum := Lib.hid (cx_c _ b (n + 1) tb m J3.out.op.rt.re)
  clear s9 g9 hx J2
  have hXb := J3.out.nX.1
  by_cases hr : m.length < 16
  · simp only [EndX, if_pos hr] at hnum
    have Hr := Lib.hid hr
    clear hr
    go_wp2_with fail
    refine hnum.out.mono ?_
    rintro e w3 ⟨rfl, g⟩
    exact hpan.out Hr.out _ _ rfl (J3.out.gr.trans (g.mono (fun _ _ e => .inl e)))
  · simp only [EndX, if_neg hr] at hnum
    have Hr := Lib.hid hr
    clear hr
    go_wp2_with fail
    refine hnum.out.mono ?_
    rintro e w3 ⟨rfl, hs⟩
    have J4 := Lib.hid (J3.out.sr hs (by have := Hn.out; omega) HJ.out.fr)
    have hx4 := S9.out.gr hs.2 hXb
    have hf4 := hx4.facts
    have y1 := hx4.froz 2 (by decide)
    have hl4 := hx4.lt
    have Hx4 := Lib.hid hx4
    clear hs hx4
    go_wp2_with fail
    refine wp_goto ?_
    have hx5 := Hx4.out.set2 (be (m.take 8)) (be ((m.drop 8).take 8))
    exact h1.out Hr.out _ _ (J4.out.tx (Gr.set (S := fun i => i = X) _ ⟨X, 2, none⟩ _ rfl) ⟨_, _, _, _, _, _, _, _, _, _, hx5⟩ ⟨rfl, rfl, rfl, rfl, rfl, rfl⟩) hx5
end Go.Proofs.YtmohehfkbhllpaaGreat

