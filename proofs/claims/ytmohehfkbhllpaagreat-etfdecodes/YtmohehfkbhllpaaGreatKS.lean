/-
  Carried over from another seat of ours (KS).
  Carried over from another seat of ours (KT).
  Carried over from another seat of ours (KU).
-/
import Derived.Test.YtmohehfkbhllpaaGreatKN
set_option linter.unusedVariables false
set_option linter.unusedSimpArgs false
namespace Go.Proofs.YtmohehfkbhllpaaGreat
open Go.RowKit Go.Maps
variable {S S' Z F F0 : Nat → Prop} {W W0 W1 W' : World}
theorem Bx.set3 {g : Nat} {k n : Int} {x y : Nat} {s : ByteArray} {a c d : Int} {bs l : Value} (h : Bx W g k n x y s a c d bs l) (u : ByteArray) : Bx (W.setCell ⟨g, 3, none⟩ (.string u)) g k n x y u a c d bs l := heap_setCell_same W g 3 _ 31 _ h
theorem Bx.set4 {g : Nat} {k n : Int} {x y : Nat} {s : ByteArray} {a c d : Int} {bs l : Value} (h : Bx W g k n x y s a c d bs l) (u : Int) : Bx (W.setCell ⟨g, 4, none⟩ (.int .i64 u)) g k n x y s u c d bs l := heap_setCell_same W g 4 _ 31 _ h
theorem Bx.set5 {g : Nat} {k n : Int} {x y : Nat} {s : ByteArray} {a c d : Int} {bs l : Value} (h : Bx W g k n x y s a c d bs l) (u : Int) : Bx (W.setCell ⟨g, 5, none⟩ (.int .u32 u)) g k n x y s a u d bs l := heap_setCell_same W g 5 _ 31 _ h
theorem Bx.set6 {g : Nat} {k n : Int} {x y : Nat} {s : ByteArray} {a c d : Int} {bs l : Value} (h : Bx W g k n x y s a c d bs l) (u : Int) : Bx (W.setCell ⟨g, 6, none⟩ (.int .u64 u)) g k n x y s a c u bs l := heap_setCell_same W g 6 _ 31 _ h
theorem Bx.set456 {g : Nat} {k n : Int} {x y : Nat} {s : ByteArray} {a c d : Int} {bs l : Value} (h : Bx W g k n x y s a c d bs l) (u v t : Int) : Bx (((W.setCell ⟨g, 4, none⟩ (.int .i64 u)).setCell ⟨g, 5, none⟩ (.int .u32 v)).setCell ⟨g, 6, none⟩ (.int .u64 t)) g k n x y s u v t bs l := ((h.set4 u).set5 v).set6 t
set_option maxRecDepth 20000 in
set_option maxHeartbeats 1600000 in
theorem begin_id4 (Y : Code) (hY : Lab 0 (.seq .skip Y)) (Q : Exit → Act → World → Prop) (b tb R X n : Nat) (m : List Int) (l : List ByteArray) (ov : Value) (ns : List Ne) (B : Nat → Prop)
    (h1 : ∀ c t u m', idq m = .ok (c, t, u, m') → ∀ a w, Jc Z F0 W0 b tb R X F (n + 1) m' l ov ns B a w → Bx w X 4 0 0 0 e0 c (t : Int) (u : Int) nl nl → Q (.goto 1) a w)
    (hpan : ∀ c, idq m = .error c → ∀ a w, a.defers = [] → Gr (fun k => k = b ∨ F0 k) W0 w → Q (.panic [{ v := .iface 32 (.int .i64 c), recovered := false }]) a w)
    (a : Act) (w : World) (hJ : Jc Z F0 W0 b tb R X F n (4 :: m) l ov ns B a w) (hn24 : ns.length < 24) (hn : n < 4096) : Y.wp Tryz.prog Q a w := by
  unfold Lab at hY
  simp only [Tryz.f13, scopeOf, findLabel, Option.getD] at hY
  cases hY
  obtain ⟨vals, -, hrow⟩ := hJ.op.nst
  obtain ⟨x, rfl⟩ := hJ.fr.lit
  obtain ⟨q, hq⟩ : ∃ q, ns.length = q := ⟨_, rfl⟩
  rw [hq] at hrow hn24
  have hsv : ∃ a c, ov = .slice a q c := ownsRow_sv hrow
  obtain ⟨oa, oc, rfl⟩ := hsv
  have hqI : (q : Int) < 24 := by omega
  have hb := Lib.hid (begin_ok w b n tb (4 :: m) ((q : Int) + 1) (by omega) hJ.op.rt.re hn)
  have HJ := Lib.hid hJ
  have hpan := Lib.hid hpan
  have h1 := Lib.hid h1
  have Hn := Lib.hid hn
  clear hJ hrow hq hn hn24
  go_wp2_with fail
  refine hb.out.mono ?_
  rintro e w1 ⟨rfl, hs⟩
  have J1 := Lib.hid (HJ.out.sr hs (by have := Hn.out; omega) HJ.out.fr)
  clear hs
  have ho := Lib.hid (one_ok w1 b (n + 1) tb 4 m J1.out.op.rt.re)
  go_wp2_with fail
  refine ho.out.mono ?_
  rintro e w2 ⟨rfl, hs⟩
  have J2 := J1.out.sr hs (by have := Hn.out; omega) HJ.out.fr
  clear hs
  obtain ⟨tk, tn, tx, ty, ts, ta, tc, td, tbv, tlv, hx⟩ := J2.xb
  have hxf := hx.facts
  have z0 := hx.froz 0 (by decide)
  have z1 := hx.froz 1 (by decide)
  have z2 := hx.froz 2 (by decide)
  have z3 := hx.froz 3 (by decide)
  have z4 := hx.froz 4 (by decide)
  have z5 := hx.froz 5 (by decide)
  have z6 := hx.froz 6 (by decide)
  have z7 := hx.froz 7 (by decide)
  have z8 := hx.froz 8 (by decide)
  obtain ⟨s9, g9⟩ := hx.set9 4 0 0 0 e0 0 0 0 nl nl
  have J3 := Lib.hid (J2.tx g9 ⟨_, _, _, _, _, _, _, _, _, _, s9⟩ HJ.out.fr)
  have S9 := Lib.hid s9
  have hnum := Lib.hid (id_c _ b (n + 1) tb m J3.out.op.rt.re J3.out.op.rt.zl)
  clear s9 g9 hx J2
  have hXb := J3.out.nX.1
  cases hr : idq m with
  | error c =>
    rw [hr] at hnum
    have Hr := Lib.hid hr
    clear hr
    go_wp2_with fail
    refine hnum.out.mono ?_
    rintro e w3 ⟨rfl, g⟩
    exact hpan.out c Hr.out _ _ rfl (J3.out.gr.trans (g.mono (fun _ _ e => .inl e)))
  | ok um =>
    obtain ⟨c, t, u, m'⟩ := um
    rw [hr] at hnum
    have Hr := Lib.hid hr
    clear hr
    go_wp2_with fail
    refine hnum.out.mono ?_
    rintro e w3 ⟨rfl, hs, hb1, hb2, hb3, hb4⟩
    clear hb1 hb2 hb3 hb4
    have J4 := Lib.hid (J3.out.sr hs (by have := Hn.out; omega) HJ.out.fr)
    have hx4 := S9.out.gr hs.2 hXb
    have hf4 := hx4.facts
    have y1 := hx4.froz 4 (by decide)
    have y2 := hx4.froz 5 (by decide)
    have y3 := hx4.froz 6 (by decide)
    have hl4 := hx4.lt
    have Hx4 := Lib.hid hx4
    clear hs hx4
    go_wp2_with fail
    refine wp_goto ?_
    have hx5 := Hx4.out.set456 c (t : Int) (u : Int)
    exact h1.out c t u m' Hr.out _ _ (J4.out.tx (((Gr.set (S := fun i => i = X) _ ⟨X, 4, none⟩ _ rfl).trans (Gr.set (S := fun i => i = X) _ ⟨X, 5, none⟩ _ rfl)).trans (Gr.set (S := fun i => i = X) _ ⟨X, 6, none⟩ _ rfl)) ⟨_, _, _, _, _, _, _, _, _, _, hx5⟩ ⟨rfl, rfl, rfl, rfl, rfl, rfl⟩) hx5
set_option maxRecDepth 20000 in
set_option maxHeartbeats 1600000 in
theorem begin_id5 (Y : Code) (hY : Lab 0 (.seq .skip Y)) (Q : Exit → Act → World → Prop) (b tb R X n : Nat) (m : List Int) (l : List ByteArray) (ov : Value) (ns : List Ne) (B : Nat → Prop)
    (h1 : ∀ c t u m', idq m = .ok (c, t, u, m') → ∀ a w, Jc Z F0 W0 b tb R X F (n + 1) m' l ov ns B a w → Bx w X 5 0 0 0 e0 c (t : Int) (u : Int) nl nl → Q (.goto 1) a w)
    (hpan : ∀ c, idq m = .error c → ∀ a w, a.defers = [] → Gr (fun k => k = b ∨ F0 k) W0 w → Q (.panic [{ v := .iface 32 (.int .i64 c), recovered := false }]) a w)
    (a : Act) (w : World) (hJ : Jc Z F0 W0 b tb R X F n (5 :: m) l ov ns B a w) (hn24 : ns.length < 24) (hn : n < 4096) : Y.wp Tryz.prog Q a w := by
  unfold Lab at hY
  simp only [Tryz.f13, scopeOf, findLabel, Option.getD] at hY
  cases hY
  obtain ⟨vals, -, hrow⟩ := hJ.op.nst
  obtain ⟨x, rfl⟩ := hJ.fr.lit
  obtain ⟨q, hq⟩ : ∃ q, ns.length = q := ⟨_, rfl⟩
  rw [hq] at hrow hn24
  have hsv : ∃ a c, ov = .slice a q c := ownsRow_sv hrow
  obtain ⟨oa, oc, rfl⟩ := hsv
  have hqI : (q : Int) < 24 := by omega
  have hb := Lib.hid (begin_ok w b n tb (5 :: m) ((q : Int) + 1) (by omega) hJ.op.rt.re hn)
  have HJ := Lib.hid hJ
  have hpan := Lib.hid hpan
  have h1 := Lib.hid h1
  have Hn := Lib.hid hn
  clear hJ hrow hq hn hn24
  go_wp2_with fail
  refine hb.out.mono ?_
  rintro e w1 ⟨rfl, hs⟩
  have J1 := Lib.hid (HJ.out.sr hs (by have := Hn.out; omega) HJ.out.fr)
  clear hs
  have ho := Lib.hid (one_ok w1 b (n + 1) tb 5 m J1.out.op.rt.re)
  go_wp2_with fail
  refine ho.out.mono ?_
  rintro e w2 ⟨rfl, hs⟩
  have J2 := J1.out.sr hs (by have := Hn.out; omega) HJ.out.fr
  clear hs
  obtain ⟨tk, tn, tx, ty, ts, ta, tc, td, tbv, tlv, hx⟩ := J2.xb
  have hxf := hx.facts
  have z0 := hx.froz 0 (by decide)
  have z1 := hx.froz 1 (by decide)
  have z2 := hx.froz 2 (by decide)
  have z3 := hx.froz 3 (by decide)
  have z4 := hx.froz 4 (by decide)
  have z5 := hx.froz 5 (by decide)
  have z6 := hx.froz 6 (by decide)
  have z7 := hx.froz 7 (by decide)
  have z8 := hx.froz 8 (by decide)
  obtain ⟨s9, g9⟩ := hx.set9 5 0 0 0 e0 0 0 0 nl nl
  have J3 := Lib.hid (J2.tx g9 ⟨_, _, _, _, _, _, _, _, _, _, s9⟩ HJ.out.fr)
  have S9 := Lib.hid s9
  have hnum := Lib.hid (id_c _ b (n + 1) tb m J3.out.op.rt.re J3.out.op.rt.zl)
  clear s9 g9 hx J2
  have hXb := J3.out.nX.1
  cases hr : idq m with
  | error c =>
    rw [hr] at hnum
    have Hr := Lib.hid hr
    clear hr
    go_wp2_with fail
    refine hnum.out.mono ?_
    rintro e w3 ⟨rfl, g⟩
    exact hpan.out c Hr.out _ _ rfl (J3.out.gr.trans (g.mono (fun _ _ e => .inl e)))
  | ok um =>
    obtain ⟨c, t, u, m'⟩ := um
    rw [hr] at hnum
    have Hr := Lib.hid hr
    clear hr
    go_wp2_with fail
    refine hnum.out.mono ?_
    rintro e w3 ⟨rfl, hs, hb1, hb2, hb3, hb4⟩
    clear hb1 hb2 hb3 hb4
    have J4 := Lib.hid (J3.out.sr hs (by have := Hn.out; omega) HJ.out.fr)
    have hx4 := S9.out.gr hs.2 hXb
    have hf4 := hx4.facts
    have y1 := hx4.froz 4 (by decide)
    have y2 := hx4.froz 5 (by decide)
    have y3 := hx4.froz 6 (by decide)
    have hl4 := hx4.lt
    have Hx4 := Lib.hid hx4
    clear hs hx4
    go_wp2_with fail
    refine wp_goto ?_
    have hx5 := Hx4.out.set456 c (t : Int) (u : Int)
    exact h1.out c t u m' Hr.out _ _ (J4.out.tx (((Gr.set (S := fun i => i = X) _ ⟨X, 4, none⟩ _ rfl).trans (Gr.set (S := fun i => i = X) _ ⟨X, 5, none⟩ _ rfl)).trans (Gr.set (S := fun i => i = X) _ ⟨X, 6, none⟩ _ rfl)) ⟨_, _, _, _, _, _, _, _, _, _, hx5⟩ ⟨rfl, rfl, rfl, rfl, rfl, rfl⟩) hx5
set_option maxRecDepth 20000 in
set_option maxHeartbeats 1600000 in
theorem begin_atom (Y : Code) (hY : Lab 0 (.seq .skip Y)) (Q : Exit → Act → World → Prop) (b tb R X n : Nat) (m : List Int) (l : List ByteArray) (ov : Value) (ns : List Ne) (B : Nat → Prop)
    (h1 : ∀ s m' l', nmq m l = .ok (s, m', l') → ∀ F' a w, Jc Z F0 W0 b tb R X F' (n + 1) m' l' ov ns B a w → Hand (W0.heap.size + 2) F' B ov w X (.mk { k := 3, s := s } [] []) → Q (.goto 2) a w)
    (hpan : ∀ c, nmq m l = .error c → ∀ a w, a.defers = [] → Gr (fun k => k = b ∨ F0 k) W0 w → Q (.panic [{ v := .iface 32 (.int .i64 c), recovered := false }]) a w)
    (a : Act) (w : World) (hJ : Jc Z F0 W0 b tb R X F n (3 :: m) l ov ns B a w) (hn24 : ns.length < 24) (hn : n < 4096) (hl4096 : l.length ≤ 4096) : Y.wp Tryz.prog Q a w := by
  unfold Lab at hY
  simp only [Tryz.f13, scopeOf, findLabel, Option.getD] at hY
  cases hY
  obtain ⟨vals, -, hrow⟩ := hJ.op.nst
  obtain ⟨x, rfl⟩ := hJ.fr.lit
  obtain ⟨q, hq⟩ : ∃ q, ns.length = q := ⟨_, rfl⟩
  rw [hq] at hrow hn24
  have hsv : ∃ a c, ov = .slice a q c := ownsRow_sv hrow
  obtain ⟨oa, oc, rfl⟩ := hsv
  have hqI : (q : Int) < 24 := by omega
  have hb := Lib.hid (begin_ok w b n tb (3 :: m) ((q : Int) + 1) (by omega) hJ.op.rt.re hn)
  have HJ := Lib.hid hJ
  have hpan := Lib.hid hpan
  have h1 := Lib.hid h1
  have Hn := Lib.hid hn
  clear hJ hrow hq hn hn24
  go_wp2_with fail
  refine hb.out.mono ?_
  rintro e w1 ⟨rfl, hs⟩
  have J1 := Lib.hid (HJ.out.sr hs (by have := Hn.out; omega) HJ.out.fr)
  clear hs
  have ho := Lib.hid (one_ok w1 b (n + 1) tb 3 m J1.out.op.rt.re)
  go_wp2_with fail
  refine ho.out.mono ?_
  rintro e w2 ⟨rfl, hs⟩
  have J2 := J1.out.sr hs (by have := Hn.out; omega) HJ.out.fr
  clear hs
  obtain ⟨tk, tn, tx, ty, ts, ta, tc, td, tbv, tlv, hx⟩ := J2.xb
  have hxf := hx.facts
  have z0 := hx.froz 0 (by decide)
  have z1 := hx.froz 1 (by decide)
  have z2 := hx.froz 2 (by decide)
  have z3 := hx.froz 3 (by decide)
  have z4 := hx.froz 4 (by decide)
  have z5 := hx.froz 5 (by decide)
  have z6 := hx.froz 6 (by decide)
  have z7 := hx.froz 7 (by decide)
  have z8 := hx.froz 8 (by decide)
  obtain ⟨s9, g9⟩ := hx.set9 3 0 0 0 e0 0 0 0 nl nl
  have J3 := Lib.hid (J2.tx g9 ⟨_, _, _, _, _, _, _, _, _, _, s9⟩ HJ.out.fr)
  have S9 := Lib.hid s9
  have hnum := Lib.hid (name_c _ b (n + 1) tb m l J3.out.op.rt hl4096)
  clear s9 g9 hx J2
  have hXb := J3.out.nX.1
  cases hr : nmq m l with
  | error c =>
    rw [hr] at hnum
    have Hr := Lib.hid hr
    clear hr
    go_wp2_with fail
    refine hnum.out.mono ?_
    rintro e w3 ⟨rfl, g⟩
    exact hpan.out c Hr.out _ _ rfl (J3.out.gr.trans' g (fun i hi e => e.elim .inl (fun e => (J3.out.fx i e).elim .inr (fun e => by omega))))
  | ok um =>
    obtain ⟨s, m', l'⟩ := um
    rw [hr] at hnum
    have Hr := Lib.hid hr
    clear hr
    go_wp2_with fail
    refine hnum.out.mono ?_
    rintro e w3 ⟨rfl, hs⟩
    obtain ⟨F', J4', -⟩ := J3.out.nm hs (by have := Hn.out; omega) HJ.out.fr
    have J4 := Lib.hid J4'
    have hx4 := S9.out.gr hs.gr (fun e => e.elim hXb (fun e => J3.out.nX.2.2.2.1 _ e rfl))
    have hf4 := hx4.facts
    have y1 := hx4.froz 3 (by decide)
    have hl4 := hx4.lt
    have Hx4 := Lib.hid hx4
    clear hs hx4 J4'
    go_wp2_with fail
    refine wp_goto ?_
    have hx5 := Hx4.out.set3 s
    exact h1.out s m' l' Hr.out F' _ _ (J4.out.tx (Gr.set (S := fun i => i = X) _ ⟨X, 3, none⟩ _ rfl) ⟨_, _, _, _, _, _, _, _, _, _, hx5⟩ ⟨rfl, rfl, rfl, rfl, rfl, rfl⟩) ⟨fun _ => False, _, _, _, _, _, _, _, _, _, _, _, _, _, _, hx5, ⟨_, _, [], rfl, .inl ⟨rfl, _, _, rfl⟩, .inl ⟨rfl, _, _, rfl⟩, rfl⟩, fun _ e => e.elim⟩
end Go.Proofs.YtmohehfkbhllpaaGreat


namespace Go.Proofs.YtmohehfkbhllpaaGreat
open Go.RowKit Go.Maps
variable {S S' Z F F0 : Nat → Prop} {W W0 W1 W' : World}
theorem rwq_le {m : List Int} {n : Nat} {bs m' : List Int} {n' : Nat} (hn : n ≤ 4096) (h : rwq m n = .ok (bs, m', n')) : n' ≤ 4096 := by
  unfold rwq at h
  split at h
  · cases h
  · split at h
    · cases h
    · split at h
      · cases h
      · cases h; omega
theorem RowB.sv {A : Nat → Prop} {bs : List Int} {v : Value} (h : RowB A W bs v) : ∃ a n c, v = .slice a n c := by
  rcases h with ⟨_, a, c, rfl⟩ | ⟨g, cap, cur, rfl, _⟩
  · exact ⟨_, _, _, rfl⟩
  · exact ⟨_, _, _, rfl⟩
/-- What is new is nobody's. -/
theorem Jc.fresh {b tb R X n : Nat} {m : List Int} {l : List ByteArray} {ov : Value} {ns : List Ne} {B : Nat → Prop} {a : Act} {w : World} (h : Jc Z F0 W0 b tb R X F n m l ov ns B a w) {k : Nat} (hk : w.heap.size ≤ k) : W0.heap.size + 2 ≤ k ∧ k ≠ X ∧ ¬ B k ∧ ¬ F k ∧ ov.ownBlock ≠ some k := by
  obtain ⟨_, _, _, _, _, _, _, _, _, _, hx⟩ := h.xb
  have h1 := hx.lt
  have h2 := h.hX
  obtain ⟨vals, _, hrow⟩ := h.op.nst
  exact ⟨by omega, by omega, fun e => by have := (h.op.bF k e).2.2; omega, fun e => by have := h.op.fl k e; omega, fun e => by have := (ownsRow_lt hrow k e).2; omega⟩
set_option maxRecDepth 20000 in
set_option maxHeartbeats 1600000 in
theorem begin_raw (Y : Code) (hY : Lab 0 (.seq .skip Y)) (Q : Exit → Act → World → Prop) (b tb R X n : Nat) (m : List Int) (l : List ByteArray) (ov : Value) (ns : List Ne) (B : Nat → Prop)
    (h1 : ∀ bs m' n', rwq m (n + 1) = .ok (bs, m', n') → ∀ a w, Jc Z F0 W0 b tb R X F n' m' l ov ns B a w → Hand (W0.heap.size + 2) F B ov w X (.mk { k := 8 } bs []) → Q (.goto 2) a w)
    (hpan : ∀ c, rwq m (n + 1) = .error c → ∀ a w, a.defers = [] → Gr (fun k => k = b ∨ F0 k) W0 w → Q (.panic [{ v := .iface 32 (.int .i64 c), recovered := false }]) a w)
    (a : Act) (w : World) (hJ : Jc Z F0 W0 b tb R X F n (8 :: m) l ov ns B a w) (hn24 : ns.length < 24) (hn : n < 4096) : Y.wp Tryz.prog Q a w := by
  unfold Lab at hY
  simp only [Tryz.f13, scopeOf, findLabel, Option.getD] at hY
  cases hY
  obtain ⟨vals, -, hrow⟩ := hJ.op.nst
  obtain ⟨x, rfl⟩ := hJ.fr.lit
  obtain ⟨q, hq⟩ : ∃ q, ns.length = q := ⟨_, rfl⟩
  rw [hq] at hrow hn24
  have hsv : ∃ a c, ov = .slice a q c := ownsRow_sv hrow
  obtain ⟨oa, oc, rfl⟩ := hsv
  have hqI : (q : Int) < 24 := by omega
  have hb := Lib.hid (begin_ok w b n tb (8 :: m) ((q : Int) + 1) (by omega) hJ.op.rt.re hn)
  have HJ := Lib.hid hJ
  have hpan := Lib.hid hpan
  have h1 := Lib.hid h1
  have Hn := Lib.hid hn
  clear hJ hrow hq hn hn24
  go_wp2_with fail
  refine hb.out.mono ?_
  rintro e w1 ⟨rfl, hs⟩
  have J1 := Lib.hid (HJ.out.sr hs (by have := Hn.out; omega) HJ.out.fr)
  clear hs
  have ho := Lib.hid (one_ok w1 b (n + 1) tb 8 m J1.out.op.rt.re)
  go_wp2_with fail
  refine ho.out.mono ?_
  rintro e w2 ⟨rfl, hs⟩
  have J2 := J1.out.sr hs (by have := Hn.out; omega) HJ.out.fr
  clear hs
  obtain ⟨tk, tn, tx, ty, ts, ta, tc, td, tbv, tlv, hx⟩ := J2.xb
  have hxf := hx.facts
  have z0 := hx.froz 0 (by decide)
  have z1 := hx.froz 1 (by decide)
  have z2 := hx.froz 2 (by decide)
  have z3 := hx.froz 3 (by decide)
  have z4 := hx.froz 4 (by decide)
  have z5 := hx.froz 5 (by decide)
  have z6 := hx.froz 6 (by decide)
  have z7 := hx.froz 7 (by decide)
  have z8 := hx.froz 8 (by decide)
  obtain ⟨s9, g9⟩ := hx.set9 8 0 0 0 e0 0 0 0 nl nl
  have J3 := Lib.hid (J2.tx g9 ⟨_, _, _, _, _, _, _, _, _, _, s9⟩ HJ.out.fr)
  have S9 := Lib.hid s9
  have hnum := Lib.hid (raw_c _ b (n + 1) tb m J3.out.op.rt.re (by have := Hn.out; omega))
  clear s9 g9 hx J2
  have hXb := J3.out.nX.1
  cases hr : rwq m (n + 1) with
  | error c =>
    rw [hr] at hnum
    have Hr := Lib.hid hr
    clear hr
    go_wp2_with fail
    refine hnum.out.mono ?_
    rintro e w3 ⟨rfl, g⟩
    exact hpan.out c Hr.out _ _ rfl (J3.out.gr.trans (g.mono (fun _ _ e => .inl e)))
  | ok um =>
    obtain ⟨bs, m', n'⟩ := um
    rw [hr] at hnum
    have Hr := Lib.hid hr
    clear hr
    go_wp2_with fail
    refine hnum.out.mono ?_
    rintro e w3 ⟨v, rfl, hrow, hs⟩
    have J4 := Lib.hid (J3.out.sr hs (rwq_le (by have := Hn.out; omega) Hr.out) HJ.out.fr)
    have hx4 := S9.out.gr hs.2 hXb
    have hf4 := hx4.facts
    have y1 := hx4.froz 7 (by decide)
    have hl4 := hx4.lt
    have Hx4 := Lib.hid hx4
    have Hrow := Lib.hid hrow
    have Hsv : ∃ a n c, v = .slice a n c := hrow.sv
    obtain ⟨va, vn, vc, rfl⟩ := Hsv
    have Hg := Lib.hid hs.2
    clear hs hx4 hrow
    go_wp2_with fail
    refine wp_goto ?_
    have hx5 := Hx4.out.set7 (.slice va vn vc)
    have g7 := Gr.set (S := fun i => i = X) w3 ⟨X, 7, none⟩ (.slice va vn vc) rfl
    refine h1.out bs m' n' Hr.out _ _ (J4.out.tx g7 ⟨_, _, _, _, _, _, _, _, _, _, hx5⟩ ⟨rfl, rfl, rfl, rfl, rfl, rfl⟩) ⟨fun k => _ ≤ k ∧ k < w3.heap.size, _, _, _, _, _, _, _, _, _, _, _, _, _, _, hx5, ⟨_, _, [], rfl, Hrow.out.turn (fun k hk hl => ⟨⟨hk, hl⟩, g7.block k hl (J3.out.fresh hk).2.1⟩), .inl ⟨rfl, _, _, rfl⟩, rfl⟩, fun k hk => ?_⟩
    have := J3.out.fresh hk.1
    exact ⟨this.1, by have := g7.size; omega, this.2.2⟩
end Go.Proofs.YtmohehfkbhllpaaGreat


namespace Go.Proofs.YtmohehfkbhllpaaGreat
open Go.RowKit Go.Maps
variable {S S' Z F F0 : Nat → Prop} {W W0 W1 W' : World}
set_option maxRecDepth 20000 in
set_option maxHeartbeats 1600000 in
theorem begin_else (Y : Code) (hY : Lab 0 (.seq .skip Y)) (Q : Exit → Act → World → Prop) (b tb R X n : Nat) (m : List Int) (kk : Int) (l : List ByteArray) (ov : Value) (ns : List Ne) (B : Nat → Prop)
    (hpan : ∀ a w, a.defers = [] → Gr (fun k => k = b ∨ F0 k) W0 w → Q (.panic [{ v := .iface 32 (.int .i64 73), recovered := false }]) a w)
    (a : Act) (w : World) (hJ : Jc Z F0 W0 b tb R X F n (kk :: m) l ov ns B a w) (hn24 : ns.length < 24) (hn : n < 4096) (h0k : 0 ≤ kk) (h9k : kk < 256) (e1 : (kk == 1) = false) (e2 : (kk == 2) = false) (e3 : (kk == 3) = false) (e4 : (kk == 4) = false) (e5 : (kk == 5) = false) (e6 : (kk == 6) = false) (e7 : (kk == 7) = false) (e8 : (kk == 8) = false) : Y.wp Tryz.prog Q a w := by
  unfold Lab at hY
  simp only [Tryz.f13, scopeOf, findLabel, Option.getD] at hY
  cases hY
  obtain ⟨vals, -, hrow⟩ := hJ.op.nst
  obtain ⟨x, rfl⟩ := hJ.fr.lit
  obtain ⟨q, hq⟩ : ∃ q, ns.length = q := ⟨_, rfl⟩
  rw [hq] at hrow hn24
  have hsv : ∃ a c, ov = .slice a q c := ownsRow_sv hrow
  obtain ⟨oa, oc, rfl⟩ := hsv
  have hqI : (q : Int) < 24 := by omega
  have hb := Lib.hid (begin_ok w b n tb (kk :: m) ((q : Int) + 1) (by omega) hJ.op.rt.re hn)
  have HJ := Lib.hid hJ
  have hpan := Lib.hid hpan
  have Hn := Lib.hid hn
  clear hJ hrow hq hn hn24
  have hwk : IntKind.i64.wrap kk = kk := by rw [IntKind.wrap_i64]; omega
  go_wp2_with fail
  refine hb.out.mono ?_
  rintro e w1 ⟨rfl, hs⟩
  have J1 := Lib.hid (HJ.out.sr hs (by have := Hn.out; omega) HJ.out.fr)
  clear hs
  have ho := Lib.hid (one_ok w1 b (n + 1) tb kk m J1.out.op.rt.re)
  go_wp2_with fail
  refine ho.out.mono ?_
  rintro e w2 ⟨rfl, hs⟩
  have J2 := J1.out.sr hs (by have := Hn.out; omega) HJ.out.fr
  clear hs
  obtain ⟨tk, tn, tx, ty, ts, ta, tc, td, tbv, tlv, hx⟩ := J2.xb
  have hxf := hx.facts
  have z0 := hx.froz 0 (by decide)
  have z1 := hx.froz 1 (by decide)
  have z2 := hx.froz 2 (by decide)
  have z3 := hx.froz 3 (by decide)
  have z4 := hx.froz 4 (by decide)
  have z5 := hx.froz 5 (by decide)
  have z6 := hx.froz 6 (by decide)
  have z7 := hx.froz 7 (by decide)
  have z8 := hx.froz 8 (by decide)
  obtain ⟨s9, g9⟩ := hx.set9 kk 0 0 0 e0 0 0 0 nl nl
  have J3 := Lib.hid (J2.tx g9 ⟨_, _, _, _, _, _, _, _, _, _, s9⟩ HJ.out.fr)
  have S9 := Lib.hid s9

  clear s9 g9 hx J2
  go_wp2_with fail
  first | exact J3.out.gr | exact ⟨rfl, J3.out.gr⟩ | exact hpan.out _ _ rfl J3.out.gr
end Go.Proofs.YtmohehfkbhllpaaGreat

