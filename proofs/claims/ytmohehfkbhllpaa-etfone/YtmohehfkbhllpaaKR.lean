/-
  The reader's label begin: complex numbers.
-/
import Derived.Test.YtmohehfkbhllpaaKN
set_option linter.unusedVariables false
set_option linter.unusedSimpArgs false
namespace Go.Proofs.Ytmohehfkbhllpaa
open Go.RowKit Go.Maps
variable {S S' Z F F0 : Nat → Prop} {W W0 W1 W' : World}
theorem Bx.set2 {g : Nat} {k n : Int} {x y : Nat} {s : ByteArray} {a c d : Int} {bs l : Value} (h : Bx W g k n x y s a c d bs l) (u v : Nat) : Bx (W.setCell ⟨g, 2, none⟩ (.complex .f64 u v)) g k n u v s a c d bs l := heap_setCell_same W g 2 _ 31 _ h
set_option maxRecDepth 20000 in
set_option maxHeartbeats 1600000 in
theorem begin_cx (Y : Code) (hY : Lab 0 (.seq .skip Y)) (Q : Exit → Act → World → Prop) (b tb R X n : Nat) (m : List Int) (l : List ByteArray) (ov : Value) (ns : List Ne) (B : Nat → Prop)
    (h1 : ¬ m.length < 16 → ∀ a w, Jc Z F0 W0 b tb R X F (n + 1) (m.drop 16) l ov ns B a w → Bx w X 2 0 (be (m.take 8)) (be ((m.drop 8).take 8)) e0 0 0 0 nl nl → Q (.goto 1) a w)
    (hpan : m.length < 16 → ∀ a w, a.defers = [] → Gr (fun k => k = b ∨ F0 k) W0 w → Q (.panic [{ v := .iface 32 (.int .i64 72), recovered := false }]) a w)
    (a : Act) (w : World) (hJ : Jc Z F0 W0 b tb R X F n (2 :: m) l ov ns B a w) (hn24 : ns.length < 24) (hn : n < 4096) : Y.wp Try.prog Q a w := by
  unfold Lab at hY
  simp only [Try.f13, scopeOf, findLabel, Option.getD] at hY
  cases hY
  obtain ⟨vals, -, hrow⟩ := hJ.op.nst
  obtain ⟨x, rfl⟩ := hJ.fr.lit
  obtain ⟨q, hq⟩ : ∃ q, ns.length = q := ⟨_, rfl⟩
  rw [hq] at hrow hn24
  have hsv : ∃ a c, ov = .slice a q c := ownsRow_sv hrow
  obtain ⟨oa, oc, rfl⟩ := hsv
  have hqI : (q : Int) < 24 := by omega
  have hb := Lib.hid (begin_ok w b n tb (2 :: m) ((q : Int) + 1) (by omega) hJ.op.rt.re hn)
  have HJ := Lib.hid hJ
  have hpan := Lib.hid hpan
  have h1 := Lib.hid h1
  have Hn := Lib.hid hn
  clear hJ hrow hq hn hn24
  go_wp2_with fail
  refine hb.out.mono ?_
  rintro e w1 ⟨rfl, hs⟩
  have J1 := Lib.hid (HJ.out.sr hs (by have := Hn.out; omega) HJ.out.fr)
  clear hs
  have ho := Lib.hid (one_ok w1 b (n + 1) tb 2 m J1.out.op.rt.re)
  go_wp2_with fail
  refine ho.out.mono ?_
  rintro e w2 ⟨rfl, hs⟩
  have J2 := J1.out.sr hs (by have := Hn.out; omega) HJ.out.fr
  clear hs
  obtain ⟨tk, tn, tx, ty, ts, ta, tc, td, tbv, tlv, hx⟩ := J2.xb
  have hxf := hx.facts
  have z0 := hx.froz 0 (by decide)
  have z1 := hx.froz 1 (by decide)
  have z2 := hx.froz 2 (by decide)
  have z3 := hx.froz 3 (by decide)
  have z4 := hx.froz 4 (by decide)
  have z5 := hx.froz 5 (by decide)
  have z6 := hx.froz 6 (by decide)
  have z7 := hx.froz 7 (by decide)
  have z8 := hx.froz 8 (by decide)
  obtain ⟨s9, g9⟩ := hx.set9 2 0 0 0 e0 0 0 0 nl nl
  have J3 := Lib.hid (J2.tx g9 ⟨_, _, _, _, _, _, _, _, _, _, s9⟩ HJ.out.fr)
  have S9 := Lib.hid s9
  have hnum := Lib.hid (cx_c _ b (n + 1) tb m J3.out.op.rt.re)
  clear s9 g9 hx J2
  have hXb := J3.out.nX.1
  by_cases hr : m.length < 16
  · simp only [EndX, if_pos hr] at hnum
    have Hr := Lib.hid hr
    clear hr
    go_wp2_with fail
    refine hnum.out.mono ?_
    rintro e w3 ⟨rfl, g⟩
    exact hpan.out Hr.out _ _ rfl (J3.out.gr.trans (g.mono (fun _ _ e => .inl e)))
  · simp only [EndX, if_neg hr] at hnum
    have Hr := Lib.hid hr
    clear hr
    go_wp2_with fail
    refine hnum.out.mono ?_
    rintro e w3 ⟨rfl, hs⟩
    have J4 := Lib.hid (J3.out.sr hs (by have := Hn.out; omega) HJ.out.fr)
    have hx4 := S9.out.gr hs.2 hXb
    have hf4 := hx4.facts
    have y1 := hx4.froz 2 (by decide)
    have hl4 := hx4.lt
    have Hx4 := Lib.hid hx4
    clear hs hx4
    go_wp2_with fail
    refine wp_goto ?_
    have hx5 := Hx4.out.set2 (be (m.take 8)) (be ((m.drop 8).take 8))
    exact h1.out Hr.out _ _ (J4.out.tx (Gr.set (S := fun i => i = X) _ ⟨X, 2, none⟩ _ rfl) ⟨_, _, _, _, _, _, _, _, _, _, hx5⟩ ⟨rfl, rfl, rfl, rfl, rfl, rfl⟩) hx5
end Go.Proofs.Ytmohehfkbhllpaa
