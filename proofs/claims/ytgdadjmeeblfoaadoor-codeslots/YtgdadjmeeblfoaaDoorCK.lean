/-
  Check and Heights at the examples.
-/
import Derived.Test.YtgdadjmeeblfoaaDoorCJ
set_option linter.unusedVariables false
set_option linter.unusedSimpArgs false
namespace Go.Proofs.YtgdadjmeeblfoaaDoor
open Go.RowKit Go.Maps
variable {W W' : World}
theorem cell_at {w : World} {b : Nat} {c : Array Value} {t : TypeId} {f : Nat × Nat} (h : w.heap[b]? = some (.cells c t f)) (i : Nat) : w.cell? ⟨b, i, none⟩ = c[i]? := by unfold World.cell?; rw [h]; rfl
abbrev lsv (fb : Nat) : Value := .slice (some ⟨fb, 0, none⟩) 1 1
def InvF0 (u : Value) : Prop := u = .int .i64 0
def InvF1 (u : Value) : Prop := u = .int .i64 0 ∨ u = .int .i64 1
def InvF2 (u : Value) : Prop := u = .int .i64 0 ∨ u = .int .i64 1 ∨ u = .int .i64 2
def measF (n : Nat) : Value → Nat
  | .int _ z => n - z.toNat
  | _ => 0
/-- The example's functions in memory. -/
def P1 (W : World) (fb ib : Nat) : Prop := FnAt W fb ib 2 ∧ InAt W ib 0 1 1 1 ∧ InAt W ib 12 12 0 0 ∧ Ot W
theorem P1.gr {fb ib : Nat} (h : P1 W fb ib) (g : Gr (fun _ => False) W W') : P1 W' fb ib := ⟨h.1.gr g (fun e => e), h.2.1.gr g (fun e => e), h.2.2.1.gr g (fun e => e), h.2.2.2.gr g (fun e => e)⟩
set_option maxRecDepth 100000 in
set_option maxHeartbeats 1600000 in
theorem faultP1 (W : World) (fb ib : Nat) (h : P1 W fb ib) : Calls Tryd.prog 11 #[lsv fb, .int .i64 0] W fun e w' => e = .returned (.tuple #[.int .i64 0, .int .i64 0]) ∧ Gr (fun _ => False) W w' := by
  have hhd := Lib.hid (head_c W fb ib 2 (by decide) (by decide) h.1)
  have hin0 := Lib.hid (fun w (gw : Gr (fun _ => False) W w) => ins1 w (lsv fb) fb ib 2 0 (by decide) (h.gr gw).1 (h.gr gw).2.1 (h.gr gw).2.2.2)
  have hin1 := Lib.hid (fun w (gw : Gr (fun _ => False) W w) => ins12 w (lsv fb) fb ib 2 12 (by decide) (h.gr gw).1 (h.gr gw).2.2.1 (h.gr gw).2.2.2)
  have hnw := Lib.hid (fun w (gw : Gr (fun _ => False) W w) => newWalk2 w ib (h.gr gw).2.1.lt)
  have hen : Hid (∀ w w1 wb hb base lv, Gr (fun _ => False) W w → Gr (fun _ => False) w w1 → WkAt w1 wb ib hb 2 lv → HbAt w1 hb #[.int .i64 (0), .int .i64 (-1)] → Lf1 base w1 lv [0] → (w.heap.size ≤ wb ∧ w.heap.size ≤ hb ∧ wb ≠ hb ∧ wb < base ∧ hb < base) → Calls Tryd.prog 13 #[ptx wb 0] w1 fun e w' => e = .returned (.tuple #[.int .i64 0, .bool true]) ∧ Gr (fun k => w.heap.size ≤ k) w1 w') := fun w w1 wb hb base lv g0 g1 hW hH hL hp => by
    have hx := h.gr (g0.trans g1)
    have i1 := (h.gr g0).2.1.lt
    have i2 := (h.gr g0).2.2.2.lt
    refine (endP1 w1 wb ib hb base w.heap.size ⟨i1, i2, hp.1, hp.2.1, by omega, hp.2.2.1, hp.2.2.2.1, hp.2.2.2.2⟩ ⟨lv, hW, hH, hL⟩ hx.2.1 hx.2.2.1 hx.2.2.2).mono ?_
    rintro e w' ⟨h1, _, h3⟩
    exact ⟨h1, h3⟩
  have hfx := Lib.hid (fun w (gw : Gr (fun _ => False) W w) => (h.gr gw).1)
  have hfl := h.1.lt
  clear h
  go_enter Tryd.func11, Tryd.ntmps11
  go_wp2_with fail
  refine hhd.out.mono ?_
  rintro e w1 ⟨rfl, g1⟩
  obtain ⟨f0, f1, f2, f3⟩ := hfx.out w1 g1
  have hl1 : fb < w1.heap.size := by have := g1.size; omega
  go_wp2_with fail
  clear f0 f1 f2 f3 hhd
  go_loopw [26] (fun u wr => InvF2 u ∧ Gr (fun _ => False) W wr) (fun u _ => measF 2 u)
  case atStart => exact ⟨.inl rfl, g1⟩
  case round =>
    obtain ⟨hi, hG⟩ := hrel
    obtain ⟨f0, f1, f2, f3⟩ := hfx.out wr hG
    have hlr : fb < wr.heap.size := by have := hG.size; omega
    rcases hi with rfl | rfl | rfl
    · have hc := Lib.hid (hin0.out wr hG)
      go_wp2_with fail
      refine hc.out.mono ?_
      rintro e w2 ⟨rfl, g2⟩
      go_wp2_with fail
      exact ⟨⟨.inr (.inl rfl), hG.trans g2⟩, by simp [measF]⟩
    · have hc := Lib.hid (hin1.out wr hG)
      go_wp2_with fail
      refine hc.out.mono ?_
      rintro e w2 ⟨rfl, g2⟩
      go_wp2_with fail
      exact ⟨⟨.inr (.inr rfl), hG.trans g2⟩, by simp [measF]⟩
    · have hc := Lib.hid (hnw.out wr hG)
      go_wp2_with fail
      refine hc.out.mono ?_
      rintro e w2 ⟨wb, hb, base, lv, rfl, hW, hH, hL, hp, g2⟩
      have hc2 := Lib.hid (hen.out wr w2 wb hb base lv hG g2 hW hH hL hp)
      clear hW hH hL hp
      go_wp2_with fail
      refine hc2.out.mono ?_
      rintro e w3 ⟨rfl, g3⟩
      have G3 : Gr (fun _ => False) W w3 := hG.trans (g2.trans' g3 (fun k hk e => by omega))
      clear g2 g3
      go_wp2_with fail
      exact bodyPost_ret (v := .tuple #[.int .i64 0, .int .i64 0]) (by simp [results, Tryd.results11, go_sem]) rfl ⟨rfl, G3⟩
set_option maxRecDepth 100000 in
set_option maxHeartbeats 1600000 in
theorem checkP1 (W : World) (fb ib : Nat) (h : P1 W fb ib) : Calls Tryd.prog 7 #[lsv fb] W fun e w' => e = .returned (.tuple #[.int .i64 0, .int .i64 0, .int .i64 0]) ∧ Gr (fun _ => False) W w' := by
  have hf := Lib.hid (fun w (gw : Gr (fun _ => False) W w) => faultP1 w fb ib (h.gr gw))
  clear h
  go_enter Tryd.func7, Tryd.ntmps7
  go_wp2_with fail
  go_loopw [18] (fun u wr => InvF1 u ∧ Gr (fun _ => False) W wr) (fun u _ => measF 1 u)
  case atStart => exact ⟨.inl rfl, Gr.refl _ _⟩
  case round =>
    obtain ⟨hi, hG⟩ := hrel
    rcases hi with rfl | rfl
    · have hc := Lib.hid (hf.out wr hG)
      go_wp2_with fail
      refine hc.out.mono ?_
      rintro e w2 ⟨rfl, g2⟩
      go_wp2_with fail
      exact ⟨⟨.inr rfl, hG.trans g2⟩, by simp [measF]⟩
    · go_wp2_with fail
      exact bodyPost_ret (v := .tuple #[.int .i64 0, .int .i64 0, .int .i64 0]) (by simp [results, Tryd.results7, go_sem]) rfl ⟨rfl, hG⟩
/-- The example's functions in memory. -/
def P2 (W : World) (fb ib : Nat) : Prop := FnAt W fb ib 1 ∧ InAt W ib 0 12 0 0 ∧ Ot W
theorem P2.gr {fb ib : Nat} (h : P2 W fb ib) (g : Gr (fun _ => False) W W') : P2 W' fb ib := ⟨h.1.gr g (fun e => e), h.2.1.gr g (fun e => e), h.2.2.gr g (fun e => e)⟩
set_option maxRecDepth 100000 in
set_option maxHeartbeats 1600000 in
theorem faultP2 (W : World) (fb ib : Nat) (h : P2 W fb ib) : Calls Tryd.prog 11 #[lsv fb, .int .i64 0] W fun e w' => e = .returned (.tuple #[.int .i64 0, .int .i64 185]) ∧ Gr (fun _ => False) W w' := by
  have hhd := Lib.hid (head_c W fb ib 1 (by decide) (by decide) h.1)
  have hin0 := Lib.hid (fun w (gw : Gr (fun _ => False) W w) => ins12 w (lsv fb) fb ib 1 0 (by decide) (h.gr gw).1 (h.gr gw).2.1 (h.gr gw).2.2)
  have hnw := Lib.hid (fun w (gw : Gr (fun _ => False) W w) => newWalk1 w ib (h.gr gw).2.1.lt)
  have hen : Hid (∀ w w1 wb hb base lv, Gr (fun _ => False) W w → Gr (fun _ => False) w w1 → WkAt w1 wb ib hb 1 lv → HbAt w1 hb #[.int .i64 (0)] → Lf1 base w1 lv [0] → (w.heap.size ≤ wb ∧ w.heap.size ≤ hb ∧ wb ≠ hb ∧ wb < base ∧ hb < base) → Calls Tryd.prog 13 #[ptx wb 0] w1 fun e w' => e = .returned (.tuple #[.int .i64 0, .bool false]) ∧ Gr (fun k => w.heap.size ≤ k) w1 w') := fun w w1 wb hb base lv g0 g1 hW hH hL hp => by
    have hx := h.gr (g0.trans g1)
    have i1 := (h.gr g0).2.1.lt
    have i2 := (h.gr g0).2.2.lt
    refine (endP2 w1 wb ib hb base w.heap.size ⟨i1, i2, hp.1, hp.2.1, by omega, hp.2.2.1, hp.2.2.2.1, hp.2.2.2.2⟩ ⟨lv, hW, hH, hL⟩ hx.2.1 hx.2.2).mono ?_
    rintro e w' ⟨h1, h3⟩
    exact ⟨h1, h3⟩
  have hfx := Lib.hid (fun w (gw : Gr (fun _ => False) W w) => (h.gr gw).1)
  have hfl := h.1.lt
  clear h
  go_enter Tryd.func11, Tryd.ntmps11
  go_wp2_with fail
  refine hhd.out.mono ?_
  rintro e w1 ⟨rfl, g1⟩
  obtain ⟨f0, f1, f2, f3⟩ := hfx.out w1 g1
  have hl1 : fb < w1.heap.size := by have := g1.size; omega
  go_wp2_with fail
  clear f0 f1 f2 f3 hhd
  go_loopw [26] (fun u wr => InvF1 u ∧ Gr (fun _ => False) W wr) (fun u _ => measF 1 u)
  case atStart => exact ⟨.inl rfl, g1⟩
  case round =>
    obtain ⟨hi, hG⟩ := hrel
    obtain ⟨f0, f1, f2, f3⟩ := hfx.out wr hG
    have hlr : fb < wr.heap.size := by have := hG.size; omega
    rcases hi with rfl | rfl
    · have hc := Lib.hid (hin0.out wr hG)
      go_wp2_with fail
      refine hc.out.mono ?_
      rintro e w2 ⟨rfl, g2⟩
      go_wp2_with fail
      exact ⟨⟨.inr rfl, hG.trans g2⟩, by simp [measF]⟩
    · have hc := Lib.hid (hnw.out wr hG)
      go_wp2_with fail
      refine hc.out.mono ?_
      rintro e w2 ⟨wb, hb, base, lv, rfl, hW, hH, hL, hp, g2⟩
      have hc2 := Lib.hid (hen.out wr w2 wb hb base lv hG g2 hW hH hL hp)
      clear hW hH hL hp
      go_wp2_with fail
      refine hc2.out.mono ?_
      rintro e w3 ⟨rfl, g3⟩
      have G3 : Gr (fun _ => False) W w3 := hG.trans (g2.trans' g3 (fun k hk e => by omega))
      clear g2 g3
      go_wp2_with fail
      exact bodyPost_ret (v := .tuple #[.int .i64 0, .int .i64 185]) (by simp [results, Tryd.results11, go_sem]) rfl ⟨rfl, G3⟩
set_option maxRecDepth 100000 in
set_option maxHeartbeats 1600000 in
theorem checkP2 (W : World) (fb ib : Nat) (h : P2 W fb ib) : Calls Tryd.prog 7 #[lsv fb] W fun e w' => e = .returned (.tuple #[.int .i64 0, .int .i64 0, .int .i64 185]) ∧ Gr (fun _ => False) W w' := by
  have hf := Lib.hid (fun w (gw : Gr (fun _ => False) W w) => faultP2 w fb ib (h.gr gw))
  clear h
  go_enter Tryd.func7, Tryd.ntmps7
  go_wp2_with fail
  go_loopw [18] (fun u wr => InvF0 u ∧ Gr (fun _ => False) W wr) (fun u _ => measF 1 u)
  case atStart => exact ⟨rfl, Gr.refl _ _⟩
  case round =>
    obtain ⟨hi, hG⟩ := hrel
    obtain rfl : _ = _ := hi
    · have hc := Lib.hid (hf.out wr hG)
      go_wp2_with fail
      refine hc.out.mono ?_
      rintro e w2 ⟨rfl, g2⟩
      go_wp2_with fail
      exact bodyPost_ret (v := .tuple #[.int .i64 0, .int .i64 0, .int .i64 185]) (by simp [results, Tryd.results7, go_sem]) rfl ⟨rfl, hG.trans g2⟩
/-- The example's functions in memory. -/
def P3 (W : World) (fb ib : Nat) : Prop := FnAt W fb ib 2 ∧ InAt W ib 0 1 1 1 ∧ InAt W ib 12 9 0 0 ∧ Ot W
theorem P3.gr {fb ib : Nat} (h : P3 W fb ib) (g : Gr (fun _ => False) W W') : P3 W' fb ib := ⟨h.1.gr g (fun e => e), h.2.1.gr g (fun e => e), h.2.2.1.gr g (fun e => e), h.2.2.2.gr g (fun e => e)⟩
set_option maxRecDepth 100000 in
set_option maxHeartbeats 1600000 in
theorem faultP3 (W : World) (fb ib : Nat) (h : P3 W fb ib) : Calls Tryd.prog 11 #[lsv fb, .int .i64 0] W fun e w' => e = .returned (.tuple #[.int .i64 1, .int .i64 185]) ∧ Gr (fun _ => False) W w' := by
  have hhd := Lib.hid (head_c W fb ib 2 (by decide) (by decide) h.1)
  have hin0 := Lib.hid (fun w (gw : Gr (fun _ => False) W w) => ins1 w (lsv fb) fb ib 2 0 (by decide) (h.gr gw).1 (h.gr gw).2.1 (h.gr gw).2.2.2)
  have hin1 := Lib.hid (fun w (gw : Gr (fun _ => False) W w) => ins9 w (lsv fb) fb ib 2 12 (by decide) (h.gr gw).1 (h.gr gw).2.2.1 (h.gr gw).2.2.2)
  have hnw := Lib.hid (fun w (gw : Gr (fun _ => False) W w) => newWalk2 w ib (h.gr gw).2.1.lt)
  have hen : Hid (∀ w w1 wb hb base lv, Gr (fun _ => False) W w → Gr (fun _ => False) w w1 → WkAt w1 wb ib hb 2 lv → HbAt w1 hb #[.int .i64 (0), .int .i64 (-1)] → Lf1 base w1 lv [0] → (w.heap.size ≤ wb ∧ w.heap.size ≤ hb ∧ wb ≠ hb ∧ wb < base ∧ hb < base) → Calls Tryd.prog 13 #[ptx wb 0] w1 fun e w' => e = .returned (.tuple #[.int .i64 1, .bool false]) ∧ Gr (fun k => w.heap.size ≤ k) w1 w') := fun w w1 wb hb base lv g0 g1 hW hH hL hp => by
    have hx := h.gr (g0.trans g1)
    have i1 := (h.gr g0).2.1.lt
    have i2 := (h.gr g0).2.2.2.lt
    refine (endP3 w1 wb ib hb base w.heap.size ⟨i1, i2, hp.1, hp.2.1, by omega, hp.2.2.1, hp.2.2.2.1, hp.2.2.2.2⟩ ⟨lv, hW, hH, hL⟩ hx.2.1 hx.2.2.1 hx.2.2.2).mono ?_
    rintro e w' ⟨h1, h3⟩
    exact ⟨h1, h3⟩
  have hfx := Lib.hid (fun w (gw : Gr (fun _ => False) W w) => (h.gr gw).1)
  have hfl := h.1.lt
  clear h
  go_enter Tryd.func11, Tryd.ntmps11
  go_wp2_with fail
  refine hhd.out.mono ?_
  rintro e w1 ⟨rfl, g1⟩
  obtain ⟨f0, f1, f2, f3⟩ := hfx.out w1 g1
  have hl1 : fb < w1.heap.size := by have := g1.size; omega
  go_wp2_with fail
  clear f0 f1 f2 f3 hhd
  go_loopw [26] (fun u wr => InvF2 u ∧ Gr (fun _ => False) W wr) (fun u _ => measF 2 u)
  case atStart => exact ⟨.inl rfl, g1⟩
  case round =>
    obtain ⟨hi, hG⟩ := hrel
    obtain ⟨f0, f1, f2, f3⟩ := hfx.out wr hG
    have hlr : fb < wr.heap.size := by have := hG.size; omega
    rcases hi with rfl | rfl | rfl
    · have hc := Lib.hid (hin0.out wr hG)
      go_wp2_with fail
      refine hc.out.mono ?_
      rintro e w2 ⟨rfl, g2⟩
      go_wp2_with fail
      exact ⟨⟨.inr (.inl rfl), hG.trans g2⟩, by simp [measF]⟩
    · have hc := Lib.hid (hin1.out wr hG)
      go_wp2_with fail
      refine hc.out.mono ?_
      rintro e w2 ⟨rfl, g2⟩
      go_wp2_with fail
      exact ⟨⟨.inr (.inr rfl), hG.trans g2⟩, by simp [measF]⟩
    · have hc := Lib.hid (hnw.out wr hG)
      go_wp2_with fail
      refine hc.out.mono ?_
      rintro e w2 ⟨wb, hb, base, lv, rfl, hW, hH, hL, hp, g2⟩
      have hc2 := Lib.hid (hen.out wr w2 wb hb base lv hG g2 hW hH hL hp)
      clear hW hH hL hp
      go_wp2_with fail
      refine hc2.out.mono ?_
      rintro e w3 ⟨rfl, g3⟩
      have G3 : Gr (fun _ => False) W w3 := hG.trans (g2.trans' g3 (fun k hk e => by omega))
      clear g2 g3
      go_wp2_with fail
      exact bodyPost_ret (v := .tuple #[.int .i64 1, .int .i64 185]) (by simp [results, Tryd.results11, go_sem]) rfl ⟨rfl, G3⟩
set_option maxRecDepth 100000 in
set_option maxHeartbeats 1600000 in
theorem checkP3 (W : World) (fb ib : Nat) (h : P3 W fb ib) : Calls Tryd.prog 7 #[lsv fb] W fun e w' => e = .returned (.tuple #[.int .i64 0, .int .i64 1, .int .i64 185]) ∧ Gr (fun _ => False) W w' := by
  have hf := Lib.hid (fun w (gw : Gr (fun _ => False) W w) => faultP3 w fb ib (h.gr gw))
  clear h
  go_enter Tryd.func7, Tryd.ntmps7
  go_wp2_with fail
  go_loopw [18] (fun u wr => InvF0 u ∧ Gr (fun _ => False) W wr) (fun u _ => measF 1 u)
  case atStart => exact ⟨rfl, Gr.refl _ _⟩
  case round =>
    obtain ⟨hi, hG⟩ := hrel
    obtain rfl : _ = _ := hi
    · have hc := Lib.hid (hf.out wr hG)
      go_wp2_with fail
      refine hc.out.mono ?_
      rintro e w2 ⟨rfl, g2⟩
      go_wp2_with fail
      exact bodyPost_ret (v := .tuple #[.int .i64 0, .int .i64 1, .int .i64 185]) (by simp [results, Tryd.results7, go_sem]) rfl ⟨rfl, hG.trans g2⟩
set_option maxRecDepth 100000 in
set_option maxHeartbeats 1600000 in
theorem heightsP1 (W : World) (fb ib : Nat) (h : P1 W fb ib) : Calls Tryd.prog 9 #[lsv fb, .int .i64 0] W fun e w' => ∃ hb, e = .returned (.slice (some ⟨hb, 0, none⟩) 2 2) ∧ w'.cell? ⟨hb, 1, none⟩ = some (.int .i64 1) ∧ Gr (fun _ => False) W w' := by
  have hck := Lib.hid (checkP1 W fb ib h)
  have hnw := Lib.hid (fun w (gw : Gr (fun _ => False) W w) => newWalk2 w ib (h.gr gw).2.1.lt)
  have hen : Hid (∀ w w1 wb hb base lv, Gr (fun _ => False) W w → Gr (fun _ => False) w w1 → WkAt w1 wb ib hb 2 lv → HbAt w1 hb #[.int .i64 (0), .int .i64 (-1)] → Lf1 base w1 lv [0] → (w.heap.size ≤ wb ∧ w.heap.size ≤ hb ∧ wb ≠ hb ∧ wb < base ∧ hb < base) → Calls Tryd.prog 13 #[ptx wb 0] w1 fun e w' => e = .returned (.tuple #[.int .i64 0, .bool true]) ∧ Stg wb ib hb 2 base #[.int .i64 (0), .int .i64 (1)] [] w' ∧ Gr (fun k => w.heap.size ≤ k) w1 w') := fun w w1 wb hb base lv g0 g1 hW hH hL hp => by
    have hx := h.gr (g0.trans g1)
    have i1 := (h.gr g0).2.1.lt
    have i2 := (h.gr g0).2.2.2.lt
    exact endP1 w1 wb ib hb base w.heap.size ⟨i1, i2, hp.1, hp.2.1, by omega, hp.2.2.1, hp.2.2.2.1, hp.2.2.2.2⟩ ⟨lv, hW, hH, hL⟩ hx.2.1 hx.2.2.1 hx.2.2.2
  have hfx := Lib.hid (fun w (gw : Gr (fun _ => False) W w) => (h.gr gw).1)
  have hfl := h.1.lt
  clear h
  go_enter Tryd.func9, Tryd.ntmps9
  go_wp2_with fail
  refine hck.out.mono ?_
  rintro e w1 ⟨rfl, g1⟩
  obtain ⟨f0, f1, f2, f3⟩ := hfx.out w1 g1
  have hl1 : fb < w1.heap.size := by have := g1.size; omega
  have hc := Lib.hid (hnw.out w1 g1)
  go_wp2_with fail
  refine hc.out.mono ?_
  rintro e w2 ⟨wb, hb, base, lv, rfl, hW, hH, hL, hp, g2⟩
  have hc2 := Lib.hid (hen.out w1 w2 wb hb base lv g1 g2 hW hH hL hp)
  clear hW hH hL hp f0 f1 f2 f3
  go_wp2_with fail
  refine hc2.out.mono ?_
  rintro e w3 ⟨rfl, ⟨lv3, hW3, hH3, hL3⟩, g3⟩
  have G3 : Gr (fun _ => False) W w3 := g1.trans (g2.trans' g3 (fun k hk e => by omega))
  obtain ⟨⟨c0, c1, c2⟩, fz, hlt⟩ := hW3.facts
  have hres : w3.cell? ⟨hb, 1, none⟩ = some (.int .i64 1) := hH3.cell 1
  replace hres := Lib.hid hres
  clear g2 g3 hW3 hH3 hL3
  go_wp2_with fail
  go_ret
  exact ⟨hb, rfl, hres.out, G3⟩
theorem of_c (W : World) (ib n : Nat) : Calls Tryd.prog 8 #[.slice (some ⟨ib, 0, none⟩) n n] W fun e w' => ∃ fb, e = .returned (lsv fb) ∧ FnAt w' fb ib n ∧ Gr (fun _ => False) W w' := by
  have g1 := Gr.alloc W (.cells #[.string fB, .int .i64 0, .int .i64 0, .slice (some ⟨ib, 0, none⟩) n n] 49) (fun _ => False)
  have hF : FnAt (W.alloc (.cells #[.string fB, .int .i64 0, .int .i64 0, .slice (some ⟨ib, 0, none⟩) n n] 49)) W.heap.size ib n := by
    have h := heap_alloc_new W (.cells #[.string fB, .int .i64 0, .int .i64 0, .slice (some ⟨ib, 0, none⟩) n n] 49)
    exact ⟨cell_at h 0, cell_at h 1, cell_at h 2, cell_at h 3⟩
  replace hF := Lib.hid hF
  go_enter Tryd.func8, Tryd.ntmps8
  go_wp2_with fail
  go_ret
  exact ⟨_, rfl, hF.out, g1⟩
end Go.Proofs.YtgdadjmeeblfoaaDoor
