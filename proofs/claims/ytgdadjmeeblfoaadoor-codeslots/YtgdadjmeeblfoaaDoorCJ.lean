/-
  Heights at the examples: to the end.
-/
import Derived.Test.YtgdadjmeeblfoaaDoorCH
import Derived.Test.YtgdadjmeeblfoaaDoorCI
set_option linter.unusedVariables false
set_option linter.unusedSimpArgs false
namespace Go.Proofs.YtgdadjmeeblfoaaDoor
open Go.RowKit Go.Maps
variable {W W' : World}
/-- The state of a walk. -/
def Stg (wb ib hb n base : Nat) (hs : Array Value) (l : List Int) (w : World) : Prop := ∃ lv, WkAt w wb ib hb n lv ∧ HbAt w hb hs ∧ Lf1 base w lv l
/-- Where its blocks are. -/
def Pla (wb ib hb base B : Nat) : Prop := ib < B ∧ 0 < B ∧ B ≤ wb ∧ B ≤ hb ∧ B ≤ base ∧ wb ≠ hb ∧ wb < base ∧ hb < base
theorem Gr.low {S : Nat → Prop} {wb ib hb base B : Nat} (g : Gr (fun k => k = wb ∨ k = hb ∨ base ≤ k) W W') (hP : Pla wb ib hb base B) : Gr (fun k => B ≤ k) W W' := g.mono (fun k _ e => by obtain ⟨h1, h2, h3, h4, h5, h6⟩ := hP; omega)
def meas : Value → Nat
  | .int _ 0 => 1
  | .int _ 1 => 0
  | _ => 2
def InvP1 (wb ib hb base : Nat) (u : Value) (wr : World) : Prop := (u = undef ∧ Stg wb ib hb 2 base #[.int .i64 (0), .int .i64 (-1)] [0] wr) ∨ (u = .int .i64 0 ∧ Stg wb ib hb 2 base #[.int .i64 (0), .int .i64 (1)] [1] wr) ∨ (u = .int .i64 1 ∧ Stg wb ib hb 2 base #[.int .i64 (0), .int .i64 (1)] [] wr)
set_option maxRecDepth 100000 in
set_option maxHeartbeats 1600000 in
theorem endP1 (W : World) (wb ib hb base B : Nat) (hP : Pla wb ib hb base B) (hS : Stg wb ib hb 2 base #[.int .i64 (0), .int .i64 (-1)] [0] W) (hI0 : InAt W ib 0 1 1 1) (hI1 : InAt W ib 12 12 0 0) (hO : Ot W) :
    Calls Tryd.prog 13 #[ptx wb 0] W fun e w' => e = .returned (.tuple #[.int .i64 0, .bool true]) ∧ Stg wb ib hb 2 base #[.int .i64 (0), .int .i64 (1)] [] w' ∧ Gr (fun k => B ≤ k) W w' := by
  have hP' := Lib.hid hP
  obtain ⟨p1, p2, p3, p4, p5, p6, p7, p8⟩ := hP
  have hOt := Lib.hid (fun w (gw : Gr (fun k => B ≤ k) W w) => hO.gr gw (by omega))
  have hin0 := Lib.hid (fun w (gw : Gr (fun k => B ≤ k) W w) => hI0.gr gw (by omega))
  have hin1 := Lib.hid (fun w (gw : Gr (fun k => B ≤ k) W w) => hI1.gr gw (by omega))
  replace hS := Lib.hid hS
  clear hI0 hI1 hO
  go_enter Tryd.func13, Tryd.ntmps13
  go_wp2_with fail
  go_loopw [4] (fun u wr => InvP1 wb ib hb base u wr ∧ Gr (fun k => B ≤ k) W wr) (fun u _ => meas u)
  case atStart => exact ⟨.inl ⟨rfl, hS.out⟩, Gr.refl _ _⟩
  case round =>
    obtain ⟨hi, hG⟩ := hrel
    clear hS
    rcases hi with ⟨rfl, hSt⟩ | ⟨rfl, hSt⟩ | ⟨rfl, hSt⟩
    · obtain ⟨lv, hW0, hH0, hL0⟩ := hSt
      obtain ⟨⟨c0, c1, c2⟩, fz, hlt⟩ := hW0.facts
      have hta := ta3 0
      have hpo := Lib.hid (hpop_c wr wb ib hb 2 base lv 0 hW0 hL0 p7)
      obtain ⟨la, lc, rfl⟩ := ownsRow_sv hL0.1
      have c2' : wr.cell? ⟨wb, 2, none⟩ = some (.slice la 1 lc) := c2
      have hle := Lib.hid (fun w => len_c w la 1 lc)
      replace hH0 := Lib.hid hH0
      clear hW0 hL0 c0 c1 c2
      go_wp2_with fail
      refine (hle.out _).mono ?_
      rintro e w1 ⟨rfl, rfl⟩
      go_wp2_with fail
      refine hpo.out.mono ?_
      rintro e w2 ⟨rfl, lv', hW2, hL2, g2⟩
      have hH2 := hH0.out.gr g2 (by omega)
      have G2 : Gr (fun k => B ≤ k) W w2 := hG.trans (g2.mono (fun k _ e => by omega))
      have hth := Lib.hid (thr1 w2 wb ib hb base lv' hW2 hH2 (hin0.out w2 G2) (hOt.out w2 G2) hL2 p7 p8 p6)
      clear hW2 hL2 hH2 g2
      go_wp2_with fail
      refine hth.out.mono ?_
      rintro e w3 ⟨rfl, lv3, hW3, hH3, hL3, g3⟩
      have G3 : Gr (fun k => B ≤ k) W w3 := G2.trans (Gr.low (S := fun _ => False) g3 hP'.out)
      have hS3 : Hid (Stg wb ib hb 2 base #[.int .i64 (0), .int .i64 (1)] [1] w3) := ⟨lv3, hW3, hH3, hL3⟩
      clear hW3 hH3 hL3 g3
      go_wp2_with fail
      exact ⟨⟨.inr (.inl ⟨rfl, hS3.out⟩), G3⟩, by decide⟩
    · obtain ⟨lv, hW0, hH0, hL0⟩ := hSt
      obtain ⟨⟨c0, c1, c2⟩, fz, hlt⟩ := hW0.facts
      have hta := ta3 1
      have hpo := Lib.hid (hpop_c wr wb ib hb 2 base lv 1 hW0 hL0 p7)
      obtain ⟨la, lc, rfl⟩ := ownsRow_sv hL0.1
      have c2' : wr.cell? ⟨wb, 2, none⟩ = some (.slice la 1 lc) := c2
      have hle := Lib.hid (fun w => len_c w la 1 lc)
      replace hH0 := Lib.hid hH0
      clear hW0 hL0 c0 c1 c2
      go_wp2_with fail
      refine (hle.out _).mono ?_
      rintro e w1 ⟨rfl, rfl⟩
      go_wp2_with fail
      refine hpo.out.mono ?_
      rintro e w2 ⟨rfl, lv', hW2, hL2, g2⟩
      have hH2 := hH0.out.gr g2 (by omega)
      have G2 : Gr (fun k => B ≤ k) W w2 := hG.trans (g2.mono (fun k _ e => by omega))
      have hth := Lib.hid (thr2 w2 wb ib hb base lv' hW2 hH2 (hin1.out w2 G2) (hOt.out w2 G2))
      have hS2 : Hid (Stg wb ib hb 2 base #[.int .i64 (0), .int .i64 (1)] [] w2) := ⟨lv', hW2, hH2, hL2⟩
      clear hW2 hL2 hH2 g2
      go_wp2_with fail
      refine hth.out.mono ?_
      rintro e w3 ⟨rfl, g3⟩
      have G3 : Gr (fun k => B ≤ k) W w3 := G2.trans (g3.mono (fun _ _ e => e.elim))
      have hS3 : Hid (Stg wb ib hb 2 base #[.int .i64 (0), .int .i64 (1)] [] w3) := by
        obtain ⟨v, k1, k2, k3⟩ := hS2.out
        exact ⟨v, k1.gr g3 (fun e => e), k2.gr g3 (fun e => e), k3.gr g3 (fun _ _ e => e)⟩
      clear g3
      go_wp2_with fail
      exact ⟨⟨.inr (.inr ⟨rfl, hS3.out⟩), G3⟩, by decide⟩
    · have hSt' := Lib.hid hSt
      obtain ⟨lv, hW0, hH0, hL0⟩ := hSt
      obtain ⟨⟨c0, c1, c2⟩, fz, hlt⟩ := hW0.facts
      obtain ⟨la, lc, rfl⟩ := ownsRow_sv hL0.1
      have c2' : wr.cell? ⟨wb, 2, none⟩ = some (.slice la 0 lc) := c2
      have hle := Lib.hid (fun w => len_c w la 0 lc)
      clear hW0 hL0 hH0 c0 c1 c2
      go_wp2_with fail
      refine (hle.out _).mono ?_
      rintro e w1 ⟨rfl, rfl⟩
      go_wp2_with fail
      exact bodyPost_ret (v := (.tuple #[.int .i64 0, .bool true])) (by simp [results, Tryd.results13, go_sem]) rfl ⟨rfl, hSt'.out, hG⟩
def InvP2 (wb ib hb base : Nat) (u : Value) (wr : World) : Prop := (u = undef ∧ Stg wb ib hb 1 base #[.int .i64 (0)] [0] wr)
set_option maxRecDepth 100000 in
set_option maxHeartbeats 1600000 in
theorem endP2 (W : World) (wb ib hb base B : Nat) (hP : Pla wb ib hb base B) (hS : Stg wb ib hb 1 base #[.int .i64 (0)] [0] W) (hI0 : InAt W ib 0 12 0 0) (hO : Ot W) :
    Calls Tryd.prog 13 #[ptx wb 0] W fun e w' => e = .returned (.tuple #[.int .i64 0, .bool false]) ∧ Gr (fun k => B ≤ k) W w' := by
  have hP' := Lib.hid hP
  obtain ⟨p1, p2, p3, p4, p5, p6, p7, p8⟩ := hP
  have hOt := Lib.hid (fun w (gw : Gr (fun k => B ≤ k) W w) => hO.gr gw (by omega))
  have hin0 := Lib.hid (fun w (gw : Gr (fun k => B ≤ k) W w) => hI0.gr gw (by omega))
  replace hS := Lib.hid hS
  clear hI0 hO
  go_enter Tryd.func13, Tryd.ntmps13
  go_wp2_with fail
  go_loopw [4] (fun u wr => InvP2 wb ib hb base u wr ∧ Gr (fun k => B ≤ k) W wr) (fun u _ => meas u)
  case atStart => exact ⟨⟨rfl, hS.out⟩, Gr.refl _ _⟩
  case round =>
    obtain ⟨hi, hG⟩ := hrel
    clear hS
    obtain ⟨rfl, hSt⟩ := hi
    obtain ⟨lv, hW0, hH0, hL0⟩ := hSt
    obtain ⟨⟨c0, c1, c2⟩, fz, hlt⟩ := hW0.facts
    have hta := ta3 0
    have hpo := Lib.hid (hpop_c wr wb ib hb 1 base lv 0 hW0 hL0 p7)
    obtain ⟨la, lc, rfl⟩ := ownsRow_sv hL0.1
    have c2' : wr.cell? ⟨wb, 2, none⟩ = some (.slice la 1 lc) := c2
    have hle := Lib.hid (fun w => len_c w la 1 lc)
    replace hH0 := Lib.hid hH0
    clear hW0 hL0 c0 c1 c2
    go_wp2_with fail
    refine (hle.out _).mono ?_
    rintro e w1 ⟨rfl, rfl⟩
    go_wp2_with fail
    refine hpo.out.mono ?_
    rintro e w2 ⟨rfl, lv', hW2, hL2, g2⟩
    have hH2 := hH0.out.gr g2 (by omega)
    have G2 : Gr (fun k => B ≤ k) W w2 := hG.trans (g2.mono (fun k _ e => by omega))
    have hth := Lib.hid (thr3 w2 wb ib hb base lv' hW2 hH2 (hin0.out w2 G2) (hOt.out w2 G2))
    clear hW2 hL2 hH2 g2
    go_wp2_with fail
    refine hth.out.mono ?_
    rintro e w3 ⟨rfl, g3⟩
    have G3 : Gr (fun k => B ≤ k) W w3 := G2.trans (g3.mono (fun _ _ e => e.elim))
    clear g3
    go_wp2_with fail
    exact bodyPost_ret (v := (.tuple #[.int .i64 0, .bool false])) (by simp [results, Tryd.results13, go_sem]) rfl ⟨rfl, G3⟩
def InvP3 (wb ib hb base : Nat) (u : Value) (wr : World) : Prop := (u = undef ∧ Stg wb ib hb 2 base #[.int .i64 (0), .int .i64 (-1)] [0] wr) ∨ (u = .int .i64 0 ∧ Stg wb ib hb 2 base #[.int .i64 (0), .int .i64 (1)] [1] wr)
set_option maxRecDepth 100000 in
set_option maxHeartbeats 1600000 in
theorem endP3 (W : World) (wb ib hb base B : Nat) (hP : Pla wb ib hb base B) (hS : Stg wb ib hb 2 base #[.int .i64 (0), .int .i64 (-1)] [0] W) (hI0 : InAt W ib 0 1 1 1) (hI1 : InAt W ib 12 9 0 0) (hO : Ot W) :
    Calls Tryd.prog 13 #[ptx wb 0] W fun e w' => e = .returned (.tuple #[.int .i64 1, .bool false]) ∧ Gr (fun k => B ≤ k) W w' := by
  have hP' := Lib.hid hP
  obtain ⟨p1, p2, p3, p4, p5, p6, p7, p8⟩ := hP
  have hOt := Lib.hid (fun w (gw : Gr (fun k => B ≤ k) W w) => hO.gr gw (by omega))
  have hin0 := Lib.hid (fun w (gw : Gr (fun k => B ≤ k) W w) => hI0.gr gw (by omega))
  have hin1 := Lib.hid (fun w (gw : Gr (fun k => B ≤ k) W w) => hI1.gr gw (by omega))
  replace hS := Lib.hid hS
  clear hI0 hI1 hO
  go_enter Tryd.func13, Tryd.ntmps13
  go_wp2_with fail
  go_loopw [4] (fun u wr => InvP3 wb ib hb base u wr ∧ Gr (fun k => B ≤ k) W wr) (fun u _ => meas u)
  case atStart => exact ⟨.inl ⟨rfl, hS.out⟩, Gr.refl _ _⟩
  case round =>
    obtain ⟨hi, hG⟩ := hrel
    clear hS
    rcases hi with ⟨rfl, hSt⟩ | ⟨rfl, hSt⟩
    · obtain ⟨lv, hW0, hH0, hL0⟩ := hSt
      obtain ⟨⟨c0, c1, c2⟩, fz, hlt⟩ := hW0.facts
      have hta := ta3 0
      have hpo := Lib.hid (hpop_c wr wb ib hb 2 base lv 0 hW0 hL0 p7)
      obtain ⟨la, lc, rfl⟩ := ownsRow_sv hL0.1
      have c2' : wr.cell? ⟨wb, 2, none⟩ = some (.slice la 1 lc) := c2
      have hle := Lib.hid (fun w => len_c w la 1 lc)
      replace hH0 := Lib.hid hH0
      clear hW0 hL0 c0 c1 c2
      go_wp2_with fail
      refine (hle.out _).mono ?_
      rintro e w1 ⟨rfl, rfl⟩
      go_wp2_with fail
      refine hpo.out.mono ?_
      rintro e w2 ⟨rfl, lv', hW2, hL2, g2⟩
      have hH2 := hH0.out.gr g2 (by omega)
      have G2 : Gr (fun k => B ≤ k) W w2 := hG.trans (g2.mono (fun k _ e => by omega))
      have hth := Lib.hid (thr1 w2 wb ib hb base lv' hW2 hH2 (hin0.out w2 G2) (hOt.out w2 G2) hL2 p7 p8 p6)
      clear hW2 hL2 hH2 g2
      go_wp2_with fail
      refine hth.out.mono ?_
      rintro e w3 ⟨rfl, lv3, hW3, hH3, hL3, g3⟩
      have G3 : Gr (fun k => B ≤ k) W w3 := G2.trans (Gr.low (S := fun _ => False) g3 hP'.out)
      have hS3 : Hid (Stg wb ib hb 2 base #[.int .i64 (0), .int .i64 (1)] [1] w3) := ⟨lv3, hW3, hH3, hL3⟩
      clear hW3 hH3 hL3 g3
      go_wp2_with fail
      exact ⟨⟨.inr ⟨rfl, hS3.out⟩, G3⟩, by decide⟩
    · obtain ⟨lv, hW0, hH0, hL0⟩ := hSt
      obtain ⟨⟨c0, c1, c2⟩, fz, hlt⟩ := hW0.facts
      have hta := ta3 1
      have hpo := Lib.hid (hpop_c wr wb ib hb 2 base lv 1 hW0 hL0 p7)
      obtain ⟨la, lc, rfl⟩ := ownsRow_sv hL0.1
      have c2' : wr.cell? ⟨wb, 2, none⟩ = some (.slice la 1 lc) := c2
      have hle := Lib.hid (fun w => len_c w la 1 lc)
      replace hH0 := Lib.hid hH0
      clear hW0 hL0 c0 c1 c2
      go_wp2_with fail
      refine (hle.out _).mono ?_
      rintro e w1 ⟨rfl, rfl⟩
      go_wp2_with fail
      refine hpo.out.mono ?_
      rintro e w2 ⟨rfl, lv', hW2, hL2, g2⟩
      have hH2 := hH0.out.gr g2 (by omega)
      have G2 : Gr (fun k => B ≤ k) W w2 := hG.trans (g2.mono (fun k _ e => by omega))
      have hth := Lib.hid (thr4 w2 wb ib hb base lv' hW2 hH2 (hin1.out w2 G2) (hOt.out w2 G2))
      clear hW2 hL2 hH2 g2
      go_wp2_with fail
      refine hth.out.mono ?_
      rintro e w3 ⟨rfl, g3⟩
      have G3 : Gr (fun k => B ≤ k) W w3 := G2.trans (g3.mono (fun _ _ e => e.elim))
      clear g3
      go_wp2_with fail
      exact bodyPost_ret (v := (.tuple #[.int .i64 1, .bool false])) (by simp [results, Tryd.results13, go_sem]) rfl ⟨rfl, G3⟩
end Go.Proofs.YtgdadjmeeblfoaaDoor
