/-
  Two rows of the same tokens are found alike.
-/
import Derived.Test.YtnojhboflegkdaaDoorX
import Derived.Deep.RegionHeld3
set_option linter.unusedVariables false
set_option linter.unusedSimpArgs false
namespace Go.Proofs.YtnojhboflegkdaaDoor
open Go.RowKit Go.Maps

theorem smV_self (t : Tok) : smV t t = true := by simp [smV]
/-- The cells of two tokens of rows. -/
abbrev S10 (g o h q : Nat) (t u : Tok) (v1 v2 : Value) (w : World) : Prop :=
  w.cell? ⟨g, o, none⟩ = some (.int .i64 t.k) ∧ w.cell? ⟨g, o + 1, none⟩ = some (.string t.s) ∧ w.cell? ⟨g, o + 2, none⟩ = some (.int .i64 t.n) ∧ w.cell? ⟨g, o + 3, none⟩ = some v1 ∧ w.cell? ⟨g, o + 4, none⟩ = some (.int .i64 (t.at' : Int)) ∧
  w.cell? ⟨h, q, none⟩ = some (.int .i64 u.k) ∧ w.cell? ⟨h, q + 1, none⟩ = some (.string u.s) ∧ w.cell? ⟨h, q + 2, none⟩ = some (.int .i64 u.n) ∧ w.cell? ⟨h, q + 3, none⟩ = some v2 ∧ w.cell? ⟨h, q + 4, none⟩ = some (.int .i64 (u.at' : Int))
theorem cell_gr {W W' : World} {g o : Nat} {u : Value} (hc : W.cell? ⟨g, o, none⟩ = some u) (gr : Gr (fun _ => False) W W') : W'.cell? ⟨g, o, none⟩ = some u := by
  have hlt := World.block_lt_of_cell? _ _ hc
  simp only [World.cell?] at hc ⊢
  rw [gr.block g hlt (fun e => e)]; exact hc
theorem S10.gr {g o h q : Nat} {t u : Tok} {v1 v2 : Value} {W W' : World} (s : S10 g o h q t u v1 v2 W) (gr : Gr (fun _ => False) W W') : S10 g o h q t u v1 v2 W' := by
  obtain ⟨c0, c1, c2, c3, c4, d0, d1, d2, d3, d4⟩ := s
  exact ⟨cell_gr c0 gr, cell_gr c1 gr, cell_gr c2 gr, cell_gr c3 gr, cell_gr c4 gr, cell_gr d0 gr, cell_gr d1 gr, cell_gr d2 gr, cell_gr d3 gr, cell_gr d4 gr⟩

set_option maxRecDepth 100000 in
set_option maxHeartbeats 4000000 in
theorem all_same (W : World) (base1 base2 : Nat) (ts : List Tok) (vs1 vs2 : List Value) (a1 a2 : Option Addr) (c1 c2 : Nat) (h1 : Toks W base1 (.slice a1 ts.length c1) ts vs1) (h2 : Toks W base2 (.slice a2 ts.length c2) ts vs2) (hl : ts.length ≤ 4000) :
    Calls Tryd.prog 12 #[.slice a1 ts.length c1, .slice a2 ts.length c2] W fun e w' => e = .returned (.bool true) ∧ Gr (fun _ => False) W w' := by
  have hlI : (ts.length : Int) ≤ 4000 := by omega
  replace hl := Lib.hid hl
  replace h1 := Lib.hid h1
  replace h2 := Lib.hid h2
  go_enter Tryd.func12, Tryd.ntmps12
  go_wp2_with fail
  go_loopw [5] (fun u wr => ∃ j : Nat, j ≤ ts.length ∧ u = .int .i64 (j : Int) ∧ Hid (Gr (fun _ => False) W wr)) (fun u _ => ts.length - (intOf u).toNat)
  case atStart => exact ⟨0, Nat.zero_le _, rfl, Gr.refl _ _⟩
  case round =>
    obtain ⟨j, hj, rfl, hgr⟩ := hrel
    by_cases hlt : j < ts.length
    · have hjI : (j : Int) < (ts.length : Int) := by omega
      obtain ⟨g, rfl, hgl, hcap, hrow⟩ := h1.out.row (by omega)
      obtain ⟨h, rfl, hhl, hcap2, hrow2⟩ := h2.out.row (by omega)
      obtain ⟨t, ht⟩ : ∃ t, ts[j]? = some t := ⟨_, List.getElem?_eq_getElem hlt⟩
      have gD := hgr.out.trans (Gr.drew wr _)
      obtain ⟨ba, bc, hB, x0, x1, x2, x3, x4⟩ := (hrow j t ht).gr gD
      obtain ⟨ca, cc, hC, y0, y1, y2, y3, y4⟩ := (hrow2 j t ht).gr gD
      have s1 : S10 g (j * 5) h (j * 5) t t (.slice ba t.b.length bc) (.slice ca t.b.length cc) wr.drew := ⟨x0, x1, x2, x3, x4, y0, y1, y2, y3, y4⟩
      have hsm := fun w (g : Gr (fun _ => False) wr.drew w) => same_c w t t _ _ (hB.sb.gr g) (hC.sb.gr g) t.at' t.at'
      rw [smV_self] at hsm
      replace hsm := Lib.hid hsm
      have hglw : g < wr.heap.size := by have := hgr.out.size; omega
      have hhlw : h < wr.heap.size := by have := hgr.out.size; omega
      have GD := Lib.hid gD
      clear hrow hrow2 ht hB hC gD hgl hhl x0 x1 x2 x3 x4 y0 y1 y2 y3 y4
      go_wp2_with fail
      go_region_held3 (S10 g (j * 5) h (j * 5) t t (.slice ba t.b.length bc) (.slice ca t.b.length cc)) (with_reducible assumption)
        (first
          | (go_at_call 17; with_reducible refine (hsm.out _ (Gr.refl _ _)).mono ?_; rintro e w9 ⟨rfl, hg9⟩; have s2 := S10.gr s1 hg9; have G9 := Lib.hid hg9; clear hg9)
          | fail)
      rename_i hHd
      clear s1 s2 hHd
      go_wp2_with fail
      exact ⟨⟨j + 1, by omega, by go_num, GD.out.trans G9.out⟩, by simp [intOf]; omega⟩
    · obtain rfl : j = ts.length := by omega
      go_wp2_with fail
      go_ret
      exact ⟨rfl, hgr.out⟩
end Go.Proofs.YtnojhboflegkdaaDoor
