/-
  The walk of LexSpells.
-/
import Derived.Test.YtnojhboflegkdaaDoorAK
set_option linter.unusedVariables false
set_option linter.unusedSimpArgs false
namespace Go.Proofs.YtnojhboflegkdaaDoor
open Go.RowKit Go.Maps

/-- The cells of a token. -/
abbrev S5 (g : Nat) (k : Int) (s : ByteArray) (n : Int) (v : Value) (a : Int) (w : World) : Prop :=
  w.cell? ⟨g, 0, none⟩ = some (.int .i64 k) ∧ w.cell? ⟨g, 1, none⟩ = some (.string s) ∧ w.cell? ⟨g, 2, none⟩ = some (.int .i64 n) ∧ w.cell? ⟨g, 3, none⟩ = some v ∧ w.cell? ⟨g, 4, none⟩ = some (.int .i64 a)
theorem S5.gr {g : Nat} {k : Int} {s : ByteArray} {n : Int} {v : Value} {a : Int} {W W' : World} (h : S5 g k s n v a W) (gr : Gr (fun _ => False) W W') : S5 g k s n v a W' := by
  obtain ⟨c0, c1, c2, c3, c4⟩ := h
  exact ⟨cell_gr' c0 gr, cell_gr' c1 gr, cell_gr' c2 gr, cell_gr' c3 gr, cell_gr' c4 gr⟩

theorem S5.new (W : World) (k : Int) (s : ByteArray) (n : Int) (v : Value) (a : Int) : S5 W.heap.size k s n v a (W.alloc (.cells #[.int .i64 k, .string s, .int .i64 n, v, .int .i64 a] 33 (0, 0))) := by
  have h := heap_alloc_new W (.cells #[.int .i64 k, .string s, .int .i64 n, v, .int .i64 a] 33 (0, 0))
  refine ⟨?_, ?_, ?_, ?_, ?_⟩ <;> (simp only [World.cell?]; rw [h]; rfl)

set_option maxRecDepth 100000 in
set_option maxHeartbeats 4000000 in
theorem spells_walk (W : World) (k : Int) (s : ByteArray) (n : Int) (sv : Value) (a : Int) (b : List Int) (u : ByteArray) (hs : Sb W sv b) (hb : ∀ c ∈ b, 0 ≤ c ∧ c < 256) (hz : s.size ≤ 140737488351232) (hn : n ≤ 9223372036854775807) (hE : Er W) (hS : Sg W) (hT : Tb W) :
    Calls Tryd.prog 4 #[.agg #[.int .i64 k, .string s, .int .i64 n, sv, .int .i64 a], .string u] W fun e w' => e = .returned (.bool true) ∧ Gr (fun _ => False) W w' := by
  obtain ⟨sa, sc, rfl, _⟩ := hs.sv
  have ha := fun o : Obj => alive_c (W.alloc o) (hE.gr (Gr.alloc W o (fun _ => False)) (fun e => e)) (hS.gr (Gr.alloc W o (fun _ => False)) (fun e => e)) (hT.gr (Gr.alloc W o (fun _ => False)) (fun e => e))
  replace ha := Lib.hid ha
  have gA := fun o : Obj => Gr.alloc W o (fun _ => False)
  replace gA := Lib.hid gA
  by_cases hl : b.length ≤ 65536
  · have hlI : (b.length : Int) ≤ 65536 := by omega
    have h1 := fun w (g : Gr (fun _ => False) W w) => spell_c w k s n _ a b (hs.gr g) hb (by omega) hz hn (hT.gr g (fun e => e))
    have h2 := fun w (g : Gr (fun _ => False) W w) => spellr_c w k s n _ a b (hs.gr g) hb (by omega) hn
    obtain ⟨r, hr⟩ : ∃ r, spV k s n b = r := ⟨_, rfl⟩
    rw [hr] at h1 h2
    clear hr
    have hrr : (r.toList == r.toList) = true := by simp
    replace h1 := Lib.hid h1
    replace h2 := Lib.hid h2
    have h3 := fun w => word_c u w
    have h4 := fun w => wordr_c u w
    obtain ⟨x, hx⟩ : ∃ x, wrd u = x := ⟨_, rfl⟩
    rw [hx] at h3 h4
    clear hx
    have hxx : (x == x) = true := by simp
    replace h3 := Lib.hid h3
    replace h4 := Lib.hid h4
    rename_i hq
    clear hq
    clear hs hb hz hn hE hS hT
    go_enter Tryd.func4, Tryd.ntmps4
    go_wp2_with fail
    refine (ha.out _).mono ?_
    rintro e w1 ⟨rfl, hg1⟩
    have hbx : S5 W.heap.size k s n (.slice sa b.length sc) a w1 := S5.gr (S5.new W k s n _ a) hg1
    have hbl : W.heap.size < w1.heap.size := by have := hg1.size; simp only [World.size_alloc] at this; omega
    have hG1 := Lib.hid ((gA.out _).trans hg1)
    clear hg1
    generalize W.heap.size = bx at *
    have c3 := hbx.2.2.2.1
    go_wp2_with fail
    have gD := Lib.hid (hG1.out.trans (Gr.drew w1 _))
    have s1 := S5.gr hbx (Gr.drew w1 _)
    have h1' := Lib.hid (h1.out _ gD.out)
    have hblD : bx < w1.drew.heap.size := hbl
    clear hbx c3 h1 ha gA
    go_region_held3 (S5 bx k s n (.slice sa b.length sc) a) (with_reducible assumption)
      (first
        | (go_at_call 13; with_reducible refine h1'.out.mono ?_; rintro e w9 ⟨rfl, hg9⟩; have s2 := S5.gr s1 hg9; have G9 := Lib.hid (gD.out.trans hg9); clear hg9)
        | (go_at_call 14; with_reducible refine (h2.out _ G9.out).mono ?_; rintro e w10 ⟨rfl, hg10⟩; have s3 := S5.gr s2 hg10; have G10 := Lib.hid (G9.out.trans hg10); clear hg10)
        | (go_at_call 15; with_reducible refine (h3.out _).mono ?_; rintro e w11 ⟨rfl, rfl⟩)
        | (go_at_call 16; with_reducible refine (h4.out _).mono ?_; rintro e w12 ⟨rfl, rfl⟩)
        | fail)
    all_goals
      go_wp2_with fail
      go_ret
      exact ⟨by simp, G10.out⟩
  · have hlI : ¬ (b.length : Int) ≤ 65536 := by omega
    have hlI' : (65536 : Int) < b.length := by omega
    clear hs hb hz hn hE hS hT
    go_enter Tryd.func4, Tryd.ntmps4
    go_wp2_with fail
    refine (ha.out _).mono ?_
    rintro e w1 ⟨rfl, hg1⟩
    have hbx : S5 W.heap.size k s n (.slice sa b.length sc) a w1 := S5.gr (S5.new W k s n _ a) hg1
    have hbl : W.heap.size < w1.heap.size := by have := hg1.size; simp only [World.size_alloc] at this; omega
    have hG1 := Lib.hid ((gA.out _).trans hg1)
    clear hg1
    generalize W.heap.size = bx at *
    have c3 := hbx.2.2.2.1
    go_wp2_with fail
    go_ret
    exact ⟨rfl, hG1.out⟩
end Go.Proofs.YtnojhboflegkdaaDoor
