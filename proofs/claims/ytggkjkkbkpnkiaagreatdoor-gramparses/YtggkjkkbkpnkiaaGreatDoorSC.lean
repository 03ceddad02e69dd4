/-
  The walk of GramTexts.
-/
import Derived.Test.YtggkjkkbkpnkiaaGreatDoorSA
import Derived.Test.YtggkjkkbkpnkiaaGreatDoorSB
import Derived.Test.YtggkjkkbkpnkiaaGreatDoorRU
set_option linter.unusedVariables false
set_option linter.unusedSimpArgs false
namespace Go.Proofs.YtggkjkkbkpnkiaaGreatDoor
open Go.RowKit Go.Maps
variable {W W' : World}
/-- What both Parses tell. -/
def telR : Except (Nat × Int) Tr → Tr × Int × Int
  | .ok T => (T, 0, 0)
  | .error (i, c) => (tr0, (i : Int), c)
theorem EndP.told {e : Ending} {r : Except (Nat × Int) Tr} (h : EndP W e W' r) : ∃ k s n a1 n1 c1 a2 n2 c2, e = .returned (.tuple #[trv k s n (.slice a1 n1 c1) (.slice a2 n2 c2), .int .i64 (telR r).2.1, .int .i64 (telR r).2.2]) ∧
    Rep (fun z => z < W'.heap.size) W' (telR r).1 (trv k s n (.slice a1 n1 c1) (.slice a2 n2 c2)) ∧ Gr (fun _ => False) W W' := by
  cases r with
  | ok T =>
    obtain ⟨v, rfl, hr, hg⟩ := h
    obtain ⟨k, s, n, a1, n1, c1, a2, n2, c2, rfl⟩ := hr.agg
    exact ⟨k, s, n, a1, n1, c1, a2, n2, c2, rfl, hr.turn (fun z hz hl => ⟨hl, rfl⟩), hg⟩
  | error p =>
    obtain ⟨i, c⟩ := p
    obtain ⟨rfl, hg⟩ := h
    exact ⟨_, _, _, _, _, _, _, _, _, rfl, rep0 _ _, hg⟩
theorem refT_c (W : World) (base : Nat) (s : ByteArray) (l : List Tok) (vs : List Value) (a : Option Addr) (c : Nat) (hs : scanV s = .ok l) (h : Toks W base (.slice a l.length c) l vs) :
    Calls Tryz.prog 8 #[.slice a l.length c] W fun e w' => EndP W e w' (parseV (l.map tnOf)) := by
  obtain ⟨h1, h2⟩ := scanV_all hs
  have := rparse_c { N := W.heap.size, ts := l.map tnOf, vs := vs, a := a, c := c } W ⟨TokK.of_row (c := c) h.rowk.1 h.2.bsk, Nat.le_refl _, Nat.zero_le _, Nat.zero_le _, h.rowk.2, by show (l.map tnOf).length ≤ _; rw [List.length_map]; omega,
    (fun t ht => by obtain ⟨u, hu, rfl⟩ := List.mem_map.1 ht; have : u.s.size ≤ 60 := (h1 u hu).1; show u.s.size ≤ _; omega),
    (fun t ht => by obtain ⟨u, hu, rfl⟩ := List.mem_map.1 ht; have : u.b.length ≤ 16384 := (h1 u hu).2; show u.b.length ≤ _; omega)⟩
  have e : (l.map tnOf).length = l.length := List.length_map ..
  simp only [e] at this
  exact this
set_option maxRecDepth 100000 in
set_option maxHeartbeats 1600000 in
theorem gtexts_c (W : World) (s : ByteArray) (hE : Er W) (hS : Sg W) (hL : Lv W) : Calls Tryz.prog 4 #[.string s] W fun e w' => e = .returned (.bool true) ∧ Gr (fun _ => False) W w' := by
  have h4 : 4 < W.heap.size := by obtain ⟨_, t, f, h⟩ := hL; exact (Array.getElem?_eq_some_iff.1 h).1
  have hal := alive_c W hE hS hL
  have hsc := Lib.hid (fun w (g : Gr (fun _ => False) W w) => scan_c w s (hE.gr g (fun e => e)) (hS.gr g (fun e => e)))
  replace hL := Lib.hid hL
  replace h4 := Lib.hid h4
  clear hE hS
  go_enter Tryz.func4, Tryz.ntmps4
  go_wp2_with fail
  refine hal.mono ?_
  rintro e w1 ⟨rfl, g1⟩
  clear hal
  go_wp2_with fail
  have hs1 := hsc.out w1 g1
  clear hsc
  cases hv : scanV s with
  | error p =>
    obtain ⟨i, c⟩ := p
    have hc := scanV_err hv
    have q : (c != 0) = true := by rw [bne_iff_ne]; exact hc
    have q' : (c == 0) = false := by simpa using hc
    rw [hv] at hs1
    clear hc
    refine hs1.mono ?_
    rintro e w2 ⟨rfl, g2⟩
    have G := Lib.hid (g1.trans g2)
    clear g1 g2
    go_wp2_with fail
    go_ret
    exact ⟨rfl, G.out⟩
  | ok l =>
    rw [hv] at hs1
    refine hs1.mono ?_
    rintro e w2 ⟨sv, vs, rfl, hT, g2⟩
    obtain ⟨a, c, rfl⟩ := hT.sv
    have G2' := Lib.hid (g1.trans g2)
    have hp := (parseT_c w2 _ s l vs a c hv hT (hL.out.gr G2'.out (fun e => e) (fun e => e)) (Nat.lt_of_lt_of_le h4.out G2'.out.size))
    have hpr := Lib.hid (fun w (g : Gr (fun _ => False) w2 w) => refT_c w _ s l vs a c hv (hT.gr g (fun _ _ e => e)))
    generalize parseV (l.map tnOf) = r at hp hpr
    clear hT g1 g2 hv hs1
    go_wp2_with fail
    refine hp.mono ?_
    intro e w3 h3
    obtain ⟨k, t, n, a1, n1, c1, a2, n2, c2, rfl, rep3, g3⟩ := h3.told
    clear h3 hp
    have gA := Gr.alloc w3 (.cells #[.int .i64 k, .string t, .int .i64 n, .slice a1 n1 c1, .slice a2 n2 c2] 30) (fun _ => False)
    have hA := heap_alloc_new w3 (.cells #[.int .i64 k, .string t, .int .i64 n, .slice a1 n1 c1, .slice a2 n2 c2] 30)
    have rep4 : Rep (fun z => z < (w3.alloc (.cells #[.int .i64 k, .string t, .int .i64 n, .slice a1 n1 c1, .slice a2 n2 c2] 30)).heap.size) _ _ _ := rep3.turn (fun z hz hl => ⟨Nat.lt_of_lt_of_le hl gA.size, gA.block z hl (fun e => e)⟩)
    have hpr4 := Lib.hid (hpr.out _ (g3.trans gA))
    clear hpr rep3
    go_wp2_with fail
    generalize w3.alloc _ = w4 at gA hA rep4 hpr4 ⊢
    obtain ⟨tb, htb⟩ : ∃ tb, w3.heap.size = tb := ⟨_, rfl⟩
    rw [htb] at hA ⊢
    refine hpr4.out.mono ?_
    intro e w5 h5
    obtain ⟨k', t', n', b1, m1, d1, b2, m2, d2, rfl, rep5, g5⟩ := h5.told
    clear h5 hpr4
    have gB := Gr.alloc w5 (.cells #[.int .i64 k', .string t', .int .i64 n', .slice b1 m1 d1, .slice b2 m2 d2] 30) (fun _ => False)
    have hB := heap_alloc_new w5 (.cells #[.int .i64 k', .string t', .int .i64 n', .slice b1 m1 d1, .slice b2 m2 d2] 30)
    have hA5 := gB.keep (g5.keep hA (fun e => e)) (fun e => e)
    have r1 := rep4.turn (A' := fun z => z < w5.heap.size) (W' := w5) (fun z hz hl => ⟨Nat.lt_of_lt_of_le hl g5.size, g5.block z hl (fun e => e)⟩)
    have r1' : Rep (fun z => z < (w5.alloc (.cells #[.int .i64 k', .string t', .int .i64 n', .slice b1 m1 d1, .slice b2 m2 d2] 30)).heap.size) _ _ _ := r1.turn (fun z hz hl => ⟨Nat.lt_of_lt_of_le hl gB.size, gB.block z hl (fun e => e)⟩)
    have r2' : Rep (fun z => z < (w5.alloc (.cells #[.int .i64 k', .string t', .int .i64 n', .slice b1 m1 d1, .slice b2 m2 d2] 30)).heap.size) _ _ _ := rep5.turn (fun z hz hl => ⟨Nat.lt_of_lt_of_le hl gB.size, gB.block z hl (fun e => e)⟩)
    have hsame := Lib.hid (same_c _ _ _ _ _ r1' r2' (Nat.le_refl _))
    have G6 := Lib.hid ((((G2'.out.trans g3).trans gA).trans g5).trans gB)
    have htl : tb < w5.heap.size := (Array.getElem?_eq_some_iff.1 (g5.keep hA (fun e => e))).1
    obtain ⟨⟨x0, x1, x2, x3, x4⟩, _⟩ := five_cells (g5.keep hA (fun e => e))
    generalize (telR r).2.1 = i0
    generalize (telR r).2.2 = i1
    have hn1 : tb ≠ w5.heap.size := by omega
    have hn2 : tb < w5.heap.size + 1 := by omega
    clear rep4 rep5 r1 r1' r2' hA5 gA gB hA hB g3 g5
    go_wp2_with fail
    refine hsame.out.mono ?_
    rintro e w7 ⟨rfl, g7⟩
    have G7 := Lib.hid (G6.out.trans g7)
    clear g7 x0 x1 x2 x3 x4
    have e0' : (i0 == i0) = true := by simp
    have e1' : (i1 == i1) = true := by simp
    go_wp2_with fail
    go_ret
    exact ⟨rfl, G7.out⟩
end Go.Proofs.YtggkjkkbkpnkiaaGreatDoor
