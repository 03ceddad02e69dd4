/-
  Carried over from another seat of ours (GB).
-/
import Derived.Test.YtggkjkkbkpnkiaaGreatDoorGA
set_option linter.unusedVariables false
set_option linter.unusedSimpArgs false
namespace Go.Proofs.YtggkjkkbkpnkiaaGreatDoor
open Go.RowKit Go.Maps
variable {x : Kx} {W W' : World} {pb : Nat} {p p' : Ps}

/-- Five cells of a block are written. -/
abbrev set5 (w : World) (b : Nat) (y0 y1 y2 y3 y4 : Value) : World := ((((w.setCell ⟨b, 0, none⟩ y0).setCell ⟨b, 1, none⟩ y1).setCell ⟨b, 2, none⟩ y2).setCell ⟨b, 3, none⟩ y3).setCell ⟨b, 4, none⟩ y4
theorem set5_heap {w : World} {b : Nat} {x0 x1 x2 x3 x4 : Value} {t : TypeId} (h : w.heap[b]? = some (.cells #[x0, x1, x2, x3, x4] t (0, 0))) (y0 y1 y2 y3 y4 : Value) :
    (set5 w b y0 y1 y2 y3 y4).heap[b]? = some (.cells #[y0, y1, y2, y3, y4] t (0, 0)) := by
  have h0 : (w.setCell ⟨b, 0, none⟩ y0).heap[b]? = some (.cells #[y0, x1, x2, x3, x4] t (0, 0)) := heap_setCell_same w b 0 _ t _ h
  have h1 : ((w.setCell ⟨b, 0, none⟩ y0).setCell ⟨b, 1, none⟩ y1).heap[b]? = some (.cells #[y0, y1, x2, x3, x4] t (0, 0)) := heap_setCell_same (w.setCell ⟨b, 0, none⟩ y0) b 1 _ t _ h0
  have h2 : (((w.setCell ⟨b, 0, none⟩ y0).setCell ⟨b, 1, none⟩ y1).setCell ⟨b, 2, none⟩ y2).heap[b]? = some (.cells #[y0, y1, y2, x3, x4] t (0, 0)) := heap_setCell_same ((w.setCell ⟨b, 0, none⟩ y0).setCell ⟨b, 1, none⟩ y1) b 2 _ t _ h1
  have h3 : ((((w.setCell ⟨b, 0, none⟩ y0).setCell ⟨b, 1, none⟩ y1).setCell ⟨b, 2, none⟩ y2).setCell ⟨b, 3, none⟩ y3).heap[b]? = some (.cells #[y0, y1, y2, y3, x4] t (0, 0)) := heap_setCell_same (((w.setCell ⟨b, 0, none⟩ y0).setCell ⟨b, 1, none⟩ y1).setCell ⟨b, 2, none⟩ y2) b 3 _ t _ h2
  have h4 : (((((w.setCell ⟨b, 0, none⟩ y0).setCell ⟨b, 1, none⟩ y1).setCell ⟨b, 2, none⟩ y2).setCell ⟨b, 3, none⟩ y3).setCell ⟨b, 4, none⟩ y4).heap[b]? = some (.cells #[y0, y1, y2, y3, y4] t (0, 0)) := heap_setCell_same ((((w.setCell ⟨b, 0, none⟩ y0).setCell ⟨b, 1, none⟩ y1).setCell ⟨b, 2, none⟩ y2).setCell ⟨b, 3, none⟩ y3) b 4 _ t _ h3
  exact h4
theorem set5_gr (w : World) (b : Nat) (y0 y1 y2 y3 y4 : Value) : Gr (fun k => k = b) w (set5 w b y0 y1 y2 y3 y4) :=
  ((((Gr.set (S := fun k => k = b) w ⟨b, 0, none⟩ y0 rfl).trans (Gr.set (S := fun k => k = b) _ ⟨b, 1, none⟩ y1 rfl)).trans (Gr.set (S := fun k => k = b) _ ⟨b, 2, none⟩ y2 rfl)).trans (Gr.set (S := fun k => k = b) _ ⟨b, 3, none⟩ y3 rfl)).trans (Gr.set (S := fun k => k = b) _ ⟨b, 4, none⟩ y4 rfl)
theorem five_cells {w : World} {b : Nat} {x0 x1 x2 x3 x4 : Value} {t : TypeId} (h : w.heap[b]? = some (.cells #[x0, x1, x2, x3, x4] t (0, 0))) :
    (w.cell? ⟨b, 0, none⟩ = some x0 ∧ w.cell? ⟨b, 1, none⟩ = some x1 ∧ w.cell? ⟨b, 2, none⟩ = some x2 ∧ w.cell? ⟨b, 3, none⟩ = some x3 ∧ w.cell? ⟨b, 4, none⟩ = some x4) ∧
    (w.frozen? ⟨b, 0, none⟩ = false ∧ w.frozen? ⟨b, 1, none⟩ = false ∧ w.frozen? ⟨b, 2, none⟩ = false ∧ w.frozen? ⟨b, 3, none⟩ = false ∧ w.frozen? ⟨b, 4, none⟩ = false) := by
  simp [World.cell?, World.frozen?, h]

/-- Is this sign or word the next token? -/
def isV (ts : List Tn) (p : Ps) (s : ByteArray) : Bool := ((pkT ts p).k == 5 || (pkT ts p).k == 6) && ((pkT ts p).s.toList == s.toList)
def Ps.next (p : Ps) : Ps := { p with i := p.i + 1 }
def failV (c : Int) (p : Ps) : Ps := if p.e = 0 then { p with e := c } else p
def wantV (ts : List Tn) (s : ByteArray) (p : Ps) : Ps := if isV ts p s = true then p.next else failV 160 p
def nameV (ts : List Tn) (k : Int) (p : Ps) : ByteArray × Ps := if (pkT ts p).k = k then ((pkT ts p).s, p.next) else (e0, failV 160 p)
theorem lt_of_kind (h : (pkT x.ts p).k ≠ 0) : p.i < x.cut p := by
  by_cases hl : p.i < x.cut p
  · exact hl
  · rw [pkT_end hl] at h; exact absurd rfl h
theorem isV_lt {s : ByteArray} (h : isV x.ts p s = true) : p.i < x.cut p ∧ p.e = 0 ∧ p.i < x.ts.length := by
  have hk : (pkT x.ts p).k ≠ 0 := by
    intro e
    simp [isV, e] at h
  have hl := lt_of_kind hk
  have he : p.e = 0 := by
    by_cases e : p.e = 0
    · exact e
    · rw [Kx.cut, if_neg e] at hl; omega
  exact ⟨hl, he, by rw [Kx.cut, if_pos he] at hl; exact hl⟩
theorem cut_next (he : p.e = 0) : x.cut p.next = x.cut p := by simp [Kx.cut, Ps.next, he]

theorem Pz.step (h : Pz x W pb p) (he : p.e = 0) (hl : p.i < x.ts.length) :
    Pz x (W.setCell ⟨pb, 1, none⟩ (.int .i64 ((p.i : Int) + 1))) pb p.next ∧ Gr (fun k => k = pb) W (W.setCell ⟨pb, 1, none⟩ (.int .i64 ((p.i : Int) + 1))) := by
  have g2 : Gr (fun k => k = pb) W (W.setCell ⟨pb, 1, none⟩ (.int .i64 ((p.i : Int) + 1))) := Gr.set _ _ _ rfl
  refine ⟨h.upd g2 (fun k hk e => by have := h.hN; omega) ?_ (by show p.i + 1 ≤ _; omega) h.hd, g2⟩
  rw [cut_next he]
  exact heap_setCell_same W pb 1 _ 42 _ h.blk
abbrev tnv (t : Tn) (v : Value) : Value := .agg #[.int .i64 t.k, .string t.s, .int .i64 t.n, v, .int .i64 t.o]
set_option maxRecDepth 20000 in
set_option maxHeartbeats 1600000 in
theorem gpeek_c (h : Pz x W pb p) : Calls Tryz.prog 45 #[pt pb] W fun e w' => e = .returned (tnv (pkT x.ts p) (pkB x.vs p)) ∧ Gr (fun _ => False) W w' := by
  obtain ⟨⟨c0, c1, c2, c3⟩, f0, f1, f2, f3⟩ := h.facts
  have hb := h.lt
  have hm := h.hm
  by_cases hl : p.i < x.cut p
  · obtain ⟨he, hlt, ht, hrow, g, hg, hgN, hc⟩ := h.at hl
    have k0 : W.cell? ⟨g, p.i * 5, none⟩ = _ := hc 0 _ rfl
    have k1 := hc 1 _ rfl
    have k2 := hc 2 _ rfl
    have k3 := hc 3 _ rfl
    have k4 := hc 4 _ rfl
    rw [hg] at c0
    obtain ⟨va, vc, hv⟩ := hrow.sv
    generalize pkT x.ts p = t at k0 k1 k2 k3 k4 hv ⊢
    rw [hv] at k3 ⊢
    generalize t.b.length = vn at k3 ⊢
    generalize x.cut p = n at c0 hl
    generalize x.c = cc at c0
    generalize p.i = i at c1 hl k0 k1 k2 k3 k4 hlt
    have h1 : (i : Int) < (n : Int) := by omega
    have hgl : g < W.heap.size := World.block_lt_of_cell? _ _ k0
    clear ht hrow hc h hv
    go_enter Tryz.func45, Tryz.ntmps45
    go_wp2_with fail
    go_quiet (fail)
    go_wp2_with fail
    go_region
    go_wp2_with fail
    generalize hW1 : World.drewN _ (nq + 1) = W1
    have hb1 : W1.heap[W.heap.size]? = some (.cells #[.int .i64 0, .string e0, .int .i64 0, nl, .int .i64 0] 27 (0, 0)) := hW1 ▸ heap_alloc_new W _
    have g1 : Gr (fun _ => False) W W1 := hW1 ▸ (Gr.alloc W _ _).trans (Gr.drewN _ _ _)
    clear hW1
    have hf := set5_heap hb1 (.int .i64 t.k) (.string t.s) (.int .i64 t.n) (.slice va vn vc) (.int .i64 t.o)
    have gf := g1.trans' (set5_gr W1 W.heap.size (.int .i64 t.k) (.string t.s) (.int .i64 t.n) (.slice va vn vc) (.int .i64 t.o)) (fun k hk e => absurd e (by omega))
    obtain ⟨⟨m0, m1, m2, m3, m4⟩, _⟩ := five_cells hf
    refine bodyPost_ret (v := tnv t (.slice va vn vc)) (by simp [results, Tryz.results45, go_sem, m0, m1, m2, m3, m4]) rfl ⟨rfl, gf⟩
  · rw [pkT_end hl, pkB_end hl h.bs]
    generalize x.cut p = n at c0 hl
    generalize x.c = cc at c0
    generalize x.a = aa at c0
    generalize p.i = i at c1 hl
    have h1 : decide ((i : Int) < (n : Int)) = false := by simp; omega
    clear h
    go_enter Tryz.func45, Tryz.ntmps45
    go_wp2_with fail
    go_quiet (fail)
    go_wp2_with fail
    generalize hW1 : World.drewN _ nq = W1
    have hb1 : W1.heap[W.heap.size]? = some (.cells #[.int .i64 0, .string e0, .int .i64 0, nl, .int .i64 0] 27 (0, 0)) := hW1 ▸ heap_alloc_new W _
    have g1 : Gr (fun _ => False) W W1 := hW1 ▸ (Gr.alloc W _ _).trans (Gr.drewN _ _ _)
    clear hW1
    have hf := set5_heap hb1 (.int .i64 0) (.string e0) (.int .i64 0) nl (.int .i64 0)
    have gf := g1.trans' (set5_gr W1 W.heap.size (.int .i64 0) (.string e0) (.int .i64 0) nl (.int .i64 0)) (fun k hk e => absurd e (by omega))
    obtain ⟨⟨m0, m1, m2, m3, m4⟩, _⟩ := five_cells hf
    refine bodyPost_ret (v := tnv tn0 nl) (by simp [results, Tryz.results45, go_sem, m0, m1, m2, m3, m4]) rfl ⟨rfl, gf⟩
set_option maxRecDepth 20000 in
set_option maxHeartbeats 1600000 in
theorem is_c (h : Pz x W pb p) (s : ByteArray) : Calls Tryz.prog 48 #[pt pb, .string s] W fun e w' => e = .returned (.bool (isV x.ts p s)) ∧ Gr (fun _ => False) W w' := by
  have hk := gpeek_c h
  obtain ⟨r, hr⟩ : ∃ r, isV x.ts p s = r := ⟨_, rfl⟩
  rw [hr]
  unfold isV at hr
  have Hv : ∃ va vn vc, pkB x.vs p = .slice va vn vc := by
    by_cases hl : p.i < x.cut p
    · obtain ⟨_, _, _, hrow, _⟩ := h.at hl
      obtain ⟨a, c, e⟩ := hrow.sv
      exact ⟨_, _, _, e⟩
    · exact ⟨_, _, _, pkB_end hl h.bs⟩
  obtain ⟨va, vn, vc, hv⟩ := Hv
  rw [hv] at hk
  generalize pkT x.ts p = t at hk hr
  by_cases h5 : t.k = 5
  · have q5 : (t.k == 5) = true := by simpa using h5
    rw [q5, Bool.true_or, Bool.true_and] at hr
    clear h5
    go_enter Tryz.func48, Tryz.ntmps48
    go_wp2_with fail
    refine hk.mono ?_
    rintro e w1 ⟨rfl, g1⟩
    go_wp2_with fail
    go_ret
    exact ⟨rfl, g1.trans (Gr.alloc _ _ _)⟩
  have q5 : (t.k == 5) = false := by simpa using h5
  by_cases h6 : t.k = 6
  · have q6 : (t.k == 6) = true := by simpa using h6
    rw [q5, q6, Bool.false_or, Bool.true_and] at hr
    clear h5 h6
    go_enter Tryz.func48, Tryz.ntmps48
    go_wp2_with fail
    refine hk.mono ?_
    rintro e w1 ⟨rfl, g1⟩
    go_wp2_with fail
    go_ret
    exact ⟨rfl, g1.trans (Gr.alloc _ _ _)⟩
  · have q6 : (t.k == 6) = false := by simpa using h6
    rw [q5, q6, Bool.false_or, Bool.false_and] at hr
    subst hr
    clear h5 h6
    go_enter Tryz.func48, Tryz.ntmps48
    go_wp2_with fail
    refine hk.mono ?_
    rintro e w1 ⟨rfl, g1⟩
    go_wp2_with fail
    go_ret
    exact ⟨rfl, g1.trans (Gr.alloc _ _ _)⟩

set_option maxRecDepth 20000 in
set_option maxHeartbeats 1600000 in
theorem take_c (h : Pz x W pb p) (s : ByteArray) : Calls Tryz.prog 47 #[pt pb, .string s] W fun e w' => e = .returned (.bool (isV x.ts p s)) ∧ Pz x w' pb (if isV x.ts p s = true then p.next else p) ∧ Gr (fun k => k = pb) W w' := by
  have hk := is_c h s
  have hlt := @isV_lt x p s
  have hm := h.hm
  have hi2 : (p.i : Int) ≤ 100000 := by have := h.hi; omega
  clear hm
  by_cases hs : isV x.ts p s = true
  · obtain ⟨hl, he, hl2⟩ := hlt hs
    rw [if_pos hs]
    rw [hs] at hk ⊢
    clear hs hlt
    go_enter Tryz.func47, Tryz.ntmps47
    go_wp2_with fail
    refine hk.mono ?_
    rintro e w1 ⟨rfl, g1⟩
    have h1 := h.g0 g1
    obtain ⟨⟨c0, c1, c2, c3⟩, f0, f1, f2, f3⟩ := h1.facts
    go_wp2_with fail
    go_ret
    obtain ⟨h2, g2⟩ := h1.step he hl2
    exact ⟨rfl, h2, (g1.any _).trans g2⟩
  · have hs' : isV x.ts p s = false := by simpa using hs
    rw [if_neg hs]
    rw [hs'] at hk ⊢
    clear hs hlt
    go_enter Tryz.func47, Tryz.ntmps47
    go_wp2_with fail
    refine hk.mono ?_
    rintro e w1 ⟨rfl, g1⟩
    go_wp2_with fail
    go_ret
    exact ⟨rfl, h.g0 g1, g1.any _⟩

abbrev tr0v : Value := trv 0 e0 0 nl nl
set_option maxRecDepth 20000 in
set_option maxHeartbeats 1600000 in
theorem fail_c (h : Pz x W pb p) (c : Int) (hc : c ≠ 0) : Calls Tryz.prog 46 #[pt pb, .int .i64 c] W fun e w' => e = .returned tr0v ∧ Pz x w' pb (failV c p) ∧ Gr (fun k => k = pb) W w' := by
  obtain ⟨⟨c0, c1, c2, c3⟩, f0, f1, f2, f3⟩ := h.facts
  have hb := h.lt
  by_cases he : p.e = 0
  · have q : (p.e == 0) = true := by simpa using he
    have hic : (p.i : Int) ≤ (x.c : Int) := by have := h.hi; have := h.hc; omega
    have hnb : W.heap.size ≠ pb := by omega
    rw [failV, if_pos he]
    go_enter Tryz.func46, Tryz.ntmps46
    go_wp2_with fail
    go_region
    go_wp2_with fail
    have hA : (W.setCell ⟨pb, 3, none⟩ (.int .i64 c)).heap[pb]? = some (.cells #[.slice x.a (x.cut p) x.c, .int .i64 (p.i : Int), .int .i64 (p.d : Int), .int .i64 c] 42 (0, 0)) := heap_setCell_same W pb 3 _ 42 _ h.blk
    have hB : ((W.setCell ⟨pb, 3, none⟩ (.int .i64 c)).setCell ⟨pb, 0, none⟩ (.slice x.a p.i x.c)).heap[pb]? = some (.cells #[.slice x.a p.i x.c, .int .i64 (p.i : Int), .int .i64 (p.d : Int), .int .i64 c] 42 (0, 0)) := heap_setCell_same _ pb 0 _ 42 _ hA
    have gB : Gr (fun k => k = pb) W ((W.setCell ⟨pb, 3, none⟩ (.int .i64 c)).setCell ⟨pb, 0, none⟩ (.slice x.a p.i x.c)) := (Gr.set (S := fun k => k = pb) W ⟨pb, 3, none⟩ _ rfl).trans (Gr.set _ _ _ rfl)
    generalize hWB : (W.setCell ⟨pb, 3, none⟩ (.int .i64 c)).setCell ⟨pb, 0, none⟩ (.slice x.a p.i x.c) = WB at hB gB ⊢
    have hsz : WB.heap.size = W.heap.size := by rw [← hWB]; simp
    have hlB : pb < WB.heap.size := by omega
    rw [← hsz]
    clear hWB
    have hN := h.hN
    have hP : Pz x WB pb { i := p.i, d := p.d, e := c } := h.upd gB (fun k hk e => by omega) (by rw [Kx.cut, if_neg hc]; exact hB) h.hi h.hd
    have hG : Gr (fun _ => False) WB (WB.alloc (.cells #[.int .i64 0, .string e0, .int .i64 0, nl, nl] 30)).drew := (Gr.alloc WB _ _).trans (Gr.drew _ _)
    obtain ⟨⟨m0, m1, m2, m3, m4⟩, _⟩ := five_cells (heap_alloc_new WB (.cells #[.int .i64 0, .string e0, .int .i64 0, nl, nl] 30))
    exact bodyPost_ret (v := tr0v) (by simp [results, Tryz.results46, go_sem, m0, m1, m2, m3, m4]) rfl ⟨rfl, hP.g0 hG, gB.trans (hG.any _)⟩
  · have q : (p.e == 0) = false := by simpa using he
    rw [failV, if_neg he]
    go_enter Tryz.func46, Tryz.ntmps46
    go_wp2_with fail
    obtain ⟨⟨m0, m1, m2, m3, m4⟩, _⟩ := five_cells (heap_alloc_new W (.cells #[.int .i64 0, .string e0, .int .i64 0, nl, nl] 30))
    exact bodyPost_ret (v := tr0v) (by simp [results, Tryz.results46, go_sem, m0, m1, m2, m3, m4]) rfl ⟨rfl, h.g0 (Gr.alloc _ _ _), Gr.alloc _ _ _⟩

set_option maxRecDepth 20000 in
set_option maxHeartbeats 1600000 in
theorem want_c (h : Pz x W pb p) (s : ByteArray) : Calls Tryz.prog 35 #[pt pb, .string s] W fun e w' => e = .returned (.tuple #[]) ∧ Pz x w' pb (wantV x.ts s p) ∧ Gr (fun k => k = pb) W w' := by
  have hk := take_c h s
  by_cases hs : isV x.ts p s = true
  · rw [wantV, if_pos hs]
    rw [if_pos hs, hs] at hk
    clear hs
    go_enter Tryz.func35, Tryz.ntmps35
    go_wp2_with fail
    refine hk.mono ?_
    rintro e w1 ⟨rfl, h1, g1⟩
    go_wp2_with fail
    exact ⟨rfl, .tuple #[], by simp [results, Tryz.results35, go_sem], rfl, h1, g1⟩
  · have hs' : isV x.ts p s = false := by simpa using hs
    rw [wantV, if_neg hs]
    rw [if_neg hs, hs'] at hk
    clear hs
    go_enter Tryz.func35, Tryz.ntmps35
    go_wp2_with fail
    refine hk.mono ?_
    rintro e w1 ⟨rfl, h1, g1⟩
    go_wp2_with fail
    refine (fail_c h1 160 (by decide)).mono ?_
    rintro e w2 ⟨rfl, h2, g2⟩
    go_wp2_with fail
    exact ⟨rfl, .tuple #[], by simp [results, Tryz.results35, go_sem], rfl, h2, g1.trans g2⟩

set_option maxRecDepth 20000 in
set_option maxHeartbeats 1600000 in
theorem node_c (W : World) (k : Int) (s : ByteArray) (a : Option Addr) (n c : Nat) : Calls Tryz.prog 18 #[.int .i64 k, .string s, .slice a n c] W fun e w' => e = .returned (trv k s 0 nl (.slice a n c)) ∧ Gr (fun _ => False) W w' := by
  go_enter Tryz.func18, Tryz.ntmps18
  go_wp2_with fail
  obtain ⟨⟨m0, m1, m2, m3, m4⟩, _⟩ := five_cells (heap_alloc_new W (.cells #[.int .i64 k, .string s, .int .i64 0, nl, .slice a n c] 30))
  exact bodyPost_ret (v := trv k s 0 nl (.slice a n c)) (by simp [results, Tryz.results18, go_sem, m0, m1, m2, m3, m4]) rfl ⟨rfl, Gr.alloc _ _ _⟩

set_option maxRecDepth 20000 in
set_option maxHeartbeats 1600000 in
theorem gname_c (h : Pz x W pb p) (k : Int) (hk0 : k ≠ 0) : Calls Tryz.prog 34 #[pt pb, .int .i64 k] W fun e w' => e = .returned (.string (nameV x.ts k p).1) ∧ Pz x w' pb (nameV x.ts k p).2 ∧ Gr (fun k => k = pb) W w' := by
  have hk := gpeek_c h
  have hi2 : (p.i : Int) ≤ 100000 := by have := h.hi; have := h.hm; omega
  have Hv : ∃ va vn vc, pkB x.vs p = .slice va vn vc := by
    by_cases hl : p.i < x.cut p
    · obtain ⟨_, _, _, hrow, _⟩ := h.at hl
      obtain ⟨a, c, e⟩ := hrow.sv
      exact ⟨_, _, _, e⟩
    · exact ⟨_, _, _, pkB_end hl h.bs⟩
  obtain ⟨va, vn, vc, hv⟩ := Hv
  rw [hv] at hk
  by_cases hs : (pkT x.ts p).k = k
  · have hl := lt_of_kind (x := x) (p := p) (by rw [hs]; exact hk0)
    obtain ⟨he, hl2, ht, _⟩ := h.at hl
    have hsz := h.hS _ (List.mem_of_getElem? ht)
    rw [nameV, if_pos hs]
    generalize pkT x.ts p = t at hk hs hsz
    have q : (t.k != k) = false := by simp [hs]
    have hcl := fun w => clone_g t.s w hsz
    clear ht hs
    go_enter Tryz.func34, Tryz.ntmps34
    go_wp2_with fail
    refine hk.mono ?_
    rintro e w1 ⟨rfl, g1⟩
    have h1 := h.g0 g1
    obtain ⟨⟨c0, c1, c2, c3⟩, f0, f1, f2, f3⟩ := h1.facts
    have hb1 := h1.lt
    have hnb : w1.heap.size ≠ pb := by omega
    obtain ⟨h2, g2⟩ := h1.step he hl2
    go_wp2_with fail
    refine (hcl _).mono ?_
    rintro e w3 ⟨rfl, g3⟩
    go_wp2_with fail
    go_ret
    exact ⟨rfl, (h2.g0 (Gr.alloc _ _ _)).g0 g3, (((g1.any _).trans g2).trans (Gr.alloc _ _ _)).trans (g3.any _)⟩
  · rw [nameV, if_neg hs]
    generalize pkT x.ts p = t at hk hs
    have q : (t.k != k) = true := by simp [hs]
    clear hs
    go_enter Tryz.func34, Tryz.ntmps34
    go_wp2_with fail
    refine hk.mono ?_
    rintro e w1 ⟨rfl, g1⟩
    have h1 := (h.g0 g1).g0 (Gr.alloc w1 (.cells #[.int .i64 t.k, .string t.s, .int .i64 t.n, .slice va vn vc, .int .i64 t.o] 27) _)
    go_wp2_with fail
    refine (fail_c h1 160 (by decide)).mono ?_
    rintro e w2 ⟨rfl, h2, g2⟩
    go_wp2_with fail
    go_ret
    exact ⟨rfl, h2, ((g1.any _).trans (Gr.alloc _ _ _)).trans g2⟩
end Go.Proofs.YtggkjkkbkpnkiaaGreatDoor


