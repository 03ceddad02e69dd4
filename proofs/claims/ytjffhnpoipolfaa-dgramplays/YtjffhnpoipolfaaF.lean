/-
  come: a datagram comes into its box.
-/
import Derived.Test.YtjffhnpoipolfaaE
set_option linter.unusedVariables false
set_option linter.unusedSimpArgs false
namespace Go.Proofs.Ytjffhnpoipolfaa
open Go.RowKit Go.Maps Go.WideMaps
variable {S S' : Nat → Prop} {W W1 W' : World}

set_option maxHeartbeats 800000 in
theorem come_full (W : World) (s : Ns) (h : Nt W s) (hz : s.z ≤ 1000000000) (f t : Int) (n : Nat) (bv : Value) (sp : Bool) (hl : (s.q (some t)).length = 64) (ht1 : 1 ≤ t) (ht2 : t ≤ 64) :
    Calls Try.prog 36 #[pt s.p, dv f t n bv sp] W fun e w' => e = .returned (.tuple #[]) ∧ Nx W s w' { s with lost := s.lost + 1, z := s.z + 1 } := by
  obtain ⟨c0, c1, c2, c3, c4, f0, f1, f2, f3, f4⟩ := five h.blk
  obtain ⟨a, cap, e, _, _⟩ := ownsRow_sv (h.row (some t))
  have hlook := fun W' (g : G0 W W') => (h.map.of_block (g.block _ (h.lt (.inr (.inl rfl))) (fun e => e))).look t (wf64 (by omega) (by omega))
  rw [e, hl] at hlook
  have hlk := hlook _ ((Gr.alloc W (.cells #[.int .i64 f, .int .i64 t, .int .u64 (n : Int), bv, .bool sp] 39) _).trans (Gr.drew _ _))
  have hsm := h.sm
  have hlt := lt_of_blk h.blk
  have hlo : (s.lost : Int) ≤ 64000000000 := by omega
  have fin := Lib.hid (fun W1 g v hv => lost_more h W1 g v hv)
  clear hsm hz hlook
  go_enter Try.func36, Try.ntmps36
  go_wp2_with fail
  go_region
  go_wp2
  refine bodyPost_ret (v := .tuple #[]) (by simp [results, Try.results36, go_sem]) rfl ⟨rfl, ?_⟩
  exact (fin.out W (Gr.refl _ _) _ (by push_cast; rfl)).g0 ((Gr.alloc _ _ _).trans (Gr.drew _ _))
theorem map_blk {s : Ns} (h : Nt W s) {i : Option Int} {sv' : Value} (hloc : Loc (s.R i) W sv' W') : Mp W' s.mb s.z s.R :=
  h.map.of_block (by obtain ⟨es, c, e⟩ := h.map.blk; exact hloc.gr.block _ (lt_of_blk e) (fun e2 => by obtain ⟨cur, hc⟩ := h.rowb e2; rw [e] at hc; cases hc))
theorem size_alloc (W : World) (o : Obj) : (W.alloc o).heap.size = W.heap.size + 1 := by simp
theorem come_done {s : Ns} (h : Nt W s) {w1 w2 w3 : World} {d : Dg} {sv' : Value} (g1 : G0 W w1) (hb : W.heap[d.bk]? = some (.cells (bs d.by').toArray 5 (0, 0))) (hfresh : ∀ j, ∀ e ∈ s.q j, e.bk ≠ d.bk)
    (hrow : w2.ownsRow 0 39 5 sv' ((s.q (some d.t)).length + 1) (flat (s.q (some d.t)) ++ d.cells)) (hloc : Loc (s.R (some d.t)) w1 sv' w2) (hmap : Mp w3 s.mb (s.z + 1) (upd s.R (some d.t) sv')) (g3 : Gr (fun i => i = s.mb) w2 w3) (hd : DgOk s.sent d) (hl : (s.q (some d.t)).length < 64) :
    Nz (fun k => k = d.bk) W s w3 { s with z := s.z + 1, R := upd s.R (some d.t) sv', q := upd s.q (some d.t) (s.q (some d.t) ++ [d]) } := by
  have h1 := h.g0 g1
  have hsz := g1.size
  have hsz2 := hloc.gr.size
  have hsm := h.sm
  obtain ⟨es, c, hmb⟩ := h1.map.blk
  have hne : ∀ {k : Nat} {o : Obj}, w1.heap[k]? = some o → (∀ cur, o ≠ .cells cur 39 (0, 0)) → w2.heap[k]? = w1.heap[k]? := fun {k o} hk ho =>
    hloc.gr.block k (lt_of_blk hk) (fun e => by obtain ⟨cur, hc⟩ := h1.rowb e; rw [hc] at hk; cases hk; exact ho _ rfl)
  have hne3 : ∀ {k : Nat} {o : Obj}, w1.heap[k]? = some o → (∀ cur, o ≠ .cells cur 39 (0, 0)) → k ≠ s.mb → w3.heap[k]? = w1.heap[k]? := fun {k o} hk ho hm =>
    (g3.block k (by have := lt_of_blk hk; omega) hm).trans (hne hk ho)
  have hp3 : w3.heap[s.p]? = some (nblk s) := (hne3 h1.blk (fun cur e => by cases e) (fun e => by rw [← e, h1.blk] at hmb; cases hmb)).trans h1.blk
  have hb1 : w1.heap[d.bk]? = some (.cells (bs d.by').toArray 5 (0, 0)) := (g1.block _ (lt_of_blk hb) (fun e => e)).trans hb
  have hg : Gr (Fq s (some d.t)) W w3 :=
    ((g1.mono (fun _ _ e => e.elim)).trans' hloc.gr (fun i _ e => .inr (.inr (.inl e)))).trans' g3 (fun i _ e => .inr (.inl e))
  have hm2 : w2.heap[s.mb]? = some (.map es c) := (hne hmb (fun cur e => by cases e)).trans hmb
  refine h.queue _ (some d.t) hg s.sent s.lost (s.z + 1) sv' (s.q (some d.t) ++ [d]) ?_ hmap ?_ ?_ (nodup_snoc h _ d (hfresh _)) ?_ ?_ ?_ ?_ (by simp; omega) (Nat.le_refl _) (Nat.le_refl _) (by omega) (by omega) (by omega)
  · rw [upd_other _ _ (by simp)]; exact hp3
  · rw [flat_append, List.length_append]
    refine ownsRow_of_block (by simpa using hrow) (fun k e => ?_)
    refine g3.block k (hrow.lt k e).2 (fun e2 => ?_)
    subst e2
    rcases hrow.2 with ⟨e1, _⟩ | ⟨g', cap, cur, e1, _, h3, _⟩
    · rw [e1] at e; cases e
    · rw [e1] at e; cases e; rw [hm2] at h3; cases h3
  · intro k e
    exact (hloc.at_ k e).imp id (fun e => by omega)
  · intro e he
    rcases List.mem_append.1 he with he | he
    · exact .inl ⟨e, he, rfl⟩
    · rw [List.mem_singleton] at he; subst he; exact .inr ⟨hfresh, .inr rfl⟩
  · intro e he
    rcases List.mem_append.1 he with he | he
    · have hc := h1.byt _ e he
      exact (hne3 hc (fun cur e => by simp at e) (fun e2 => by rw [e2, hmb] at hc; cases hc)).trans hc
    · rw [List.mem_singleton] at he; subst he
      exact (hne3 hb1 (fun cur e => by simp at e) (fun e2 => by rw [e2, hmb] at hb1; cases hb1)).trans hb1
  · intro e he
    rcases List.mem_append.1 he with he | he
    · exact h.ok _ e he
    · rw [List.mem_singleton] at he; subst he; exact hd
  · intro k hk e he
    injection hk with hk
    rcases List.mem_append.1 he with he | he
    · rw [← hk]; exact h.bx _ e he
    · rw [List.mem_singleton] at he; subst he; exact hk
set_option maxRecDepth 20000 in
set_option maxHeartbeats 800000 in
theorem come_c (W : World) (s : Ns) (h : Nt W s) (hz : s.z ≤ 1000000000) (d : Dg) (hb : W.heap[d.bk]? = some (.cells (bs d.by').toArray 5 (0, 0))) (hfresh : ∀ j, ∀ e ∈ s.q j, e.bk ≠ d.bk) (hd : DgOk s.sent d) (hl : ((s.q (some d.t)).length : Int) < 64) :
    Calls Try.prog 36 #[pt s.p, d.val] W fun e w' => e = .returned (.tuple #[]) ∧ ∃ sv', Nz (fun k => k = d.bk) W s w' { s with z := s.z + 1, R := upd s.R (some d.t) sv', q := upd s.q (some d.t) (s.q (some d.t) ++ [d]) } := by
  obtain ⟨f, t, n, bk, l, sp⟩ := d
  obtain ⟨c0, c1, c2, c3, c4, f0, f1, f2, f3, f4⟩ := five h.blk
  obtain ⟨a, cap, e, _, _⟩ := ownsRow_sv (h.row (some t))
  have hrow0 := h.row (some t)
  have hwf : (Lit.int .i64 t).wf = true := by obtain ⟨_, _, _, _, _, _, h1, h2⟩ := hd; exact wf64 (by simp only at h1 h2; omega) (by simp only at h1 h2; omega)
  have hlook := fun W' (g : G0 W W') => (h.map.of_block (g.block _ (h.lt (.inr (.inl rfl))) (fun e => e))).look t hwf
  rw [e] at hlook hrow0
  have hlt := lt_of_blk h.blk
  have fin := Lib.hid (fun w1 w2 w3 sv' g1 hrow hloc hmap g3 hl => come_done h (w1 := w1) (w2 := w2) (w3 := w3) (d := ⟨f, t, n, bk, l, sp⟩) (sv' := sv') g1 hb hfresh hrow hloc hmap g3 hd hl)
  have hl0 := Lib.hid hl
  obtain ⟨m, hm⟩ : ∃ m, (s.q (some t)).length = m := ⟨_, rfl⟩
  rw [hm] at hrow0 hlook
  simp only [hm] at hl
  have hlk := hlook _ ((Gr.alloc W (.cells #[.int .i64 f, .int .i64 t, .int .u64 (n : Int), .slice (some ⟨bk, 0, none⟩) l.length l.length, .bool sp] 39) _).trans (Gr.drew _ _))
  have Hm := Lib.hid hm
  have Hr := Lib.hid hrow0
  have Hnt := Lib.hid h
  have Hz := Lib.hid hz
  have Hwf := Lib.hid hwf
  clear hm hz hd hrow0 hlook hwf
  go_enter Try.func36, Try.ntmps36
  go_wp2_with fail
  go_region
  go_wp2_with fail
  obtain ⟨Y, hY⟩ : ∃ Y, Y = Obj.cells #[.int .i64 f, .int .i64 t, .int .u64 (n : Int), .slice (some ⟨bk, 0, none⟩) l.length l.length, .bool sp] 39 := ⟨_, rfl⟩
  have X1 : Hid (G0 W ((W.alloc Y).alloc Y).drew.drew) := Lib.hid ((((Gr.alloc _ _ _).trans (Gr.alloc _ _ _)).trans (Gr.drew _ _)).trans (Gr.drew _ _))
  have X2 : Hid (((W.alloc Y).alloc Y).drew.drew.heap[W.heap.size + 1]? = some Y) := Lib.hid (by have := heap_alloc_new (W.alloc Y) Y; rw [size_alloc] at this; exact this)
  have X3 : Hid (((W.alloc Y).alloc Y).drew.drew.heap[W.heap.size]? = some Y) := Lib.hid (by exact (heap_alloc_old (W.alloc Y) Y (show W.heap.size < (W.alloc Y).heap.size by rw [size_alloc]; omega)).trans (heap_alloc_new W Y))
  rw [hY] at X1 X2 X3
  clear hY
  go_region_law (first
    | (refine step_dg rfl _ _ rfl m (W.heap.size + 1) (.slice a m cap) (flat (s.q (some t))) ⟨f, t, n, bk, l, sp⟩ rfl rfl (ownsRow_g0 Hr.out X1.out) X2.out (by omega) ?_; intro sv' w2 hrow2 hloc2; obtain ⟨a2, cap2, rfl, _, _⟩ := ownsRow_sv hrow2; have Hrow2 := Lib.hid hrow2; have Hloc2 := Lib.hid hloc2; have Hb2 := (hloc2.gr.block W.heap.size (lt_of_blk X3.out) (fun e2 => by have := (Hr.out.lt _ e2).2; omega)).trans X3.out; obtain ⟨d0, d1, d2, d3, d4, _, _, _, _, _⟩ := five Hb2; have Hp2 := row_blk (Hnt.out.g0 X1.out) (i := some t) (by rw [e, Hm.out]; exact hloc2); obtain ⟨c02, c12, c22, c32, c42, f02, f12, f22, f32, f42⟩ := five Hp2; have Hm2 := map_blk (Hnt.out.g0 X1.out) (i := some t) (by rw [e, Hm.out]; exact hloc2); obtain ⟨w3, hup, hmp3, hg3⟩ := Hm2.put t Hwf.out Hz.out (.slice a2 (m + 1) cap2); have Hmp3 := Lib.hid hmp3; have Hg3 := Lib.hid hg3; clear hrow2 hloc2 Hm2 hmp3 hg3))
  all_goals
    go_wp2
    refine bodyPost_end (v := .tuple #[]) (by simp [results, Try.results36, go_sem]) rfl ⟨rfl, .slice a2 (m + 1) cap2, ?_⟩
    exact fin.out _ w2 w3 (.slice a2 (m + 1) cap2) X1.out (by rw [Hm.out]; exact Hrow2.out) (by rw [e, Hm.out]; exact Hloc2.out) Hmp3.out Hg3.out (by have h9 : ((s.q (some t)).length : Int) < 64 := hl0.out; show (s.q (some t)).length < 64; omega)
end Go.Proofs.Ytjffhnpoipolfaa
