/-
  The map of boxes; one more datagram in flight; one more in a box.
-/
import Derived.Test.YtjffhnpoipolfaaD
import Derived.Shelf.Abstract
set_option linter.unusedVariables false
set_option linter.unusedSimpArgs false
namespace Go.Proofs.Ytjffhnpoipolfaa
open Go.RowKit Go.Maps Go.WideMaps
variable {S S' : Nat → Prop} {W W1 W' : World}

theorem law3 : Keyed Try.prog 3 := int_keyed Try.underlying3
theorem zero30 (w : World) : (zeroValue 30).run Try.prog w = .ok nl w := by kernel_rfl
theorem Mp.congr {mb z : Nat} {R R' : Option Int → Value} (h : Mp W mb z R) (hR : ∀ k, R' (some k) = R (some k)) : Mp W mb z R' := by
  obtain ⟨D, h1, h2⟩ := h; exact ⟨D, h1, fun k hk => by rw [hR]; exact h2 k hk⟩
theorem Mp.look {mb z : Nat} {R : Option Int → Value} (h : Mp W mb z R) (k : Int) (hk : (Lit.int .i64 k).wf = true) : (Instr.lookup 58 (.map (some mb)) (.int .i64 k) false).run Try.prog W = .ok (R (some k)) W := by
  obtain ⟨D, h1, h2⟩ := h
  obtain ⟨v, ps, hr, hv⟩ := h1.lookup law3 Try.underlying58 (zero30 W) (zd := .held nl) (zp := []) rfl (keyOf_int_mk Try.underlying3 hk)
  rw [h2 k hk] at hv
  simp only [RR, Option.some.injEq, Prod.mk.injEq, DataW.held.injEq] at hv
  rw [hr, hv.1]
theorem Mp.put {mb z : Nat} {R : Option Int → Value} (h : Mp W mb z R) (k : Int) (hk : (Lit.int .i64 k).wf = true) (hz : z ≤ 1000000000) (v : Value) :
    ∃ w', (Instr.mapUpdate 58 (.map (some mb)) (.int .i64 k) v).run Try.prog W = .ok () w' ∧ Mp w' mb (z + 1) (upd R (some k) v) ∧ Gr (fun i => i = mb) W w' := by
  obtain ⟨D, h1, h2⟩ := h
  obtain ⟨w', hr, h3, h4⟩ := h1.update law3 Try.underlying58 (by unfold maxLen; omega) (keyOf_int_mk Try.underlying3 hk) (val := v) (d := .held v) (ps := []) rfl
  refine ⟨w', hr, ⟨_, h3, fun k' hk' => ?_⟩, Gr.of_grown h4 (fun i e => by cases e; rfl)⟩
  by_cases e : k' = k
  · subst e; rw [atKey_put_same h1.isMap (show WideAt.IsKeyLit (.int .i64 k') from trivial), upd_same]
  · rw [atKey_put_other (fun e' => e (by injection e')), upd_other _ _ (fun e' => e (by injection e')), h2 k' hk']
theorem Mp.del {mb z : Nat} {R : Option Int → Value} (h : Mp W mb z R) (k : Int) (hk : (Lit.int .i64 k).wf = true) (ty : TypeId) :
    ∃ w', (Builtin.delete_ #[58, 3] ty #[.map (some mb), .int .i64 k]).run Try.prog W = .ok (.tuple #[]) w' ∧ Mp w' mb z (upd R (some k) nl) ∧ Gr (fun i => i = mb) W w' := by
  obtain ⟨D, h1, h2⟩ := h
  obtain ⟨w', hr, h3, h4⟩ := h1.drop law3 Try.underlying58 (keyOf_int_mk Try.underlying3 hk) ty
  refine ⟨w', hr, ⟨_, h3, fun k' hk' => ?_⟩, Gr.of_grown h4.grown (fun i e => by cases e; rfl)⟩
  by_cases e : k' = k
  · subst e; rw [atKey_del_same, upd_same]
  · rw [atKey_del_other (fun e' => e (by injection e')), upd_other _ _ (fun e' => e (by injection e')), h2 k' hk']
theorem wf64 {k : Int} (h1 : -9223372036854775808 ≤ k) (h2 : k ≤ 9223372036854775807) : (Lit.int .i64 k).wf = true := WalkArith.wf_i64 (by omega)

/-- Where a row stands behind an append. -/
structure Loc (v : Value) (W : World) (v' : Value) (W' : World) : Prop where
  gr : Gr (fun k => v.ownBlock = some k) W W'
  at_ : ∀ k, v'.ownBlock = some k → v.ownBlock = some k ∨ W.heap.size ≤ k
theorem app_dg (w : World) (ty : TypeId) (p g : Nat) (v : Value) (xs : List Value) (d : Dg) (hv : w.ownsRow 0 39 5 v p xs) (hs : w.heap[g]? = some (.cells #[.int .i64 d.f, .int .i64 d.t, .int .u64 (d.n : Int), d.bv, .bool d.sp] 39 (0, 0))) (hlen : p ≤ 1024) :
    ∃ v' w', (Builtin.append_ #[30, 30] ty #[v, .slice (some ⟨g, 0, none⟩) 1 1]).run Try.prog w = .ok v' w' ∧ w'.ownsRow 0 39 5 v' (p + 1) (xs ++ d.cells) ∧ Loc v w v' w' := by
  obtain ⟨i0, hi, hz0, hz1, hz2⟩ := info_parts info39
  obtain ⟨v', w', hr, hown, hgrow, _, hloc⟩ := run_append_own_at (P := Try.prog) w 0 30 ty 39 i0 (dv 0 0 0 nl false) 5 56 Try.underlying30 hi hz0 hz1 hz2 rfl (by decide) v p xs hv ⟨g, 0, none⟩ 1 1 d.cells rfl
    (fun j u hu => by
      rw [Addr.add_lit, Nat.zero_add]
      simp only [World.cell?, hs]
      simpa using hu) (fun u hu => by simp only [Dg.cells, List.mem_cons, List.not_mem_nil, or_false] at hu; rcases hu with rfl | rfl | rfl | rfl | rfl <;> rfl) (by unfold maxLen; omega) (by omega) (Nat.zero_le _)
  refine ⟨v', w', hr, hown, Gr.of_grown hgrow (fun k e => e), fun k e => ?_⟩
  rcases hloc with e1 | e1
  · exact .inl (e1 ▸ e)
  · rw [e1] at e; cases e; exact .inr (Nat.le_refl _)
section
variable {w : World} {ops : Array Oper} {o : Oper} {a : Act} {Q : Exit → Act → World → Prop} {K : Act → World → Prop} {E : Prop}
theorem step_dg (hgd : o.guard = none) (x y : Operand)
    (ho : o.op = .call { callee := .builtin .append, args := #[x, y], argTypes := #[30, 30] }) (p g : Nat) (v : Value) (xs : List Value) (d : Dg) (hx : a.eval x = v) (hy : a.eval y = .slice (some ⟨g, 0, none⟩) 1 1)
    (hv : w.ownsRow 0 39 5 v p xs) (hs : w.heap[g]? = some (.cells #[.int .i64 d.f, .int .i64 d.t, .int .u64 (d.n : Int), d.bv, .bool d.sp] 39 (0, 0))) (hlen : p ≤ 1024)
    (h : ∀ v' w', w'.ownsRow 0 39 5 v' (p + 1) (xs ++ d.cells) → Loc v w v' w' → K (a.put o.dst v') w') :
    if Region.wanted o (yielded ops a.tmps) = true then Oper.wp Try.prog o a w K Q else E := by
  have hw : Region.wanted o (yielded ops a.tmps) = true := by simp [Region.wanted, hgd]
  rw [if_pos hw]
  obtain ⟨v', w', hr, h1, h2⟩ := app_dg w o.type p g v xs d hv hs hlen
  unfold Oper.wp execOp
  simp only [ho, resolve, invoke, builtin, Sem.run_bind, Sem.run_pure, Result.andThen_ok, List.map_toArray, List.map_cons, List.map_nil, hx, hy, hr]
  exact h v' w' h1 h2
/-- A callee, as one step of a region that draws. -/
theorem step_fn {f t : Nat} (x : Operand) (u : Value) {M : Ending → World → Prop} (hgd : o.guard = none) (ho : o.op = .call { callee := .value (.func f), args := #[x], argTypes := #[t] }) (hx : a.eval x = u) (eg : ∀ args w, (callFunc f args).run Try.prog w = .ok (.enter f args) w)
    (hc : Calls Try.prog f #[u] w M) (h : ∀ e w', M e w' → match e with | .returned v => K (a.put o.dst v) w' | .panicked ch => Q (.panic ch) a w' | .outgrown => LetsOut Q) :
    if Region.wanted o (yielded ops a.tmps) = true then Oper.wp Try.prog o a w K Q else E := by
  have hw : Region.wanted o (yielded ops a.tmps) = true := by simp [Region.wanted, hgd]
  rw [if_pos hw]
  unfold Oper.wp execOp
  have hf : a.eval (.func f) = .func (.func f) #[] #[] := rfl
  simp only [ho, resolve, invoke, Deferred.ofValue, Sem.run_bind, Sem.run_pure, Result.andThen_ok, List.map_toArray, List.map_cons, List.map_nil, hx, hf, Array.append_empty, eg]
  refine (show Calls Try.prog f #[u] w _ from hc.mono (fun e w' hm => by cases e <;> exact h _ w' hm))
theorem step_an (x : Operand) (f t : Int) (n : Nat) (bv : Value) (l : List Nat) (sp : Bool) (hgd : o.guard = none) (ho : o.op = .call { callee := .value (.func 31), args := #[x], argTypes := #[39] }) (hx : a.eval x = dv f t n bv sp) (hs : Sl w bv l) (hl : l.length ≤ 1212)
    (h : ∀ bk w', w'.heap[bk]? = some (.cells (bs l).toArray 5 (0, 0)) → w.heap.size ≤ bk → G0 w w' → K (a.put o.dst (dv f t n (.slice (some ⟨bk, 0, none⟩) l.length l.length) sp)) w') :
    if Region.wanted o (yielded ops a.tmps) = true then Oper.wp Try.prog o a w K Q else E :=
  step_fn x _ hgd ho hx (enters_of Try.func31 (by kernel_rfl) rfl) (another_c w f t n bv l sp hs hl) (fun e w' hm => by obtain ⟨bk, rfl, h1, h2, h3⟩ := hm; exact h bk w' h1 h2 h3)
end

/-- A net's block. -/
abbrev nblk (s : Ns) : Obj := .cells #[.int .i64 s.nodes, .int .u64 (s.sent : Int), .int .i64 (s.lost : Int), s.R none, .map (some s.mb)] 60 (0, 0)
theorem Nx.g0 {s s' : Ns} (h : Nx W s W1 s') (g : G0 W1 W') : Nx W s W' s' := ⟨h.nt.g0 g, h.p, h.nodes, h.z, h.gr.trans' g (fun _ _ e => e.elim), h.fp⟩
theorem lost_more {s : Ns} (h : Nt W s) (W1 : World) (g : G0 W W1) (v : Int) (hv : v = ((s.lost + 1 : Nat) : Int)) : Nx W s (W1.setCell ⟨s.p, 2, none⟩ (.int .i64 v)) { s with lost := s.lost + 1, z := s.z + 1 } := by
  subst hv
  have h1 := h.g0 g
  have hb := heap_setCell_same W1 s.p 2 _ 60 (.int .i64 ((s.lost + 1 : Nat) : Int)) h1.blk
  have g2 : Gr (fun k => k = s.p) W1 (W1.setCell ⟨s.p, 2, none⟩ (.int .i64 ((s.lost + 1 : Nat) : Int))) := Gr.set _ _ _ rfl
  have hsm := h.sm
  refine ⟨{ blk := hb, map := ?_, row := ?_, byt := ?_, inj := h.inj, nod := h.nod, uni := h.uni, wl := h.wl, bl := h.bl, ok := h.ok, bx := h.bx, nd := h.nd, sm := ⟨by show s.sent ≤ s.z + 1; omega, by show s.lost + 1 ≤ 64 * (s.z + 1); omega⟩ }, rfl, rfl, by show s.z + 1 ≤ s.z + 4; omega, ?_, fun k hk => .inl hk⟩
  · obtain ⟨es, c, e⟩ := h1.map.blk
    exact (h1.map.of_block (g2.block _ (lt_of_blk e) (fun e2 => by rw [e2, h1.blk] at e; cases e))).mono (by show s.z ≤ s.z + 1; omega)
  · intro i
    refine ownsRow_of_block (h1.row i) (fun k e => ?_)
    obtain ⟨cur, hc⟩ := h1.rowb e
    exact g2.block _ (lt_of_blk hc) (fun e2 => by rw [e2, h1.blk] at hc; simp at hc)
  · intro i d hd
    have hc := h1.byt i d hd
    exact (g2.block _ (lt_of_blk hc) (fun e2 => by rw [e2, h1.blk] at hc; simp at hc)).trans hc
  · exact (g.mono (fun _ _ e => e.elim)).trans' g2 (fun i _ e => .inl e)
set_option maxHeartbeats 800000 in
theorem start_full (W : World) (s : Ns) (h : Nt W s) (hz : s.z ≤ 1000000000) (f t : Int) (n : Nat) (bv : Value) (sp : Bool) (hl : (s.q none).length = 1024) :
    Calls Try.prog 33 #[pt s.p, dv f t n bv sp] W fun e w' => e = .returned (.tuple #[]) ∧ Nx W s w' { s with lost := s.lost + 1, z := s.z + 1 } := by
  obtain ⟨c0, c1, c2, c3, c4, f0, f1, f2, f3, f4⟩ := five h.blk
  obtain ⟨a, cap, e, _, _⟩ := ownsRow_sv (h.row none)
  rw [e, hl] at c3
  have hsm := h.sm
  have hlt := lt_of_blk h.blk
  have hlo : (s.lost : Int) ≤ 64000000000 := by omega
  have fin := Lib.hid (fun W1 g v hv => lost_more h W1 g v hv)
  clear hsm hz
  go_enter Try.func33, Try.ntmps33
  go_wp2
  refine bodyPost_ret (v := .tuple #[]) (by simp [results, Try.results33, go_sem]) rfl ⟨rfl, ?_⟩
  exact (fin.out W (Gr.refl _ _) _ (by push_cast; rfl)).g0 (Gr.alloc _ _ _)
/-- One more at a queue's end. -/
theorem nodup_snoc {s : Ns} (h : Nt W s) (i : Option Int) (d : Dg) (hd : ∀ e ∈ s.q i, e.bk ≠ d.bk) : ((s.q i ++ [d]).map Dg.bk).Nodup := by
  rw [List.map_append, List.nodup_append]
  refine ⟨h.nod i, by simp, fun x hx y hy => ?_⟩
  simp only [List.map_cons, List.map_nil, List.mem_singleton] at hy
  obtain ⟨e, he, rfl⟩ := List.mem_map.1 hx
  subst hy
  exact hd e he
theorem ownsRow_g0 {sv : Value} {n : Nat} {xs : List Value} (h : W.ownsRow 0 39 5 sv n xs) (g : G0 W W') : W'.ownsRow 0 39 5 sv n xs :=
  ownsRow_of_block h (fun k e => g.block k (h.lt k e).2 (fun e => e))
theorem row_blk {s : Ns} (h : Nt W s) {i : Option Int} {sv' : Value} (hloc : Loc (s.R i) W sv' W') : W'.heap[s.p]? = some (nblk s) :=
  (hloc.gr.block _ (lt_of_blk h.blk) (fun e => by obtain ⟨cur, hc⟩ := h.rowb e; rw [h.blk] at hc; simp at hc)).trans h.blk
theorem start_done {s : Ns} (h : Nt W s) {w1 w2 : World} {d : Dg} {sv' : Value} {X : Nat} (g1 : G0 W w1) (hX : W.heap.size ≤ X) (hb : w1.heap[d.bk]? = some (.cells (bs d.by').toArray 5 (0, 0))) (hbk : W.heap.size ≤ d.bk)
    (hrow : w2.ownsRow 0 39 5 sv' ((s.q none).length + 1) (flat (s.q none) ++ d.cells)) (hloc : Loc (s.R none) w1 sv' w2) (hd : DgOk s.sent d) (hl : (s.q none).length < 1024) :
    Nx W s (w2.setCell ⟨s.p, 3, none⟩ sv') { s with z := s.z + 1, R := upd s.R none sv', q := upd s.q none (s.q none ++ [d]) } := by
  have h1 := h.g0 g1
  have hsz := g1.size
  have hsm := h.sm
  have hne : ∀ {k : Nat} {o : Obj}, w1.heap[k]? = some o → (∀ cur, o ≠ .cells cur 39 (0, 0)) → w2.heap[k]? = w1.heap[k]? := fun {k o} hk ho =>
    hloc.gr.block k (lt_of_blk hk) (fun e => by obtain ⟨cur, hc⟩ := h1.rowb e; rw [hc] at hk; cases hk; exact ho _ rfl)
  have hp2 : w2.heap[s.p]? = some (nblk s) := (hne h1.blk (fun cur e => by cases e)).trans h1.blk
  have hg : Gr (Fq s none) W (w2.setCell ⟨s.p, 3, none⟩ sv') :=
    ((g1.mono (fun _ _ e => e.elim)).trans' hloc.gr (fun i _ e => .inr (.inr (.inl e)))).cell _ _ (.inl (.inl rfl))
  have hrp : ∀ k, sv'.ownBlock = some k → k ≠ s.p := by
    intro k e e2
    subst e2
    rcases hrow.2 with ⟨e1, _⟩ | ⟨g', cap, cur, e1, _, h3, _⟩
    · rw [e1] at e; cases e
    · rw [e1] at e; cases e; rw [hp2] at h3; simp at h3
  have hbp : d.bk ≠ s.p := fun e => by have := h.lt (k := s.p) (.inl rfl); omega
  obtain ⟨es, c, hmb⟩ := h1.map.blk
  have hmp : s.mb ≠ s.p := fun e => by rw [e, h1.blk] at hmb; cases hmb
  have hfresh : ∀ j, ∀ e ∈ s.q j, e.bk ≠ d.bk := fun j e he e2 => by have := h.lt (k := e.bk) (.inr (.inr (.inr ⟨j, e, he, rfl⟩))); omega
  refine h.queue _ none hg s.sent s.lost (s.z + 1) sv' (s.q none ++ [d]) ?_ ?_ ?_ ?_ (nodup_snoc h none d (hfresh none)) ?_ ?_ ?_ (fun k e => by cases e) (by simp; omega) (Nat.le_refl _) (Nat.le_refl _) (by omega) (by omega) (by omega)
  · rw [upd_same]; exact heap_setCell_same w2 s.p 3 _ 60 _ hp2
  · refine ((h1.map.of_block (W' := w2.setCell ⟨s.p, 3, none⟩ sv') ((heap_setCell_other _ _ _ _ hmp).trans (hne hmb (fun cur e => by cases e)))).mono (by omega)).congr (fun k => ?_)
    rw [upd_other _ _ (by simp)]
  · rw [flat_append, List.length_append]
    exact ownsRow_of_block (W' := w2.setCell ⟨s.p, 3, none⟩ sv') (by simpa using hrow) (fun k e => heap_setCell_other _ _ _ _ (hrp k e))
  · intro k e
    exact (hloc.at_ k e).imp id (fun e => by omega)
  · intro e he
    rcases List.mem_append.1 he with he | he
    · exact .inl ⟨e, he, rfl⟩
    · rw [List.mem_singleton] at he; subst he; exact .inr ⟨hfresh, .inl hbk⟩
  · intro e he
    rcases List.mem_append.1 he with he | he
    · have hc := h1.byt none e he
      exact (heap_setCell_other _ _ _ _ (fun e2 => by rw [e2, h1.blk] at hc; simp at hc)).trans ((hne hc (fun cur e => by simp at e)).trans hc)
    · rw [List.mem_singleton] at he; subst he
      exact (heap_setCell_other _ _ _ _ hbp).trans ((hne hb (fun cur e => by simp at e)).trans hb)
  · intro e he
    rcases List.mem_append.1 he with he | he
    · exact h.ok none e he
    · rw [List.mem_singleton] at he; subst he; exact hd
set_option maxRecDepth 20000 in
set_option maxHeartbeats 800000 in
theorem start_c (W : World) (s : Ns) (h : Nt W s) (hz : s.z ≤ 1000000000) (f t : Int) (n : Nat) (bv : Value) (l : List Nat) (sp : Bool) (hs : Sl W bv l) (hd : ∀ bk, DgOk s.sent ⟨f, t, n, bk, l, sp⟩) (hl : ((s.q none).length : Int) < 1024) :
    Calls Try.prog 33 #[pt s.p, dv f t n bv sp] W fun e w' => e = .returned (.tuple #[]) ∧ ∃ bk sv', Nx W s w' { s with z := s.z + 1, R := upd s.R none sv', q := upd s.q none (s.q none ++ [⟨f, t, n, bk, l, sp⟩]) } := by
  obtain ⟨c0, c1, c2, c3, c4, f0, f1, f2, f3, f4⟩ := five h.blk
  obtain ⟨a, cap, e, _, _⟩ := ownsRow_sv (h.row none)
  have hrow0 := h.row none
  rw [e] at c3 hrow0
  have hlt := lt_of_blk h.blk
  have fin := Lib.hid (fun w1 w2 d sv' X g1 hX hb hbk hrow hloc hd hl => start_done h (w1 := w1) (w2 := w2) (d := d) (sv' := sv') (X := X) g1 hX hb hbk hrow hloc hd hl)
  have hl0 := Lib.hid hl
  rw [e] at fin
  obtain ⟨m, hm⟩ : ∃ m, (s.q none).length = m := ⟨_, rfl⟩
  rw [hm] at c3 hrow0 hl
  have Hm := Lib.hid hm
  have Hd := Lib.hid hd
  have Hr := Lib.hid hrow0
  have Hnt := Lib.hid h
  clear hm hz hd hrow0
  go_enter Try.func33, Try.ntmps33
  go_wp2_with fail
  go_region_law (first
    | (refine step_an _ f t n bv l sp rfl rfl rfl (hs.g0 ((Gr.alloc W _ _).trans (Gr.drew _ _))) (Hd.out 0).1 ?_; intro bk w1 hbk1 hbk2 hg1; have hG1 := Lib.hid ((Gr.alloc W _ _).trans ((Gr.drew _ _).trans hg1)); obtain ⟨c01, c11, c21, c31, c41, f01, f11, f21, f31, f41⟩ := five (Hnt.out.g0 hG1.out).blk; rw [e, Hm.out] at c31; have hp1 : s.p < w1.heap.size := lt_of_blk (Hnt.out.g0 hG1.out).blk; have row1 := Lib.hid (ownsRow_g0 Hr.out hG1.out); have Hg1 := hG1; clear hg1 hG1)
    | (refine step_dg rfl _ _ rfl m w1.heap.size (.slice a m cap) (flat (s.q none)) ⟨f, t, n, bk, l, sp⟩ rfl rfl (row1.out.alloc _) (heap_alloc_new w1 _) (by omega) ?_; intro sv' w2 hrow2 hloc2; obtain ⟨a2, cap2, rfl, _, _⟩ := ownsRow_sv hrow2; have Hrow2 := Lib.hid hrow2; have Hloc2 := Lib.hid hloc2; have Hp2 := row_blk (Hnt.out.g0 (Hg1.out.trans (Gr.alloc w1 _ _))) (i := none) (by rw [e, Hm.out]; exact hloc2); obtain ⟨c02, c12, c22, c32, c42, f02, f12, f22, f32, f42⟩ := five Hp2; clear hrow2 hloc2))
  all_goals
    go_wp2
    refine bodyPost_end (v := .tuple #[]) (by simp [results, Try.results33, go_sem]) rfl ⟨rfl, bk, .slice a2 (m + 1) cap2, ?_⟩
    exact fin.out _ w2 ⟨f, t, n, bk, l, sp⟩ (.slice a2 (m + 1) cap2) W.heap.size (Hg1.out.trans (Gr.alloc w1 _ _)) (Nat.le_refl _) ((heap_alloc_old _ _ (lt_of_blk hbk1)).trans hbk1) (by show W.heap.size ≤ bk; have : W.heap.size + 1 ≤ bk := (by simpa using hbk2); omega) (by rw [Hm.out]; exact Hrow2.out) (by rw [Hm.out]; exact Hloc2.out) (Hd.out bk) (by have := hl0.out; omega)
end Go.Proofs.Ytjffhnpoipolfaa
