/-
  Take, Wipe.
-/
import Derived.Test.YtjffhnpoipolfaaH2
set_option linter.unusedVariables false
set_option linter.unusedSimpArgs false
namespace Go.Proofs.Ytjffhnpoipolfaa
open Go.RowKit Go.Maps Go.WideMaps
variable {S S' : Nat → Prop} {W W1 W' : World}

section
variable {w : World} {ops : Array Oper} {o : Oper} {a : Act} {Q : Exit → Act → World → Prop} {K : Act → World → Prop} {E : Prop}
theorem step_fn2 {f t t' : Nat} (x y : Operand) (u u' : Value) {M : Ending → World → Prop} (hgd : o.guard = none) (ho : o.op = .call { callee := .value (.func f), args := #[x, y], argTypes := #[t, t'] }) (hx : a.eval x = u) (hy : a.eval y = u') (eg : ∀ args w, (callFunc f args).run Try.prog w = .ok (.enter f args) w)
    (hc : Calls Try.prog f #[u, u'] w M) (h : ∀ e w', M e w' → match e with | .returned v => K (a.put o.dst v) w' | .panicked ch => Q (.panic ch) a w' | .outgrown => LetsOut Q) :
    if Region.wanted o (yielded ops a.tmps) = true then Oper.wp Try.prog o a w K Q else E := by
  have hw : Region.wanted o (yielded ops a.tmps) = true := by simp [Region.wanted, hgd]
  rw [if_pos hw]
  unfold Oper.wp execOp
  have hf : a.eval (.func f) = .func (.func f) #[] #[] := rfl
  simp only [ho, resolve, invoke, Deferred.ofValue, Sem.run_bind, Sem.run_pure, Result.andThen_ok, List.map_toArray, List.map_cons, List.map_nil, hx, hy, hf, Array.append_empty, eg]
  refine (show Calls Try.prog f #[u, u'] w _ from hc.mono (fun e w' hm => by cases e <;> exact h _ w' hm))
theorem step_wo (x y : Operand) (g cap n i : Nat) (l : List Dg) (hgd : o.guard = none) (ho : o.op = .call { callee := .value (.func 35), args := #[x, y], argTypes := #[30, 3] }) (hx : a.eval x = .slice (some ⟨g, 0, none⟩) (n + 1) cap) (hy : a.eval y = .int .i64 (i : Int))
    (hn : l.length = n + 1) (hi : i < n + 1) (hl : (n : Int) ≤ 1024) (hr : w.ownsRow 0 39 5 (.slice (some ⟨g, 0, none⟩) (n + 1) cap) (n + 1) (flat l))
    (h : ∀ w', w'.ownsRow 0 39 5 (.slice (some ⟨g, 0, none⟩) n cap) n (flat (l.eraseIdx i)) → Gr (fun k => k = g) w w' → K (a.put o.dst (.slice (some ⟨g, 0, none⟩) n cap)) w') :
    if Region.wanted o (yielded ops a.tmps) = true then Oper.wp Try.prog o a w K Q else E :=
  step_fn2 x y _ _ hgd ho hx hy (enters_of Try.func35 (by kernel_rfl) rfl) (without_c w g cap n l i hn hi hl hr) (fun e w' hm => by obtain ⟨rfl, h1, h2⟩ := hm; exact h w' h1 h2)
theorem wpList_del (w : World) {rest : List Oper} (hgd : o.guard = none) (x y : Operand)
    (ho : o.op = .call { callee := .builtin .delete, args := #[x, y], argTypes := #[58, 3] }) (v1 v2 : Value) (hx : a.eval x = v1) (hy : a.eval y = v2) (v : Value) (w' : World)
    (hr : (Builtin.delete_ #[58, 3] o.type #[v1, v2]).run Try.prog w = .ok v w') (h : wpList Try.prog ops Q rest (a.put o.dst v) w') :
    wpList Try.prog ops Q (o :: rest) a w := by
  refine wpList_plain hgd fun K hK => ?_
  unfold Oper.wp execOp
  simp only [ho, resolve, invoke, builtin, Sem.run_bind, Sem.run_pure, Result.andThen_ok, List.map_toArray, List.map_cons, List.map_nil, hx, hy, hr]
  exact hK _ _ h
end
abbrev zdv : Value := dv 0 0 0 nl false
set_option maxHeartbeats 800000 in
theorem take_node (W : World) (s : Ns) (h : Nt W s) (k : Int) (hk : nod k s.nodes = false) : Calls Try.prog 24 #[pt s.p, .int .i64 k] W fun e w' => e = .returned (.tuple #[zdv, .bool false, .int .i64 90]) ∧ G0 W w' := by
  have hh := fun W' (g : G0 W W') => has_c W' s (h.g0 g) k
  rw [hk] at hh
  go_enter Try.func24, Try.ntmps24
  go_wp2_with fail
  refine (hh _ (Gr.alloc _ _ _)).mono ?_
  rintro e w1 ⟨rfl, rfl⟩
  go_wp2
  exact bodyPost_ret (v := .tuple #[zdv, .bool false, .int .i64 90]) (by simp [results, Try.results24, go_sem]) rfl ⟨rfl, by exact Gr.alloc _ _ _⟩
theorem nod_wf {k n : Int} (h : nod k n = true) (hn : n ≤ 64) : (Lit.int .i64 k).wf = true ∧ 1 ≤ k ∧ k ≤ 64 := by
  simp only [nod, Bool.and_eq_true, decide_eq_true_eq] at h
  exact ⟨wf64 (by omega) (by omega), h.1, by omega⟩
set_option maxHeartbeats 800000 in
theorem take_none (W : World) (s : Ns) (h : Nt W s) (k : Int) (hk : nod k s.nodes = true) (hq : s.q (some k) = []) : Calls Try.prog 24 #[pt s.p, .int .i64 k] W fun e w' => e = .returned (.tuple #[zdv, .bool false, .int .i64 0]) ∧ G0 W w' := by
  have hh := fun W' (g : G0 W W') => has_c W' s (h.g0 g) k
  rw [hk] at hh
  obtain ⟨c0, c1, c2, c3, c4, _⟩ := five h.blk
  obtain ⟨a, cap, e, _, _⟩ := ownsRow_sv (h.row (some k))
  have hlook := fun W' (g : G0 W W') => ((h.g0 g).map).look k (nod_wf hk h.nd.2).1
  rw [e, hq] at hlook
  have hlt := lt_of_blk h.blk
  go_enter Try.func24, Try.ntmps24
  go_wp2_with fail
  refine (hh _ (Gr.alloc _ _ _)).mono ?_
  rintro e w1 ⟨rfl, rfl⟩
  have hlk := hlook _ (Gr.alloc W (Obj.cells #[.int .i64 0, .int .i64 0, .int .u64 0, nl, .bool false] 39) _)
  go_wp2
  exact bodyPost_ret (v := .tuple #[zdv, .bool false, .int .i64 0]) (by simp [results, Try.results24, go_sem]) rfl ⟨rfl, by exact Gr.alloc _ _ _⟩
theorem box_cut {s : Ns} (h : Nt W s) (k : Int) {g cap n : Nat} {w0 w1 w3 : World} {d : Dg} {r : List Dg} (hq : s.q (some k) = d :: r) (e : s.R (some k) = .slice (some ⟨g, 0, none⟩) (n + 1) cap) (hn : r.length = n) (g0 : G0 W w0)
    (hrow : w1.ownsRow 0 39 5 (.slice (some ⟨g, 0, none⟩) n cap) n (flat r)) (gr : Gr (fun k => k = g) w0 w1) (g3 : Gr (fun i => i = s.mb) w1 w3) (hmap : Mp w3 s.mb (s.z + 1) (upd s.R (some k) (.slice (some ⟨g, 0, none⟩) n cap))) :
    Nx W s w3 { s with z := s.z + 1, R := upd s.R (some k) (.slice (some ⟨g, 0, none⟩) n cap), q := upd s.q (some k) r } ∧ w3.heap[d.bk]? = some (.cells (bs d.by').toArray 5 (0, 0)) ∧ (∀ j, ∀ e ∈ upd s.q (some k) r j, e.bk ≠ d.bk) := by
  have h0 := h.g0 g0
  have hg0 : (s.R (some k)).ownBlock = some g := by rw [e]; rfl
  obtain ⟨es, c, hmb⟩ := h0.map.blk
  obtain ⟨cur, hc⟩ := h0.rowb hg0
  have hp : s.p ≠ g := fun e2 => by rw [← e2, h0.blk] at hc; simp at hc
  have hmp : s.p ≠ s.mb := fun e2 => by rw [← e2, h0.blk] at hmb; cases hmb
  have hsz := gr.size
  have hp3 : w3.heap[s.p]? = some (nblk s) := (g3.block _ (by have := lt_of_blk h0.blk; omega) hmp).trans ((gr.block _ (lt_of_blk h0.blk) hp).trans h0.blk)
  have := cut_queue h (some k) (i := 0) (d := d) (z' := s.z + 1) (Nat.le_succ _) (Nat.le_refl _) (by rw [hq]; rfl) e (by rw [hq]; simp [hn]) g0 (by rw [hq]; exact hrow) gr (g3.mono (fun _ _ e => .inr e)) (by rw [upd_other _ _ (by simp)]; exact hp3) hmap
  rw [hq] at this
  exact ⟨this.1, this.2.2, this.2.1⟩
theorem fp_sub {s : Ns} (j : Option Int) {z' lost' : Nat} {v : Value} {l : List Dg} (hv : ∀ k, v.ownBlock = some k → (s.R j).ownBlock = some k) (hl : ∀ d ∈ l, d ∈ s.q j) : ∀ k, Fp { s with z := z', lost := lost', R := upd s.R j v, q := upd s.q j l } k → Fp s k := by
  rintro k (e | e | ⟨i, e⟩ | ⟨i, d, hd, e⟩)
  · exact .inl e
  · exact .inr (.inl e)
  · by_cases hi : i = j
    · simp only [hi, upd_same] at e; exact .inr (.inr (.inl ⟨j, hv k e⟩))
    · simp only [upd_other _ _ hi] at e; exact .inr (.inr (.inl ⟨i, e⟩))
  · by_cases hi : i = j
    · simp only [hi, upd_same] at hd; exact .inr (.inr (.inr ⟨j, d, hl d hd, e⟩))
    · simp only [upd_other _ _ hi] at hd; exact .inr (.inr (.inr ⟨i, d, hd, e⟩))
theorem Nz.newer {s s' : Ns} (h : Nt W s) (hx : Nx W s W1 s') (hs : ∀ k, Fp s' k → Fp s k) (g : Gr (fun k => W.heap.size ≤ k) W1 W') : Nx W s W' s' :=
  ⟨hx.nt.gr g (fun k hk e => by have := h.lt (hs k hk); omega), hx.p, hx.nodes, hx.z, hx.gr.trans' g (fun i hi e => by omega), hx.fp⟩
set_option maxRecDepth 20000 in
set_option maxHeartbeats 1600000 in
theorem take_c (W : World) (s : Ns) (h : Nt W s) (hz : s.z ≤ 100000000) (k : Int) (hk : nod k s.nodes = true) (d : Dg) (r : List Dg) (hq : s.q (some k) = d :: r) :
    Calls Try.prog 24 #[pt s.p, .int .i64 k] W fun e w' => e = .returned (.tuple #[d.val, .bool true, .int .i64 0]) ∧ ∃ s', Nx W s w' s' ∧ s'.sent = s.sent ∧ s'.lost = s.lost ∧ s'.q = upd s.q (some k) r ∧ w'.heap[d.bk]? = some (.cells (bs d.by').toArray 5 (0, 0)) ∧ ¬ Fp s' d.bk := by
  have hh := fun W' (g : G0 W W') => has_c W' s (h.g0 g) k
  rw [hk] at hh
  obtain ⟨c0, c1, c2, c3, c4, _⟩ := five h.blk
  have hwf := (nod_wf hk h.nd.2).1
  obtain ⟨g, cap, e, hc1, hc2, hf, a0, a1, a2, a3, a4⟩ := row_at (h.row (some k)) (i := 0) (d := d) (by rw [hq]; rfl)
  have hlook := fun W' (g : G0 W W') => ((h.g0 g).map).look k hwf
  have hrow := h.row (some k)
  obtain ⟨n, hn⟩ : ∃ n, r.length = n := ⟨_, rfl⟩
  have hlen : (s.q (some k)).length = n + 1 := by rw [hq]; simp [hn]
  have hl : (n : Int) + 1 ≤ 64 := by have := h.bl k; omega
  rw [hlen] at e hc1
  rw [e] at hlook
  rw [e, hlen] at hrow
  have hg0 : (s.R (some k)).ownBlock = some g := by rw [e]; rfl
  have hgl : g < W.heap.size := by obtain ⟨cur, hc⟩ := h.rowb hg0; exact lt_of_blk hc
  have hgp : s.p ≠ g := fun e2 => by obtain ⟨cur, hc⟩ := h.rowb hg0; rw [← e2, h.blk] at hc; simp at hc
  have hgm : s.mb ≠ g := fun e2 => by obtain ⟨cur, hc⟩ := h.rowb hg0; obtain ⟨es, c, hmb⟩ := h.map.blk; rw [← e2, hmb] at hc; cases hc
  have hmp : s.p ≠ s.mb := fun e2 => by obtain ⟨es, c, hmb⟩ := h.map.blk; rw [← e2, h.blk] at hmb; cases hmb
  have hlt := lt_of_blk h.blk
  have hmlt : s.mb < W.heap.size := h.lt (.inr (.inl rfl))
  have fin := Lib.hid (fun w0 g0 w1 w3 hrow gr g3 hmap => box_cut h k (w0 := w0) (w1 := w1) (w3 := w3) hq e hn g0 hrow gr g3 hmap)
  have Hrow := Lib.hid (fun W' (g : G0 W W') => ownsRow_g0 hrow g)
  have Hh := Lib.hid h
  have Hz := Lib.hid hz
  have Hwf := Lib.hid hwf
  have Hlen := Lib.hid hlen
  have Hq := Lib.hid hq
  have HL := Lib.hid hlook
  have hlk := hlook _ (Gr.alloc W (Obj.cells #[.int .i64 0, .int .i64 0, .int .u64 0, nl, .bool false] 39) _)
  clear hrow hz hwf h hq hlen hlook
  rw [Nat.zero_mul] at a0
  simp only [Nat.zero_mul, Nat.zero_add] at a1 a2 a3 a4
  go_enter Try.func24, Try.ntmps24
  go_wp2_with fail
  refine (hh _ (Gr.alloc _ _ _)).mono ?_
  rintro e w1 ⟨rfl, rfl⟩
  go_wp2_with fail
  generalize hW0 : World.alloc (World.alloc W _) _ = W0
  have g0 : G0 W W0 := by rw [← hW0]; exact (Gr.alloc _ _ _).trans (Gr.alloc _ _ _)
  have hr0 : W0.heap[W.heap.size]? = some (.cells #[.int .i64 0, .int .i64 0, .int .u64 0, nl, .bool false] 39 (0, 0)) := by rw [← hW0]; exact (heap_alloc_old _ _ (by simp)).trans (heap_alloc_new _ _)
  have hb0 : W0.heap[W.heap.size + 1]? = some (.cells #[.int .i64 d.f, .int .i64 d.t, .int .u64 (d.n : Int), d.bv, .bool d.sp] 39 (0, 0)) := by rw [← hW0]; have := heap_alloc_new (W.alloc (Obj.cells #[.int .i64 0, .int .i64 0, .int .u64 0, nl, .bool false] 39)) (Obj.cells #[.int .i64 d.f, .int .i64 d.t, .int .u64 (d.n : Int), d.bv, .bool d.sp] 39); rw [size_alloc] at this; exact this
  clear hW0
  have hsz0 := g0.size
  have hp0 := (Hh.out.g0 g0).blk
  obtain ⟨c00, c10, c20, c30, c40, f00, f10, f20, f30, f40⟩ := five hp0
  have gd : G0 W W0.drew := g0.trans (Gr.drew _ _)
  have Hgd := Lib.hid gd
  have Hr0 := Lib.hid hr0
  have Hb0 := Lib.hid hb0
  have Hp0 := Lib.hid hp0
  have Hm0 := Lib.hid (Hh.out.g0 g0).map
  clear gd hr0 hb0 hp0
  go_region_law (first
    | (refine step_wo _ _ g cap n 0 (s.q (some k)) rfl rfl rfl rfl Hlen.out (by omega) (by omega) (Hrow.out _ Hgd.out) ?_; intro w1 hrow1 gr1; have hp1 : w1.heap[s.p]? = some (nblk s) := (gr1.block _ (by show s.p < W0.heap.size; omega) hgp).trans Hp0.out; obtain ⟨c01, c11, c21, c31, c41, f01, f11, f21, f31, f41⟩ := five hp1; have hm1 : Mp w1 s.mb s.z s.R := Hm0.out.of_block (gr1.block _ (by show s.mb < W0.heap.size; omega) hgm); obtain ⟨w3, hup, hmp3, hg3⟩ := hm1.put k Hwf.out (by have := Hz.out; omega) (.slice (some ⟨g, 0, none⟩) n cap); have Hrow1 := Lib.hid hrow1; have Hgr1 := Lib.hid gr1; have Hmp3 := Lib.hid hmp3; have Hg3 := Lib.hid hg3; clear hrow1 gr1 hmp3 hg3 hm1 hp1))
  all_goals
    have hs1 := Hgr1.out.size
    have hs1' : W0.heap.size ≤ w1.heap.size := hs1
    have hr1 : w3.heap[W.heap.size]? = some (.cells #[.int .i64 0, .int .i64 0, .int .u64 0, nl, .bool false] 39 (0, 0)) := (Hg3.out.block _ (by have := lt_of_blk Hr0.out; omega) (by omega)).trans ((Hgr1.out.block _ (lt_of_blk Hr0.out) (by omega)).trans Hr0.out)
    have hb1 : w3.heap[W.heap.size + 1]? = some (.cells #[.int .i64 d.f, .int .i64 d.t, .int .u64 (d.n : Int), d.bv, .bool d.sp] 39 (0, 0)) := (Hg3.out.block _ (by have := lt_of_blk Hb0.out; omega) (by omega)).trans ((Hgr1.out.block _ (lt_of_blk Hb0.out) (by omega)).trans Hb0.out)
    obtain ⟨q0, q1, q2, q3, q4, q5, q6, q7, q8, q9⟩ := five hr1
    obtain ⟨b0, b1, b2, b3, b4, b5, b6, b7, b8, b9⟩ := five hb1
    have hfin := fin.out _ Hgd.out w1 w3 (by have := Hrow1.out; rw [Hq.out] at this; exact this) Hgr1.out Hg3.out Hmp3.out
    have Hfin := Lib.hid hfin
    clear hfin hs1 hs1'
    go_wp2
    refine bodyPost_ret (v := .tuple #[d.val, .bool true, .int .i64 0]) (by simp [results, Try.results24, go_sem, q0, q1, q2, q3, q4]) rfl ⟨rfl, ?_⟩
    obtain ⟨hx, hby, hfr⟩ := Hfin.out
    have hdl := Hh.out.lt (k := d.bk) (.inr (.inr (.inr ⟨some k, d, by rw [Hq.out]; simp, rfl⟩)))
    have hsub := fp_sub (s := s) (some k) (z' := s.z + 1) (lost' := s.lost) (v := .slice (some ⟨g, 0, none⟩) n cap) (l := r) (fun i e => by rw [hg0]; exact e) (fun d hd => by rw [Hq.out]; exact List.mem_cons_of_mem _ hd)
    have g5 := (Gr.refl (fun i => W.heap.size ≤ i) w3).cell5 W.heap.size (.int .i64 d.f) (.int .i64 d.t) (.int .u64 (d.n : Int)) d.bv (.bool d.sp) (.inl (Nat.le_refl _))
    have hx5 := Nz.newer Hh.out hx hsub g5
    have hby5 := (g5.block _ (lt_of_blk hby) (by omega)).trans hby
    exact ⟨_, hx5, rfl, rfl, rfl, hby5, hx5.nt.notfp hby5 hfr⟩
set_option maxHeartbeats 800000 in
theorem wipe_node (W : World) (s : Ns) (h : Nt W s) (k : Int) (hk : nod k s.nodes = false) : Calls Try.prog 27 #[pt s.p, .int .i64 k] W fun e w' => e = .returned (.int .i64 90) ∧ W = w' := by
  have hh := has_c W s h k
  rw [hk] at hh
  go_enter Try.func27, Try.ntmps27
  go_wp2_with fail
  refine hh.mono ?_
  rintro e w1 ⟨rfl, rfl⟩
  go_wp2
  go_ret
  exact ⟨rfl, rfl⟩
theorem wipe_done {s : Ns} (h : Nt W s) (k : Int) {w3 : World} {lo : Int} (hlo : lo = ((s.lost + (s.q (some k)).length : Nat) : Int)) (hmap : Mp w3 s.mb s.z (upd s.R (some k) nl)) (g3 : Gr (fun i => i = s.mb) (W.setCell ⟨s.p, 2, none⟩ (.int .i64 lo)).drew w3) :
    Nx W s w3 { s with z := s.z + 1, lost := s.lost + (s.q (some k)).length, R := upd s.R (some k) nl, q := upd s.q (some k) [] } := by
  subst hlo
  have hb := h.bl k
  have hsm := h.sm
  obtain ⟨es, c, hmb⟩ := h.map.blk
  have hmp : s.p ≠ s.mb := fun e2 => by rw [← e2, h.blk] at hmb; cases hmb
  have hb1 := heap_setCell_same W s.p 2 _ 60 (.int .i64 ((s.lost + (s.q (some k)).length : Nat) : Int)) h.blk
  have hp3 := (g3.block _ (lt_of_blk hb1) hmp).trans hb1
  have hg : Gr (Fq s (some k)) W w3 := (((Gr.refl (Fq s (some k)) W).cell _ _ (.inl (.inl rfl))).trans (Gr.drew _ _)).trans' g3 (fun i _ e => .inr (.inl e))
  refine h.queue _ (some k) hg s.sent (s.lost + (s.q (some k)).length) (s.z + 1) nl [] ?_ (hmap.mono (Nat.le_succ _)) (World.ownsRow_nil _ _ _ _) (fun k e => by cases e) (by simp) (fun d hd => by cases hd) (fun d hd => by cases hd) (fun d hd => by cases hd) (fun k hk d hd => by cases hd) (by simp) (Nat.le_refl _) (Nat.le_refl _) (Nat.le_succ _) (by omega) (by omega)
  rw [upd_other _ _ (by simp)]
  exact hp3
set_option maxHeartbeats 800000 in
theorem wipe_c (W : World) (s : Ns) (h : Nt W s) (hz : s.z ≤ 100000000) (k : Int) (hk : nod k s.nodes = true) :
    Calls Try.prog 27 #[pt s.p, .int .i64 k] W fun e w' => e = .returned (.int .i64 0) ∧ ∃ s', Nx W s w' s' ∧ s'.sent = s.sent ∧ s'.lost = s.lost + (s.q (some k)).length ∧ s'.q = upd s.q (some k) [] := by
  have hh := has_c W s h k
  rw [hk] at hh
  obtain ⟨c0, c1, c2, c3, c4, f0, f1, f2, f3, f4⟩ := five h.blk
  have hwf := (nod_wf hk h.nd.2).1
  obtain ⟨a, cap, e, _, _⟩ := ownsRow_sv (h.row (some k))
  have hlk := (h.g0 (Gr.drew W _)).map.look k hwf
  rw [e] at hlk
  have hlt := lt_of_blk h.blk
  have hsm := h.sm
  have hlo : (s.lost : Int) ≤ 6400000000 := by omega
  have fin := Lib.hid (fun w3 lo hlo hmap g3 => wipe_done h k (w3 := w3) (lo := lo) hlo hmap g3)
  have hl : ((s.q (some k)).length : Int) ≤ 64 := by have := h.bl k; omega
  have Hh := Lib.hid h
  have Hwf := Lib.hid hwf
  have hmp : s.mb ≠ s.p := fun e2 => by obtain ⟨es, c, hmb⟩ := h.map.blk; rw [e2, h.blk] at hmb; cases hmb
  obtain ⟨w3, hdel, hmp3, hg3⟩ := (h.map.of_block (W' := (W.setCell ⟨s.p, 2, none⟩ (.int .i64 ((s.lost : Int) + ((s.q (some k)).length : Int)))).drew) (heap_setCell_other W ⟨s.p, 2, none⟩ s.mb _ hmp)).del k hwf 0
  have Hmp3 := Lib.hid hmp3
  have Hg3 := Lib.hid hg3
  clear hsm hz h hwf hmp3 hg3
  generalize hm : (s.q (some k)).length = m at *
  go_enter Try.func27, Try.ntmps27
  go_wp2_with fail
  refine hh.mono ?_
  rintro e w1 ⟨rfl, rfl⟩
  go_wp2_with fail
  go_region
  go_wp2
  go_ret
  exact ⟨rfl, _, fin.out w3 _ (by push_cast; rfl) Hmp3.out Hg3.out, rfl, rfl, rfl⟩
end Go.Proofs.Ytjffhnpoipolfaa
