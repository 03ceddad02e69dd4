/-
  DgramPlays: what holds at each round.
-/
import Derived.Test.YtjffhnpoipolfaaZO
import Derived.Test.YtjffhnpoipolfaaJ
set_option linter.unusedVariables false
set_option linter.unusedSimpArgs false
namespace Go.Proofs.Ytjffhnpoipolfaa
open Go.RowKit Go.Maps Go.WideMaps
variable {S S' Y : Nat → Prop} {W W1 W' : World}

/-- What holds at each round. -/
structure Pr (W wr : World) (s : Ns) (p mk : Nat) (nodes : Int) (i : Nat) (Y : Nat → Prop) (sent lost : Nat) (wv bv : Value) (lw lb : List Dx) : Prop where
  hd : Hd W wr s
  p : s.p = p
  nd : s.nodes = nodes
  z : s.z ≤ 4 * i
  mb : wr.heap[mk]? = some (.cells #[.int .i64 nodes, .int .u64 (sent : Int), wv, bv, .int .i64 (lost : Int)] 32 (0, 0))
  mW : W.heap.size ≤ mk
  rel : Rel s sent lost lw lb
  rw_ : Rg Y wr wv lw
  rb : Rg Y wr bv lb
  y : ∀ k, Y k → k < wr.heap.size ∧ ¬ Fp s k ∧ k ≠ mk
  lb : lb.length ≤ i
theorem notfp32 {s : Ns} (h : Nt W s) {k : Nat} {c : Array Value} (hk : W.heap[k]? = some (.cells c 32 (0, 0))) : ¬ Fp s k := by
  rintro (rfl | rfl | ⟨i, e⟩ | ⟨i, d, hd, rfl⟩)
  · rw [h.blk] at hk; simp at hk
  · obtain ⟨es, c, e⟩ := h.map.blk; rw [e] at hk; cases hk
  · obtain ⟨cur, e⟩ := h.rowb e; rw [e] at hk; simp at hk
  · rw [h.byt i d hd] at hk; simp at hk
section
variable {wr w4 w5 w6 w7 w8 : World} {s s5 : Ns} {p mk : Nat} {nodes : Int} {i : Nat} {sent lost sent' lost' : Nat} {wv bv wv' bv' : Value} {lw lb lw' lb' : List Dx}
theorem Pr.gr (h : Pr W wr s p mk nodes i Y sent lost wv bv lw lb) (g : Gr S wr W') (hS : ∀ k, k < wr.heap.size → S k → W.heap.size ≤ k ∧ ¬ Fp s k ∧ k ≠ mk ∧ ¬ Y k) : Pr W W' s p mk nodes i Y sent lost wv bv lw lb := by
  have hk : ∀ k, Y k → W'.heap[k]? = wr.heap[k]? := fun k hy => g.block k (h.y k hy).1 (fun e => (hS k (h.y k hy).1 e).2.2.2 hy)
  refine ⟨⟨h.hd.g.trans' g (fun k hl e => ?_), h.hd.nt.kept (fun k hf => g.block k (h.hd.nt.lt hf) (fun e => (hS k (h.hd.nt.lt hf) e).2.1 hf)), h.hd.fp⟩, h.p, h.nd, h.z, (g.block mk (lt_of_blk h.mb) (fun e => (hS mk (lt_of_blk h.mb) e).2.2.1 rfl)).trans h.mb, h.mW, h.rel, h.rw_.keep hk, h.rb.keep hk, fun k hy => ⟨Nat.lt_of_lt_of_le (h.y k hy).1 g.size, (h.y k hy).2⟩, h.lb⟩
  have := h.hd.g.size
  have := (hS k (by omega) e).1
  omega
theorem Pr.g0 (h : Pr W wr s p mk nodes i Y sent lost wv bv lw lb) (g : G0 wr W') : Pr W W' s p mk nodes i Y sent lost wv bv lw lb := h.gr g (fun k _ e => e.elim)
theorem Pr.yk (h : Pr W wr s p mk nodes i Y sent lost wv bv lw lb) (g4 : G0 wr w4) (hx : Nx w4 s w5 s5) (g6 : G0 w5 w6) : ∀ k, Y k → w6.heap[k]? = wr.heap[k]? ∧ k < w6.heap.size := fun k hy => by
  have h1 := (h.y k hy).1
  have h4 := g4.size
  have h5 := hx.gr.size
  have h6 := g6.size
  exact ⟨(g6.block k (by omega) (fun e => e)).trans ((hx.gr.block k (by omega) (h.y k hy).2.1).trans (g4.block k h1 (fun e => e))), by omega⟩
theorem Pr.step (h : Pr W wr s p mk nodes i Y sent lost wv bv lw lb) (g4 : G0 wr w4) (hx : Nx w4 s w5 s5) (g6 : G0 w5 w6) (g7 : G0 w6 w7) {T : Nat} (g8 : Gr (fun k => k = mk ∨ k = T) w7 w8) (hT : w5.heap.size ≤ T ∧ T < w6.heap.size)
    (hM8 : w8.heap[mk]? = some (.cells #[.int .i64 nodes, .int .u64 (sent' : Int), wv', bv', .int .i64 (lost' : Int)] 32 (0, 0))) (hrel : Rel s5 sent' lost' lw' lb') (hw : Rg (fun k => Y k ∨ w6.heap.size ≤ k) w7 wv' lw') (hb : Rg (fun k => Y k ∨ w6.heap.size ≤ k) w7 bv' lb') (hl : lb'.length ≤ lb.length + 1) :
    Pr W w8 s5 p mk nodes (i + 1) (fun k => (Y k ∨ w6.heap.size ≤ k) ∧ k < w7.heap.size) sent' lost' wv' bv' lw' lb' := by
  have z4 := g4.size
  have z5 := hx.gr.size
  have z6 := g6.size
  have z7 := g7.size
  have z8 := g8.size
  have hmr := lt_of_blk h.mb
  have hd5 : Hd W w5 s5 := (h.hd.g0 g4).step hx
  have hd7 := (hd5.g0 g6).g0 g7
  have hz0 := h.hd.g.size
  have hm4 := (g4.block mk hmr (fun e => e)).trans h.mb
  have hmn : ¬ Fp s mk := notfp32 (h.hd.nt.g0 g4) hm4
  have hmn5 : ¬ Fp s5 mk := notfp32 hx.nt ((hx.gr.block mk (lt_of_blk hm4) hmn).trans hm4)
  have hnew : ∀ k, (Y k ∨ w6.heap.size ≤ k) → ¬ Fp s5 k ∧ k ≠ mk ∧ k ≠ T := by
    rintro k (hy | hy)
    · refine ⟨fun e => ?_, (h.y k hy).2.2, by have := (h.y k hy).1; omega⟩
      rcases hx.fp k e with e1 | e1 | e1
      · exact (h.y k hy).2.1 e1
      · have := (h.y k hy).1; omega
      · exact e1
    · exact ⟨fun e => by have := hx.nt.lt e; omega, by omega, by omega⟩
  have hk8 : ∀ k, (Y k ∨ w6.heap.size ≤ k) ∧ k < w7.heap.size → w8.heap[k]? = w7.heap[k]? := fun k hy => g8.block k hy.2 (fun e => by have := hnew k hy.1; omega)
  refine ⟨⟨hd7.g.trans' g8 (fun k hk e => by have := h.mW; omega), hd7.nt.gr g8 (fun k hk e => ?_), hd7.fp⟩, hx.p.trans h.p, hx.nodes.trans h.nd, by have := hx.z; have := h.z; omega, hM8, h.mW, hrel, hw.trim.keep hk8, hb.trim.keep hk8, fun k hy => ⟨by omega, (hnew k hy.1).1, (hnew k hy.1).2.1⟩, by have := h.lb; omega⟩
  rcases e with rfl | rfl
  · exact hmn5 hk
  · have := hx.nt.lt hk; omega
/-- What the two calls took. -/
theorem two_same (h : Pr W wr s p mk nodes i Y sent lost wv bv lw lb) (g4 : G0 wr w4) (hx : Nx w4 s w5 s5) (g6 : G0 w5 w6) {k f t j a : Int} {m : Nat} {l : List Nat} {d : Dv} {ok : Bool} {c : Int} {dd : Value} (ho : Outc s s5 k f t j a m l d ok c)
    (hb : ok = true → ∀ D r, s.q (some f) = D :: r → w5.heap[D.bk]? = some (.cells (bs D.by').toArray 5 (0, 0)) ∧ ¬ Fp s5 D.bk) (htk : TkX (fun k => Y k ∨ w6.heap.size ≤ k) w7 s f ok dd) :
    ∃ (f0 t0 : Int) (n0 : Nat) (da : Option Addr) (dc : Nat) (xa : Option Addr) (xc : Nat) (l0 : List Nat) (sp0 : Bool), d = ⟨f0, t0, (n0 : Int), da, l0.length, dc, sp0⟩ ∧ dd = dv f0 t0 n0 (.slice xa l0.length xc) sp0 ∧ Sl w5 (.slice da l0.length dc) l0 ∧ SlY (fun k => Y k ∨ w6.heap.size ≤ k) w7 ⟨f0, t0, n0, xa, xc, l0, sp0⟩ ∧ l0.length ≤ 1212 ∧
      (l0.length = 0 ∨ ∃ g, da = some ⟨g, 0, none⟩ ∧ dc = l0.length ∧ By w5 g l0.length ∧ ¬ Fp s5 g ∧ Fp s g) := by
  rcases htk with ⟨e1, e2⟩ | ⟨e1, x, e2, hsl, D, r, hq, hab⟩
  · have hd : d = d0 := by
      rcases ho with ⟨h1, _⟩ | ⟨h1, _⟩ | ⟨_, h2, _⟩
      · exact h1
      · exact h1
      · rw [e1] at h2; cases h2
    refine ⟨0, 0, 0, none, 0, none, 0, [], false, hd, e2, ⟨by simp, by simp, .inl ⟨rfl, rfl⟩⟩, ⟨⟨by simp, by simp, .inl ⟨rfl, rfl⟩⟩, fun b off e => .inl rfl, by simp⟩, by simp, .inl rfl⟩
  · obtain ⟨D', r', hq', hd⟩ : ∃ D' r', s.q (some f) = D' :: r' ∧ d = dvOf D' := by
      rcases ho with ⟨_, h1, _⟩ | ⟨_, h1, _⟩ | ⟨_, _, _, _, _, _, D', r', h1, h2, _⟩
      · rw [e1] at h1; cases h1
      · rw [e1] at h1; cases h1
      · exact ⟨D', r', h1, h2⟩
    obtain ⟨rfl, rfl⟩ : D' = D ∧ r' = r := by rw [hq] at hq'; simp at hq'; exact ⟨hq'.1.symm, hq'.2.symm⟩
    obtain ⟨hby, hnf⟩ := hb e1 D' r' hq
    have hDm : D' ∈ s.q (some f) := by rw [hq]; simp
    have hDok := h.hd.nt.ok _ D' hDm
    obtain ⟨q1, q2, q3, q4, q5⟩ := abx_sp hab
    obtain ⟨xf, xt, xn, xa, xc, xby, xsp⟩ := x
    simp only at q1 q2 q3 q4 q5
    subst q1 q2 q3 q4 q5
    refine ⟨D'.f, D'.t, D'.n, some ⟨D'.bk, 0, none⟩, D'.by'.length, xa, xc, D'.by', D'.sp, hd, e2, sl_blk hby hDok.2.1 hDok.1, hsl, hDok.1, .inr ⟨D'.bk, rfl, rfl, ?_, hnf, .inr (.inr (.inr ⟨some f, D', hDm, rfl⟩))⟩⟩
    refine ⟨_, hby, by simp, fun jj hj => ⟨D'.by'.getD jj 0, getD_lt hDok.2.1 jj, ?_⟩⟩
    have := bs_get D'.by' jj hj
    simpa using this
end
/-- What the last test of a round reads. -/
abbrev S18 (T10 T13 mk : Nat) (u0 u1 u2 u3 u4 x0 x1 x2 x3 x4 ml : Value) (w' : World) : Prop :=
  w'.cell? ⟨T10, 0, none⟩ = some u0 ∧ w'.cell? ⟨T10, 1, none⟩ = some u1 ∧ w'.cell? ⟨T10, 2, none⟩ = some u2 ∧ w'.cell? ⟨T10, 3, none⟩ = some u3 ∧ w'.cell? ⟨T10, 4, none⟩ = some u4 ∧
  w'.cell? ⟨T13, 0, none⟩ = some x0 ∧ w'.cell? ⟨T13, 1, none⟩ = some x1 ∧ w'.cell? ⟨T13, 2, none⟩ = some x2 ∧ w'.cell? ⟨T13, 3, none⟩ = some x3 ∧ w'.cell? ⟨T13, 4, none⟩ = some x4 ∧ w'.cell? ⟨mk, 4, none⟩ = some ml
theorem S18.g0 {T10 T13 mk : Nat} {u0 u1 u2 u3 u4 x0 x1 x2 x3 x4 ml : Value} (h : S18 T10 T13 mk u0 u1 u2 u3 u4 x0 x1 x2 x3 x4 ml W) (g : G0 W W') : S18 T10 T13 mk u0 u1 u2 u3 u4 x0 x1 x2 x3 x4 ml W' := by
  obtain ⟨a0, a1, a2, a3, a4, b0, b1, b2, b3, b4, m⟩ := h
  exact ⟨cell_g0 a0 g, cell_g0 a1 g, cell_g0 a2 g, cell_g0 a3 g, cell_g0 a4 g, cell_g0 b0 g, cell_g0 b1 g, cell_g0 b2 g, cell_g0 b3 g, cell_g0 b4 g, cell_g0 m g⟩
/-! ### Copies of those in flight -/
def toX (d : Dg) : Dx := ⟨d.f, d.t, d.n, some ⟨d.bk, 0, none⟩, d.by'.length, d.by', d.sp⟩
theorem flat_toX (l : List Dg) : flatX (l.map toX) = flat l := by
  induction l with
  | nil => rfl
  | cons d l ih => rw [List.map_cons, flatX_cons, flat_cons, ih]; rfl
theorem abx_toX (l : List Dg) : (l.map toX).map abx = l.map ab := by simp only [List.map_map]; rfl
/-- Copies that are written to. -/
structure Fl (N g : Nat) (w wt : World) (l : List Dg) : Prop where
  row : wt.heap[g]? = w.heap[g]?
  by_ : ∀ d ∈ l, By wt d.bk d.by'.length ∧ N ≤ d.bk
  gr : Gr (fun k => N ≤ k) w wt
theorem Fl.set {N g : Nat} {w wt : World} {l : List Dg} (h : Fl N g w wt l) {d : Dg} (hd : d ∈ l) (j x : Nat) (hx : x < 256) (hg : d.bk ≠ g) : Fl N g w (wt.setCell ⟨d.bk, j, none⟩ (.int .u8 (x : Int))) l :=
  ⟨(heap_setCell_other _ _ _ _ (Ne.symm hg)).trans h.row, fun e he => by
    by_cases hb : e.bk = d.bk
    · rw [hb]; have := (h.by_ e he).1; rw [hb] at this; exact ⟨this.set j x hx, (h.by_ d hd).2⟩
    · obtain ⟨cur, h1, h2⟩ := (h.by_ e he).1
      exact ⟨⟨cur, (heap_setCell_other _ _ _ _ hb).trans h1, h2⟩, (h.by_ e he).2⟩, h.gr.cell _ _ (.inl (h.by_ d hd).2)⟩
theorem by_of_blk {b : Nat} {l : List Nat} (h : W.heap[b]? = some (.cells (bs l).toArray 5 (0, 0))) (hb : ∀ x ∈ l, x < 256) : By W b l.length :=
  ⟨_, h, by simp, fun j hj => ⟨l.getD j 0, getD_lt hb j, by have := bs_get l j hj; simpa using this⟩⟩
theorem set5_blk {b : Nat} {ty : TypeId} {u0 u1 u2 u3 u4 : Value} (h : W.heap[b]? = some (.cells #[u0, u1, u2, u3, u4] ty (0, 0))) (v0 v1 v2 v3 v4 : Value) :
    (((((W.setCell ⟨b, 0, none⟩ v0).setCell ⟨b, 1, none⟩ v1).setCell ⟨b, 2, none⟩ v2).setCell ⟨b, 3, none⟩ v3).setCell ⟨b, 4, none⟩ v4).heap[b]? = some (.cells #[v0, v1, v2, v3, v4] ty (0, 0)) := by
  have e0 := heap_setCell_same W b 0 _ ty v0 h
  have e1 := heap_setCell_same _ b 1 _ ty v1 e0
  have e2 := heap_setCell_same _ b 2 _ ty v2 e1
  have e3 := heap_setCell_same _ b 3 _ ty v3 e2
  exact heap_setCell_same _ b 4 _ ty v4 e3
/-- The bytes that were taken, behind the stores of the round. -/
theorem sl_two {w5 w7 w8 : World} {mk T : Nat} {da : Option Addr} {dc : Nat} {l0 : List Nat} {cm : Array Value} (h : Sl w5 (.slice da l0.length dc) l0) (g : G0 w5 w7) (hk : ∀ k, k ≠ mk → k ≠ T → w8.heap[k]? = w7.heap[k]?) (hT : w5.heap.size ≤ T) (hM : w5.heap[mk]? = some (.cells cm 32 (0, 0)))
    (hz : l0.length = 0 ∨ ∃ g, da = some ⟨g, 0, none⟩ ∧ By w5 g l0.length) : Sl w8 (.slice da l0.length dc) l0 := by
  rcases hz with e | ⟨b, rfl, hb⟩
  · exact h.of_nil (List.length_eq_zero_iff.1 e)
  · have hne : b ≠ mk := fun e => by obtain ⟨cur, h1, _⟩ := hb; rw [e, hM] at h1; simp at h1
    have hl := hb.lt
    exact (h.g0 g).blk (fun b' off len cap e _ => by cases e; exact hk b hne (by omega))
/-- What was taken, being set to zero. -/
structure Zd (da : Option Addr) (dc n : Nat) (w wt : World) : Prop where
  gr : Gr (fun k => ∃ off, da = some ⟨k, off, none⟩ ∧ 0 < n) w wt
  z : n = 0 ∨ ∃ g, da = some ⟨g, 0, none⟩ ∧ dc = n ∧ By wt g n
theorem cps_ok {N : Nat} {s : Ns} (h : Nt W s) {w : World} {l' : List Dg} (hc : Cps N w (s.q none) l') : ∀ d ∈ l', d.by'.length ≤ 1212 ∧ ∀ x ∈ d.by', x < 256 := by
  intro d hd
  have : ab d ∈ (s.q none).map ab := by rw [← hc.ab]; exact List.mem_map_of_mem hd
  obtain ⟨D, hD, e⟩ := List.mem_map.1 this
  have hok := h.ok none D hD
  simp only [ab, Prod.mk.injEq] at e
  rw [← e.2.2.2.1]
  exact ⟨hok.1, hok.2.1⟩
theorem cps_len {N : Nat} {w : World} {l l' : List Dg} (hc : Cps N w l l') : l'.length = l.length := by have := congrArg List.length hc.ab; simpa using this
theorem cps_sl {N : Nat} {s : Ns} (h : Nt W s) {w : World} {l' : List Dg} (hc : Cps N w (s.q none) l') : ∀ d ∈ l'.map toX, Sl w d.bv d.by' := by
  intro d hd
  obtain ⟨D, hD, rfl⟩ := List.mem_map.1 hd
  obtain ⟨h1, h2⟩ := cps_ok h hc D hD
  exact sl_blk (hc.byt D hD).1 h2 h1
theorem cps_fl {N g : Nat} {s : Ns} (h : Nt W s) {w w' : World} {l' : List Dg} (hc : Cps N w (s.q none) l') (hg : G0 w w') : Fl N g w' w' l' :=
  ⟨rfl, fun d hd => ⟨(by_of_blk (hc.byt d hd).1 (cps_ok h hc d hd).2).gr hg (fun e => e), (hc.byt d hd).2⟩, Gr.refl _ _⟩
/-- The reference's net in its block. -/
abbrev S38 (mk : Nat) (u0 u1 u2 u3 u4 : Value) (w' : World) : Prop :=
  w'.cell? ⟨mk, 0, none⟩ = some u0 ∧ w'.cell? ⟨mk, 1, none⟩ = some u1 ∧ w'.cell? ⟨mk, 2, none⟩ = some u2 ∧ w'.cell? ⟨mk, 3, none⟩ = some u3 ∧ w'.cell? ⟨mk, 4, none⟩ = some u4
theorem S38.g0 {mk : Nat} {u0 u1 u2 u3 u4 : Value} (h : S38 mk u0 u1 u2 u3 u4 W) (g : G0 W W') : S38 mk u0 u1 u2 u3 u4 W' := by
  obtain ⟨a0, a1, a2, a3, a4⟩ := h
  exact ⟨cell_g0 a0 g, cell_g0 a1 g, cell_g0 a2 g, cell_g0 a3 g, cell_g0 a4 g⟩
theorem flight_all {wr : World} {s : Ns} {p mk : Nat} {nodes : Int} {i sent lost : Nat} {wv bv : Value} {lw lb : List Dx} (h : Pr W wr s p mk nodes i Y sent lost wv bv lw lb) :
    Calls Try.prog 16 #[pt p] wr fun e w' => ∃ gF n1, e = .returned (.slice (some ⟨gF, 0, none⟩) n1 n1) ∧ G0 wr w' ∧ Hid (Calls Try.prog 17 #[.slice (some ⟨gF, 0, none⟩) n1 n1, wv] w' fun e w'' => e = .returned (.bool true) ∧ G0 w' w'') := by
  have tf := flight_c wr s h.hd.nt
  rw [h.p] at tf
  refine tf.mono ?_
  rintro e wF ⟨gF, l', rfl, hrow, hcp, hgN, hgF⟩
  have PF := h.g0 hgF
  exact ⟨gF, _, rfl, hgF, Lib.hid (all_r wF (.slice (some ⟨gF, 0, none⟩) (s.q none).length (s.q none).length) wv (l'.map toX) lw (by rw [flat_toX, List.length_map, cps_len hcp]; exact hrow) PF.rw_.row (cps_sl h.hd.nt hcp) (fun d hd => (PF.rw_.byt d hd).1) (by rw [abx_toX, hcp.ab, PF.rel.way]) (by rw [List.length_map, cps_len hcp]; have := h.hd.nt.wl; omega))⟩
theorem kd_bb (k : Int) : 0 ≤ kd k ∧ kd k ≤ 6 := by unfold kd; split <;> omega
end Go.Proofs.Ytjffhnpoipolfaa
