/-
  Carried over from another seat of ours (QI).
-/
import Derived.Test.YtfamepdghememaaQH
set_option linter.unusedVariables false
set_option linter.unusedSimpArgs false
namespace Go.Proofs.Ytfamepdghememaa
open Go.RowKit Go.Maps Go.WideMaps
attribute [local go_sem] Oper.semAt_some
variable {S S' : Nat → Prop} {W W1 W' : World}
theorem info9 : (Try.prog.info? 9).map (fun i => (i.zero, i.size, i.bytes)) = some (some (.string ⟨#[]⟩), 1, 16) := by kernel_rfl
section
variable {w : World} {ops : Array Oper} {rest : List Oper} {o : Oper} {a : Act} {Q : Exit → Act → World → Prop} {K : Act → World → Prop} {E : Prop}
theorem step_str (hgd : o.guard = none) (x y : Operand)
    (ho : o.op = .call { callee := .builtin .append, args := #[x, y], argTypes := #[45, 45] }) (base p g : Nat) (v : Value) (xs : List Value) (s : ByteArray) (hx : a.eval x = v) (hy : a.eval y = .slice (some ⟨g, 0, none⟩) 1 1)
    (hv : w.ownsRow base 9 1 v p xs) (hs : w.heap[g]? = some (.cells #[.string s] 9 (0, 0))) (hlen : p ≤ 1000) (hbase : base ≤ w.heap.size)
    (h : ∀ v' w', w'.ownsRow base 9 1 v' (p + 1) (xs ++ [.string s]) → w.grownBy w' v.ownBlock → K (a.put o.dst v') w') :
    if Region.wanted o (yielded ops a.tmps) = true then Oper.wp Try.prog o a w K Q else E := by
  have hw : Region.wanted o (yielded ops a.tmps) = true := by simp [Region.wanted, hgd]
  rw [if_pos hw]
  obtain ⟨i0, hi, hz0, hz1, hz2⟩ := info_parts info9
  obtain ⟨v', w', hr, hown, hgrow, _, hloc⟩ := run_append_own_at (P := Try.prog) w base 45 o.type 9 i0 (.string ⟨#[]⟩) 1 16 Try.underlying45 hi hz0 hz1 hz2 rfl (by decide) v p xs hv ⟨g, 0, none⟩ 1 1 [.string s] rfl
    (fun j u hu => by
      rw [Addr.add_lit, Nat.zero_add]
      simp only [World.cell?, hs]
      simpa using hu) (fun u hu => by simp at hu; rw [hu]; rfl) (by unfold maxLen; omega) (by omega) hbase
  unfold Oper.wp execOp
  simp only [ho, resolve, invoke, builtin, Sem.run_bind, Sem.run_pure, Result.andThen_ok, List.map_toArray, List.map_cons, List.map_nil, hx, hy, hr]
  exact h v' w' hown hgrow
end
/-- The names, each once, behind some. -/
def gath : List ByteArray → List ByteArray → List ByteArray → Prop
  | [], l, r => r = l
  | s :: ns, l, r => (s ∈ l ∧ gath ns l r) ∨ (s ∉ l ∧ gath ns (l ++ [s]) r)
/-- What names has gathered: the list in its variable's block, and how often each was met. -/
structure Nz (W : World) (mc oc mb base : Nat) (l : List ByteArray) (t : Nat) : Prop where
  mcell : W.heap[mc]? = some (.cells #[.map (some mb)] 71 (0, 0))
  out : ∃ v, W.heap[oc]? = some (.cells #[v] 45 (0, 0)) ∧ W.ownsRow base 9 1 v l.length (l.map Value.string)
  map : ∃ n R, n ≤ t ∧ Mo W mb (.int .i64 0) n R ∧ ∀ s, (R s = none ∧ s ∉ l) ∨ ∃ k : Nat, R s = some (.int .i64 (k : Int)) ∧ 1 ≤ k ∧ k ≤ t ∧ s ∈ l
theorem Nz.g0 {mc oc mb base t : Nat} {l : List ByteArray} (h : Nz W mc oc mb base l t) (g : Gr (fun _ => False) W W') : Nz W' mc oc mb base l t := by
  obtain ⟨h1, ⟨v, h2, h3⟩, n, R, h4, h5, h6⟩ := h
  exact ⟨g.keep h1 (fun e => e), ⟨v, g.keep h2 (fun e => e), ownsRow_gr h3 g (fun _ _ e => e)⟩, n, R, h4, h5.gr g (fun e => e), h6⟩
theorem cell1 {g : Nat} {v : Value} {t : TypeId} (h : W.heap[g]? = some (.cells #[v] t (0, 0))) : W.cell? ⟨g, 0, none⟩ = some v ∧ W.frozen? ⟨g, 0, none⟩ = false ∧ g < W.heap.size := ⟨by simp [World.cell?, h], by simp [World.frozen?, h], (Array.getElem?_eq_some_iff.1 h).1⟩
abbrev Sb3 (mc g o mb n : Nat) (R : ByteArray → Option Value) (s : ByteArray) (w : World) : Prop := w.cell? ⟨mc, 0, none⟩ = some (.map (some mb)) ∧ w.cell? ⟨g, o + 3, none⟩ = some (.string s) ∧ Mo w mb (.int .i64 0) n R
theorem Ns.g {W W' : World} {S : Nat → Prop} {g o : Nat} {v : Value} (h : Ns W g o v) (t : Gr S W W') (hs : ¬ S g) : Ns W' g o v := fun j u hu => by
  have := h j u hu
  rw [World.cell?_of_block (w' := W') (w := W) (a := ⟨g, o + j, none⟩) (t.block g (World.block_lt_of_cell? W _ this) hs)]
  exact this
abbrev Sa (oc g o : Nat) (v : Value) (s : ByteArray) (w : World) : Prop := w.cell? ⟨oc, 0, none⟩ = some v ∧ w.cell? ⟨g, o + 3, none⟩ = some (.string s)
set_option maxRecDepth 20000 in
set_option maxHeartbeats 1600000 in
theorem look_new (W : World) (mc oc mb lc base : Nat) (l : List ByteArray) (t : Nat) (g o : Nat) (s : ByteArray) (a1 : Option Addr) (c1 : Nat) (a2 : Option Addr) (c2 : Nat) (hN : Nz W mc oc mb base l t) (h : Ns W g o (ts 9 0 0 0 s 0 0 0 a1 0 c1 a2 0 c2)) (hs1 : 1 ≤ s.size) (hs2 : s.size ≤ 32) (hnew : s ∉ l) (hl : l.length ≤ 1000) (ht : t ≤ 1000)
    (hb : mc < base ∧ oc < base ∧ mb < base ∧ g < base ∧ base ≤ W.heap.size) (hne : mc ≠ oc ∧ g ≠ oc) : Calls Try.prog 31 #[ptr g o, pt mc, pt oc, pt lc] W fun e w' => (∃ v, e = .returned v) ∧ Nz w' mc oc mb base (l ++ [s]) (t + 1) ∧ Gr (fun i => i = mb ∨ i = oc ∨ base ≤ i) W w' := by
  obtain ⟨hmc, ⟨v, hoc, hrow⟩, n, R, hn, hM, hR⟩ := hN
  have hRs : R s = none := by
    rcases hR s with h1 | ⟨k, h1, h2, h3, h4⟩
    · exact h1.1
    · exact absurd h4 hnew
  obtain ⟨av, cv, rfl⟩ := ownsRow_sv hrow
  have hlk := fun m => (hM.gr (Gr.drewN W m (fun _ => False)) (fun e => e)).get Try.underlying71 (zero3 _) s (by omega)
  rw [hRs] at hlk
  have HM := Lib.hid hM
  have Hrow := Lib.hid hrow
  have Hoc := Lib.hid hoc
  have Hmc := Lib.hid hmc
  have HNs := Lib.hid h
  have HR := Lib.hid hR
  obtain ⟨c0, c1', c2'⟩ := cell1 hmc
  obtain ⟨d0, d1', d2'⟩ := cell1 hoc
  obtain ⟨f0, f1, f2, f3, f4, f5, f6, f7, f8⟩ := h.facts
  have hgl := h.lt
  have Hb := Lib.hid hb
  have Hne := Lib.hid hne
  have Hl := Lib.hid hl
  have Ht := Lib.hid ht
  have Hn := Lib.hid hn
  have hlk0 := hlk 0
  clear hM hrow hoc hmc h hR hb hne hl ht hn
  go_enter Try.func31, Try.ntmps31
  go_wp2_with fail
  go_quiet (fail)
  go_wp2_with fail
  generalize hX0 : W.drewN nq = X0
  have gX0 : Gr (fun _ => False) W X0 := hX0 ▸ Gr.drewN W nq _
  have sa : Sa oc g o (.slice av l.length cv) s X0.drew := by
    have h1 := ((gX0.trans (Gr.drew X0 _)).keep Hoc.out (fun e => e))
    exact ⟨(cell1 h1).1, ((HNs.out.g (gX0.trans (Gr.drew X0 _)) (fun e => e)).facts).2.2.2.1⟩
  have GX := Lib.hid (gX0.trans (Gr.drew X0 (fun _ => False)))
  clear hX0 gX0 hlk hlk0 c0 c1' c2' d0 d1' d2' f0 f1 f2 f3 f4 f5 f6 f7 f8
  refine wp_region_L (L := 8) (T := Sa oc g o (.slice av l.length cv) s) (by kernel_rfl) ?_
  refine wpAnyL_at (i := 0) (v := (.slice av l.length cv)) (some 18) rfl rfl (by kernel_rfl) (by kernel_rfl) (by kernel_rfl) (by kernel_rfl) (by decide) (fun _ _ _ h => h) (Or.inl ⟨by rfl, ?_⟩) sa ?_
  · intro w hSw
    obtain ⟨q0, q1⟩ := hSw
    go_simp
  try simp only [Act.put, List.setIfInBounds_toArray, List.set_cons_zero, List.set_cons_succ]
  refine wpAnyL_at (i := 1) (v := (ptr g o)) (some 19) rfl rfl (by kernel_rfl) (by kernel_rfl) (by kernel_rfl) (by kernel_rfl) (by decide) (fun _ _ _ h => h) (Or.inl ⟨by rfl, ?_⟩) sa ?_
  · intro w hSw
    obtain ⟨q0, q1⟩ := hSw
    go_simp
  try simp only [Act.put, List.setIfInBounds_toArray, List.set_cons_zero, List.set_cons_succ]
  refine wpAnyL_at (i := 2) (v := (ptr g o)) (some 20) rfl rfl (by kernel_rfl) (by kernel_rfl) (by kernel_rfl) (by kernel_rfl) (by decide) (fun _ _ _ h => h) (Or.inl ⟨by rfl, ?_⟩) sa ?_
  · intro w hSw
    obtain ⟨q0, q1⟩ := hSw
    go_simp
  try simp only [Act.put, List.setIfInBounds_toArray, List.set_cons_zero, List.set_cons_succ]
  refine wpAnyL_at (i := 3) (v := (ptr g (o + 3))) (some 21) rfl rfl (by kernel_rfl) (by kernel_rfl) (by kernel_rfl) (by kernel_rfl) (by decide) (fun _ _ _ h => h) (Or.inl ⟨by rfl, ?_⟩) sa ?_
  · intro w hSw
    obtain ⟨q0, q1⟩ := hSw
    go_simp
  try simp only [Act.put, List.setIfInBounds_toArray, List.set_cons_zero, List.set_cons_succ]
  refine wpAnyL_at (i := 4) (v := (.string s)) (some 22) rfl rfl (by kernel_rfl) (by kernel_rfl) (by kernel_rfl) (by kernel_rfl) (by decide) (fun _ _ _ h => h) (Or.inl ⟨by rfl, ?_⟩) sa ?_
  · intro w hSw
    obtain ⟨q0, q1⟩ := hSw
    go_simp
  try simp only [Act.put, List.setIfInBounds_toArray, List.set_cons_zero, List.set_cons_succ]
  refine wpAnyL_one (i := 5) (by kernel_rfl) rfl (fun K hK => ?_)
  go_simp
  refine (clone_c s _ hs1 hs2).mono ?_
  rintro e w1 ⟨rfl, hbel⟩
  have g1 := Gr.of_below hbel (fun _ => False)
  have G1 := Lib.hid (GX.out.trans g1)
  have sa1 : Sa oc g o (.slice av l.length cv) s w1 := ⟨(cell1 (G1.out.keep Hoc.out (fun e => e))).1, ((HNs.out.g G1.out (fun e => e)).facts).2.2.2.1⟩
  refine hK.out _ _ (fun _ => sa1) ?_
  clear hK K sa hbel g1 GX
  try simp only [Act.put, List.setIfInBounds_toArray, List.set_cons_zero, List.set_cons_succ]
  refine wpAnyL_one (i := 6) (by kernel_rfl) rfl (fun K hK => ?_)
  go_simp
  have G2 := Lib.hid (G1.out.trans (Gr.alloc w1 (.cells #[.string s] 9) (fun _ => False)))
  have sa2 : Sa oc g o (.slice av l.length cv) s (w1.alloc (.cells #[.string s] 9)) := ⟨(cell1 (G2.out.keep Hoc.out (fun e => e))).1, ((HNs.out.g G2.out (fun e => e)).facts).2.2.2.1⟩
  have O2 := Lib.hid (ownsRow_gr Hrow.out G2.out (fun _ _ e => e))
  refine hK.out _ _ (fun _ => sa2) ?_
  clear hK K sa1
  try simp only [Act.put, List.setIfInBounds_toArray, List.set_cons_zero, List.set_cons_succ]
  refine wpAnyL_one (i := 7) (by kernel_rfl) rfl (fun K hK => ?_)
  refine step_str rfl (.tmp 18) (.tmp 24) rfl base l.length w1.heap.size (.slice av l.length cv) (l.map Value.string) s rfl rfl O2.out (heap_alloc_new w1 _) Hl.out (by have := G2.out.size; have := Hb.out; omega) ?_
  intro v' w3 hrow3 hgr3
  have G3 : Hid (Gr (fun i => base ≤ i) W w3) := Lib.hid ((G2.out.mono (fun _ _ e => e.elim)).trans (Gr.of_grown hgr3 (fun k e => (ownsRow_lt O2.out k e).1)))
  have hb' := Hb.out
  have oc3 : Hid (w3.heap[oc]? = some (.cells #[.slice av l.length cv] 45 (0, 0))) := Lib.hid (G3.out.keep Hoc.out (by omega))
  have sa3 : Sa oc g o (.slice av l.length cv) s w3 := ⟨(cell1 oc3.out).1, ((HNs.out.g G3.out (by omega)).facts).2.2.2.1⟩
  obtain ⟨av', cv', rfl⟩ := ownsRow_sv hrow3
  have R3 := Lib.hid hrow3
  obtain ⟨k0, k1, k2⟩ := cell1 oc3.out
  refine hK.out _ _ (fun _ => sa3) ?_
  clear hK K sa2 hgr3 hrow3 O2 G2 G1 sa3
  try simp only [Act.put, List.setIfInBounds_toArray, List.set_cons_zero, List.set_cons_succ]
  refine wpAnyL_one (i := 8) (by kernel_rfl) rfl (fun K hK => ?_)
  go_simp
  refine hK.out _ _ (fun h => absurd rfl h) ?_
  clear hK K
  try simp only [Act.put, List.setIfInBounds_toArray, List.set_cons_zero, List.set_cons_succ]
  refine wpAnyL_done (by kernel_rfl) ?_ _
  refine NoPanic.normal ?_
  have hne' := Hne.out
  have oc4 : Hid ((w3.setCell ⟨oc, 0, none⟩ (.slice av' (l.length + 1) cv')).heap[oc]? = some (.cells #[.slice av' (l.length + 1) cv'] 45 (0, 0))) := Lib.hid (heap_setCell_same w3 oc 0 _ 45 _ oc3.out)
  have gs : Gr (fun i => i = oc) w3 (w3.setCell ⟨oc, 0, none⟩ (.slice av' (l.length + 1) cv')) := Gr.set _ _ _ rfl
  have G4 : Hid (Gr (fun i => i = oc ∨ base ≤ i) W (w3.setCell ⟨oc, 0, none⟩ (.slice av' (l.length + 1) cv'))) := Lib.hid ((G3.out.mono (fun _ _ e => .inr e)).trans (gs.mono (fun _ _ e => .inl e)))
  have R4 := Lib.hid (ownsRow_gr R3.out gs (fun k h e => by omega))
  have N4 := Lib.hid (HNs.out.g G4.out (by omega))
  have M4 : Hid (Mo (w3.setCell ⟨oc, 0, none⟩ (.slice av' (l.length + 1) cv')) mb (.int .i64 0) n R) := Lib.hid (HM.out.gr G4.out (by have := HM.out.ne (cell1 Hoc.out).1; omega))
  have C4 := Lib.hid (G4.out.keep Hmc.out (by omega))
  clear gs G3 R3 k0 k1 k2 oc3
  go_wp2_with fail
  generalize World.setCell w3 _ _ = X4 at oc4 G4 R4 N4 M4 C4 ⊢
  have hs3 : s.size ≤ 1000 := by omega
  have sb : Sb3 mc g o mb n R s X4.drew := ⟨(cell1 ((Gr.drew X4 (fun _ => False)).keep C4.out (fun e => e))).1, ((N4.out.g (Gr.drew X4 (fun _ => False)) (fun e => e)).facts).2.2.2.1, M4.out.gr (Gr.drew X4 (fun _ => False)) (fun e => e)⟩
  obtain ⟨w5, hp5, hM5, hg5, hz5⟩ := sb.2.2.put Try.underlying71 s hs3 (by have := Hn.out; have := Ht.out; omega) (.int .i64 1)
  rw [hRs] at hM5
  have g5 : Gr (fun i => i = mb) X4 w5 := (Gr.drew X4 _).trans hg5
  refine wp_region_L (L := 7) (T := Sb3 mc g o mb n R s) (by kernel_rfl) ?_
  refine wpAnyL_at (i := 0) (v := (.map (some mb))) (some 26) rfl rfl (by kernel_rfl) (by kernel_rfl) (by kernel_rfl) (by kernel_rfl) (by decide) (fun _ _ _ h => h) (Or.inl ⟨by rfl, ?_⟩) sb ?_
  · intro w hSw
    obtain ⟨q0, q1, q2⟩ := hSw
    go_simp
  try simp only [Act.put, List.setIfInBounds_toArray, List.set_cons_zero, List.set_cons_succ]
  refine wpAnyL_at (i := 1) (v := (ptr g o)) (some 27) rfl rfl (by kernel_rfl) (by kernel_rfl) (by kernel_rfl) (by kernel_rfl) (by decide) (fun _ _ _ h => h) (Or.inl ⟨by rfl, ?_⟩) sb ?_
  · intro w hSw
    obtain ⟨q0, q1, q2⟩ := hSw
    go_simp
  try simp only [Act.put, List.setIfInBounds_toArray, List.set_cons_zero, List.set_cons_succ]
  refine wpAnyL_at (i := 2) (v := (ptr g o)) (some 28) rfl rfl (by kernel_rfl) (by kernel_rfl) (by kernel_rfl) (by kernel_rfl) (by decide) (fun _ _ _ h => h) (Or.inl ⟨by rfl, ?_⟩) sb ?_
  · intro w hSw
    obtain ⟨q0, q1, q2⟩ := hSw
    go_simp
  try simp only [Act.put, List.setIfInBounds_toArray, List.set_cons_zero, List.set_cons_succ]
  refine wpAnyL_at (i := 3) (v := (ptr g (o + 3))) (some 29) rfl rfl (by kernel_rfl) (by kernel_rfl) (by kernel_rfl) (by kernel_rfl) (by decide) (fun _ _ _ h => h) (Or.inl ⟨by rfl, ?_⟩) sb ?_
  · intro w hSw
    obtain ⟨q0, q1, q2⟩ := hSw
    go_simp
  try simp only [Act.put, List.setIfInBounds_toArray, List.set_cons_zero, List.set_cons_succ]
  refine wpAnyL_at (i := 4) (v := (.string s)) (some 30) rfl rfl (by kernel_rfl) (by kernel_rfl) (by kernel_rfl) (by kernel_rfl) (by decide) (fun _ _ _ h => h) (Or.inl ⟨by rfl, ?_⟩) sb ?_
  · intro w hSw
    obtain ⟨q0, q1, q2⟩ := hSw
    go_simp
  try simp only [Act.put, List.setIfInBounds_toArray, List.set_cons_zero, List.set_cons_succ]
  refine wpAnyL_at (i := 5) (v := (.int .i64 0)) (some 31) rfl rfl (by kernel_rfl) (by kernel_rfl) (by kernel_rfl) (by kernel_rfl) (by decide) (fun _ _ _ h => h) (Or.inl ⟨by rfl, ?_⟩) sb ?_
  · intro w hSw
    obtain ⟨q0, q1, q2⟩ := hSw
    have q3 := q2.get Try.underlying71 (zero3 _) s (by omega)
    rw [hRs] at q3
    go_simp
  try simp only [Act.put, List.setIfInBounds_toArray, List.set_cons_zero, List.set_cons_succ]
  refine wpAnyL_at (i := 6) (v := (.int .i64 1)) (some 32) rfl rfl (by kernel_rfl) (by kernel_rfl) (by kernel_rfl) (by kernel_rfl) (by decide) (fun _ _ _ h => h) (Or.inl ⟨by rfl, ?_⟩) sb ?_
  · intro w hSw
    obtain ⟨q0, q1, q2⟩ := hSw
    go_simp
    try (first | rfl | (rw [IntKind.wrap_i64]; omega))
  try simp only [Act.put, List.setIfInBounds_toArray, List.set_cons_zero, List.set_cons_succ]
  refine wpAnyL_one (i := 7) (by kernel_rfl) rfl (fun K hK => ?_)
  go_simp
  refine hK.out _ _ (fun h => absurd rfl h) ?_
  clear hK K sb hp5
  try simp only [Act.put, List.setIfInBounds_toArray, List.set_cons_zero, List.set_cons_succ]
  refine wpAnyL_done (by kernel_rfl) ?_ _
  refine NoPanic.normal ?_
  have gne : g ≠ mb := M4.out.ne (N4.out.facts).1
  obtain ⟨f0, f1, f2, f3, f4, f5, f6, f7, f8⟩ := (N4.out.g g5 gne).facts
  have hgl5 := (N4.out.g g5 gne).lt
  go_wp2_with fail
  go_loopw [38] (fun v wr => v = .int .i64 0 ∧ wr = w5) (fun _ _ => 0)
  case atStart => exact ⟨rfl, rfl⟩
  obtain ⟨rfl, rfl⟩ := hrel
  go_wp2_with fail
  refine bodyPost_end (v := .tuple #[]) (by simp [results, Try.results31, go_sem]) rfl ⟨⟨_, rfl⟩, ⟨g5.keep C4.out (by have := M4.out.ne (cell1 C4.out).1; omega), ⟨_, g5.keep oc4.out (by have := M4.out.ne (cell1 oc4.out).1; omega), ?_⟩, n + 1, _, by have := Hn.out; omega, hM5, fun x => ?_⟩, (G4.out.mono (fun _ _ e => .inr e)).trans (g5.mono (fun _ _ e => .inl e))⟩
  · have := ownsRow_gr R4.out g5 (fun k h e => by have := Hb.out; omega)
    rw [List.length_append, List.map_append]; exact this
  · by_cases e : x = s
    · subst e; exact .inr ⟨1, ins_same _ _ _, Nat.le_refl _, by omega, by simp⟩
    · rw [ins_other _ _ e]
      rcases HR.out x with ⟨h1, h2⟩ | ⟨k, h1, h2, h3, h4⟩
      · exact .inl ⟨h1, by simp [h2, e]⟩
      · exact .inr ⟨k, h1, h2, by omega, by simp [h4]⟩
set_option maxRecDepth 20000 in
set_option maxHeartbeats 1600000 in
theorem look_old (W : World) (mc oc mb lc base : Nat) (l : List ByteArray) (t : Nat) (g o : Nat) (s : ByteArray) (a1 : Option Addr) (c1 : Nat) (a2 : Option Addr) (c2 : Nat) (hN : Nz W mc oc mb base l t) (h : Ns W g o (ts 9 0 0 0 s 0 0 0 a1 0 c1 a2 0 c2)) (hs2 : s.size ≤ 32) (hold : s ∈ l) (ht : t ≤ 1000)
    (hb : mb < base) : Calls Try.prog 31 #[ptr g o, pt mc, pt oc, pt lc] W fun e w' => (∃ v, e = .returned v) ∧ Nz w' mc oc mb base l (t + 1) ∧ Gr (fun i => i = mb ∨ i = oc ∨ base ≤ i) W w' := by
  obtain ⟨hmc, ⟨v, hoc, hrow⟩, n, R, hn, hM, hR⟩ := hN
  obtain ⟨k, hRs, hk1, hkt⟩ : ∃ k : Nat, R s = some (.int .i64 (k : Int)) ∧ 1 ≤ k ∧ k ≤ t := by
    rcases hR s with h1 | ⟨k, h1, h2, h3, h4⟩
    · exact absurd hold h1.2
    · exact ⟨k, h1, h2, h3⟩
  have hlk := fun m => (hM.gr (Gr.drewN W m (fun _ => False)) (fun e => e)).get Try.underlying71 (zero3 _) s (by omega)
  have hlk0 := hM.get Try.underlying71 (zero3 W) s (by omega)
  rw [hRs] at hlk hlk0
  have HM := Lib.hid hM
  have Hrow := Lib.hid hrow
  have Hoc := Lib.hid hoc
  have Hmc := Lib.hid hmc
  have HNs := Lib.hid h
  have HR := Lib.hid hR
  obtain ⟨c0, c1', c2'⟩ := cell1 hmc
  obtain ⟨f0, f1, f2, f3, f4, f5, f6, f7, f8⟩ := h.facts
  have hgl := h.lt
  have Ht := Lib.hid ht
  have Hn := Lib.hid hn
  have Hb := Lib.hid hb
  have hkI : ((k : Int) == 0) = false := by simp; omega
  have hk0 : ¬ (k : Int) = 0 := by omega
  have hkb : (k : Int) ≤ 1000 := by omega
  have hkp : (0 : Int) ≤ (k : Int) := by omega
  clear hM hrow hoc hmc h hR ht hn hb
  go_enter Try.func31, Try.ntmps31
  go_wp2_with fail
  go_quiet (fail)
  go_wp2_with fail
  generalize hX0 : W.drewN nq = X4
  have gX0 : Gr (fun _ => False) W X4 := hX0 ▸ Gr.drewN W nq _
  have M4 := Lib.hid (HM.out.gr gX0 (fun e => e))
  have C4 := Lib.hid (gX0.keep Hmc.out (fun e => e))
  have oc4 := Lib.hid (gX0.keep Hoc.out (fun e => e))
  have R4 := Lib.hid (ownsRow_gr Hrow.out gX0 (fun _ _ e => e))
  have N4 := Lib.hid (HNs.out.g gX0 (fun e => e))
  have G4 := Lib.hid gX0
  clear hX0 gX0 hlk hlk0 c0 c1' c2' f0 f1 f2 f3 f4 f5 f6 f7 f8
  have hs3 : s.size ≤ 1000 := by omega
  have sb : Sb3 mc g o mb n R s X4.drew := ⟨(cell1 ((Gr.drew X4 (fun _ => False)).keep C4.out (fun e => e))).1, ((N4.out.g (Gr.drew X4 (fun _ => False)) (fun e => e)).facts).2.2.2.1, M4.out.gr (Gr.drew X4 (fun _ => False)) (fun e => e)⟩
  obtain ⟨w5, hp5, hM5, hg5, hz5⟩ := sb.2.2.put Try.underlying71 s hs3 (by have := Hn.out; have := Ht.out; omega) (.int .i64 ((k : Int) + 1))
  rw [hRs] at hM5
  have g5 : Gr (fun i => i = mb) X4 w5 := (Gr.drew X4 _).trans hg5
  refine wp_region_L (L := 7) (T := Sb3 mc g o mb n R s) (by kernel_rfl) ?_
  refine wpAnyL_at (i := 0) (v := (.map (some mb))) (some 26) rfl rfl (by kernel_rfl) (by kernel_rfl) (by kernel_rfl) (by kernel_rfl) (by decide) (fun _ _ _ h => h) (Or.inl ⟨by rfl, ?_⟩) sb ?_
  · intro w hSw
    obtain ⟨q0, q1, q2⟩ := hSw
    go_simp
  try simp only [Act.put, List.setIfInBounds_toArray, List.set_cons_zero, List.set_cons_succ]
  refine wpAnyL_at (i := 1) (v := (ptr g o)) (some 27) rfl rfl (by kernel_rfl) (by kernel_rfl) (by kernel_rfl) (by kernel_rfl) (by decide) (fun _ _ _ h => h) (Or.inl ⟨by rfl, ?_⟩) sb ?_
  · intro w hSw
    obtain ⟨q0, q1, q2⟩ := hSw
    go_simp
  try simp only [Act.put, List.setIfInBounds_toArray, List.set_cons_zero, List.set_cons_succ]
  refine wpAnyL_at (i := 2) (v := (ptr g o)) (some 28) rfl rfl (by kernel_rfl) (by kernel_rfl) (by kernel_rfl) (by kernel_rfl) (by decide) (fun _ _ _ h => h) (Or.inl ⟨by rfl, ?_⟩) sb ?_
  · intro w hSw
    obtain ⟨q0, q1, q2⟩ := hSw
    go_simp
  try simp only [Act.put, List.setIfInBounds_toArray, List.set_cons_zero, List.set_cons_succ]
  refine wpAnyL_at (i := 3) (v := (ptr g (o + 3))) (some 29) rfl rfl (by kernel_rfl) (by kernel_rfl) (by kernel_rfl) (by kernel_rfl) (by decide) (fun _ _ _ h => h) (Or.inl ⟨by rfl, ?_⟩) sb ?_
  · intro w hSw
    obtain ⟨q0, q1, q2⟩ := hSw
    go_simp
  try simp only [Act.put, List.setIfInBounds_toArray, List.set_cons_zero, List.set_cons_succ]
  refine wpAnyL_at (i := 4) (v := (.string s)) (some 30) rfl rfl (by kernel_rfl) (by kernel_rfl) (by kernel_rfl) (by kernel_rfl) (by decide) (fun _ _ _ h => h) (Or.inl ⟨by rfl, ?_⟩) sb ?_
  · intro w hSw
    obtain ⟨q0, q1, q2⟩ := hSw
    go_simp
  try simp only [Act.put, List.setIfInBounds_toArray, List.set_cons_zero, List.set_cons_succ]
  refine wpAnyL_at (i := 5) (v := (.int .i64 (k : Int))) (some 31) rfl rfl (by kernel_rfl) (by kernel_rfl) (by kernel_rfl) (by kernel_rfl) (by decide) (fun _ _ _ h => h) (Or.inl ⟨by rfl, ?_⟩) sb ?_
  · intro w hSw
    obtain ⟨q0, q1, q2⟩ := hSw
    have q3 := q2.get Try.underlying71 (zero3 _) s (by omega)
    rw [hRs] at q3
    go_simp
  try simp only [Act.put, List.setIfInBounds_toArray, List.set_cons_zero, List.set_cons_succ]
  refine wpAnyL_at (i := 6) (v := (.int .i64 ((k : Int) + 1))) (some 32) rfl rfl (by kernel_rfl) (by kernel_rfl) (by kernel_rfl) (by kernel_rfl) (by decide) (fun _ _ _ h => h) (Or.inl ⟨by rfl, ?_⟩) sb ?_
  · intro w hSw
    obtain ⟨q0, q1, q2⟩ := hSw
    go_simp
    try (first | rfl | (rw [IntKind.wrap_i64]; omega))
  try simp only [Act.put, List.setIfInBounds_toArray, List.set_cons_zero, List.set_cons_succ]
  refine wpAnyL_one (i := 7) (by kernel_rfl) rfl (fun K hK => ?_)
  go_simp
  refine hK.out _ _ (fun h => absurd rfl h) ?_
  clear hK K sb hp5
  try simp only [Act.put, List.setIfInBounds_toArray, List.set_cons_zero, List.set_cons_succ]
  refine wpAnyL_done (by kernel_rfl) ?_ _
  refine NoPanic.normal ?_
  have gne : g ≠ mb := M4.out.ne (N4.out.facts).1
  obtain ⟨f0, f1, f2, f3, f4, f5, f6, f7, f8⟩ := (N4.out.g g5 gne).facts
  have hgl5 := (N4.out.g g5 gne).lt
  go_wp2_with fail
  go_loopw [38] (fun v wr => v = .int .i64 0 ∧ wr = w5) (fun _ _ => 0)
  case atStart => exact ⟨rfl, rfl⟩
  obtain ⟨rfl, rfl⟩ := hrel
  go_wp2_with fail
  refine bodyPost_end (v := .tuple #[]) (by simp [results, Try.results31, go_sem]) rfl ⟨⟨_, rfl⟩, ⟨g5.keep C4.out (by have := M4.out.ne (cell1 C4.out).1; omega), ⟨_, g5.keep oc4.out (by have := M4.out.ne (cell1 oc4.out).1; omega), ownsRow_gr R4.out g5 (fun k h e => by have := Hb.out; omega)⟩, n, _, by have := Hn.out; omega, hM5, fun x => ?_⟩, (G4.out.mono (fun _ _ e => e.elim)).trans (g5.mono (fun _ _ e => .inl e))⟩
  by_cases e : x = s
  · subst e; exact .inr ⟨k + 1, by rw [ins_same]; simp, by omega, by omega, hold⟩
  · rw [ins_other _ _ e]
    rcases HR.out x with ⟨h1, h2⟩ | ⟨k', h1, h2, h3, h4⟩
    · exact .inl ⟨h1, h2⟩
    · exact .inr ⟨k', h1, h2, by omega, h4⟩
end Go.Proofs.Ytfamepdghememaa

