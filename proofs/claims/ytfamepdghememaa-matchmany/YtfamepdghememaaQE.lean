/-
  Carried over from another seat of ours (QE).
-/
import Derived.Test.YtfamepdghememaaUH
set_option linter.unusedVariables false
set_option linter.unusedSimpArgs false
namespace Go.Proofs.Ytfamepdghememaa
open Go.RowKit Go.Maps Go.WideMaps
attribute [local go_sem] Oper.semAt_some
theorem info65 : (Try.prog.info? 65).map (fun i => (i.zero, i.size, i.bytes)) = some (some (.agg #[.pointer none, .pointer none]), 2, 16) := by kernel_rfl
/-- The last j of n pairs, the last first. -/
def prr (pb tb n : Nat) : Nat → List Value
  | 0 => []
  | j + 1 => prr pb tb n j ++ [ptr pb ((n - 1 - j) * 9), ptr tb ((n - 1 - j) * 9)]
theorem prr_len (pb tb n j : Nat) : (prr pb tb n j).length = j * 2 := by
  induction j with
  | zero => rfl
  | succ j ih => rw [prr, List.length_append, ih]; simp; omega
abbrev S4 (xb gp op gt ot : Nat) (pa : Option Addr) (n pc : Nat) (ta : Option Addr) (tc : Nat) (w : World) : Prop := w.cell? ⟨xb, 0, none⟩ = some (ptr gp op) ∧ w.cell? ⟨xb, 1, none⟩ = some (ptr gt ot) ∧ w.cell? ⟨gp, op + 8, none⟩ = some (.slice pa n pc) ∧ w.cell? ⟨gt, ot + 8, none⟩ = some (.slice ta n tc)
theorem S4.gr {xb gp op gt ot n pc tc : Nat} {pa ta : Option Addr} {w w' : World} (h : S4 xb gp op gt ot pa n pc ta tc w) (g : Gr (fun k => xb < k ∧ gp ≠ k ∧ gt ≠ k) w w') : S4 xb gp op gt ot pa n pc ta tc w' := by
  obtain ⟨h0, h1, h2, h3⟩ := h
  have e : ∀ b o u, w.cell? ⟨b, o, none⟩ = some u → ¬ (xb < b ∧ gp ≠ b ∧ gt ≠ b) → w'.cell? ⟨b, o, none⟩ = some u := fun b o u hu hn => by
    rw [World.cell?_of_block (w' := w') (w := w) (a := ⟨b, o, none⟩) (g.block b (World.block_lt_of_cell? _ _ hu) hn)]; exact hu
  exact ⟨e _ _ _ h0 (by omega), e _ _ _ h1 (by omega), e _ _ _ h2 (by omega), e _ _ _ h3 (by omega)⟩
section
variable {w : World} {ops : Array Oper} {rest : List Oper} {o : Oper} {a : Act} {Q : Exit → Act → World → Prop} {K : Act → World → Prop} {E : Prop}
theorem step_two (hgd : o.guard = none) (x y : Operand)
    (ho : o.op = .call { callee := .builtin .append, args := #[x, y], argTypes := #[66, 66] }) (base p g : Nat) (v : Value) (xs : List Value) (u1 u2 : Value) (h1c : u1.oneCell' = true) (h2c : u2.oneCell' = true) (hx : a.eval x = v) (hy : a.eval y = .slice (some ⟨g, 0, none⟩) 1 1)
    (hv : w.ownsRow base 65 2 v p xs) (hs : w.heap[g]? = some (.cells #[u1, u2] 65 (0, 0))) (hlen : p ≤ 1000) (hbase : base ≤ w.heap.size)
    (h : ∀ v' w', w'.ownsRow base 65 2 v' (p + 1) (xs ++ [u1, u2]) → w.grownBy w' v.ownBlock → (v'.ownBlock = v.ownBlock ∨ v'.ownBlock = some w.heap.size) → K (a.put o.dst v') w') :
    if Region.wanted o (yielded ops a.tmps) = true then Oper.wp Try.prog o a w K Q else E := by
  have hw : Region.wanted o (yielded ops a.tmps) = true := by simp [Region.wanted, hgd]
  rw [if_pos hw]
  obtain ⟨i0, hi, hz0, hz1, hz2⟩ := info_parts info65
  obtain ⟨v', w', hr, hown, hgrow, _, hloc⟩ := run_append_own_at (P := Try.prog) w base 66 o.type 65 i0 (.agg #[.pointer none, .pointer none]) 2 16 Try.underlying66 hi hz0 hz1 hz2 rfl (by decide) v p xs hv ⟨g, 0, none⟩ 1 1 [u1, u2] rfl
    (fun j u hu => by
      rw [Addr.add_lit, Nat.zero_add]
      simp only [World.cell?, hs]
      simpa using hu) (fun u hu => by simp at hu; rcases hu with rfl | rfl; exact h1c; exact h2c) (by unfold maxLen; omega) (by omega) hbase
  unfold Oper.wp execOp
  simp only [ho, resolve, invoke, builtin, Sem.run_bind, Sem.run_pure, Result.andThen_ok, List.map_toArray, List.map_cons, List.map_nil, hx, hy, hr]
  exact h v' w' hown hgrow hloc
end
set_option maxRecDepth 20000 in
set_option maxHeartbeats 1600000 in
theorem elements_c (W : World) (gp op gt ot pb n pc tb tc : Nat) (pa ta : Option Addr) (hn : n ≤ 256) (hpa : 0 < n → pa = some ⟨pb, 0, none⟩ ∧ n ≤ pc) (hta : 0 < n → ta = some ⟨tb, 0, none⟩ ∧ n ≤ tc) (h2 : W.cell? ⟨gp, op + 8, none⟩ = some (.slice pa n pc)) (h3 : W.cell? ⟨gt, ot + 8, none⟩ = some (.slice ta n tc)) :
    Calls Try.prog 28 #[.agg #[ptr gp op, ptr gt ot]] W fun e w' => ∃ v, e = .returned v ∧ w'.ownsRow W.heap.size 65 2 v n (prr pb tb n n) ∧ Gr (fun _ => False) W w' := by
  have hgp : gp < W.heap.size := World.block_lt_of_cell? _ _ h2
  have hgt : gt < W.heap.size := World.block_lt_of_cell? _ _ h3
  have hnI : (n : Int) ≤ 256 := by omega
  have hn0 : (0 : Int) ≤ (n : Int) := by omega
  have Hpa := Lib.hid hpa
  have Hta := Lib.hid hta
  obtain ⟨i0, hi0, hz0, hz1, hz2⟩ := info_parts info65
  obtain ⟨wm, hmk, hown, hgr⟩ := run_make_own (P := Try.prog) (W.alloc (.cells #[ptr gp op, ptr gt ot] 65)) (W.heap.size + 1) 66 65 i0 _ 2 Try.underlying66 hi0 hz0 hz1 .i64 .i64 n (by rw [hz2]; omega) (by unfold maxLen; omega) (by simp)
  have gm : Gr (fun _ => False) (W.alloc (.cells #[ptr gp op, ptr gt ot] 65)) wm := Gr.of_grown hgr (fun k e => by cases e)
  have hS0 : S4 W.heap.size gp op gt ot pa n pc ta tc wm := by
    have hb := gm.keep (heap_alloc_new W (.cells #[ptr gp op, ptr gt ot] 65)) (fun e => e)
    have gall := (Gr.alloc W (.cells #[ptr gp op, ptr gt ot] 65) (fun _ => False)).trans gm
    refine ⟨by simp only [World.cell?, hb]; rfl, by simp only [World.cell?, hb]; rfl, ?_, ?_⟩
    · rw [World.cell?_of_block (w' := wm) (w := W) (a := ⟨gp, op + 8, none⟩) (gall.block gp hgp (fun e => e))]; exact h2
    · rw [World.cell?_of_block (w' := wm) (w := W) (a := ⟨gt, ot + 8, none⟩) (gall.block gt hgt (fun e => e))]; exact h3
  have HS0 := Lib.hid hS0
  have HO0 := Lib.hid hown
  have HG0 := Lib.hid ((Gr.alloc W (.cells #[ptr gp op, ptr gt ot] 65) (fun _ => False)).trans gm)
  have hne1 : ¬ gp = W.heap.size := by omega
  have hne2 : ¬ gt = W.heap.size := by omega
  obtain ⟨⟨k0, k1, k2, k3⟩⟩ := And.intro hS0 trivial
  rw [World.size_alloc] at hmk HO0
  clear hown hgr gm hS0 hpa hta hn
  go_enter Try.func28, Try.ntmps28
  go_wp2_with fail
  go_loopw [3, 4] (fun v u wr => ∃ j : Nat, u = .int .i64 ((n : Int) - 1 - (j : Int)) ∧ Hid (j ≤ n) ∧ Hid (wr.ownsRow (W.heap.size + 1) 65 2 v j (prr pb tb n j)) ∧ Hid (S4 W.heap.size gp op gt ot pa n pc ta tc wr) ∧ Hid (Gr (fun _ => False) W wr)) (fun v u _ => (intOf u + 1).toNat)
  case atStart => exact ⟨0, by simp, Lib.hid (Nat.zero_le _), HO0, HS0, HG0⟩
  case round =>
    obtain ⟨j, rfl, hj, HO, HS, HG⟩ := hrel
    obtain ⟨av, cv, rfl⟩ := ownsRow_sv HO.out
    clear HS0 HO0 HG0 k0 k1 k2 k3 hmk
    rcases Nat.lt_or_ge j n with hl | hl
    · obtain ⟨i, hi⟩ : ∃ i, n - 1 - j = i := ⟨_, rfl⟩
      have hiI : (n : Int) - 1 - (j : Int) = (i : Int) := by omega
      rw [hiI]
      have hii : (i : Int) < (n : Int) := by omega
      have hi00 : (0 : Int) ≤ (i : Int) := by omega
      have hil : i < n := by omega
      have Hi := Lib.hid hi
      obtain ⟨e1, hpc⟩ := Hpa.out (by omega)
      obtain ⟨e2, htc⟩ := Hta.out (by omega)
      subst e1 e2
      have hpcI : (n : Int) ≤ (pc : Int) := by omega
      have htcI : (n : Int) ≤ (tc : Int) := by omega
      clear hpc htc
      have Hl := Lib.hid hl
      clear hi hl hiI
      go_wp2_with fail
      have s4 : S4 W.heap.size gp op gt ot (some ⟨pb, 0, none⟩) n pc (some ⟨tb, 0, none⟩) tc wr.drew := HS.out
      refine wp_region_L (L := 18) (T := S4 W.heap.size gp op gt ot (some ⟨pb, 0, none⟩) n pc (some ⟨tb, 0, none⟩) tc) (by kernel_rfl) ?_
      refine wpAnyL_at (i := 0) (v := (.slice av j cv)) (some 23) rfl rfl (by kernel_rfl) (by kernel_rfl) (by kernel_rfl) (by kernel_rfl) (by decide) (fun _ _ _ h => h) (Or.inl ⟨by rfl, ?_⟩) s4 ?_
      · intro w hSw
        obtain ⟨q0, q1, q2, q3⟩ := hSw
        go_simp
      try simp only [Act.put, List.setIfInBounds_toArray, List.set_cons_zero, List.set_cons_succ]
      refine wpAnyL_at (i := 1) (v := (ptr W.heap.size 0)) (some 24) rfl rfl (by kernel_rfl) (by kernel_rfl) (by kernel_rfl) (by kernel_rfl) (by decide) (fun _ _ _ h => h) (Or.inl ⟨by rfl, ?_⟩) s4 ?_
      · intro w hSw
        obtain ⟨q0, q1, q2, q3⟩ := hSw
        go_simp
      try simp only [Act.put, List.setIfInBounds_toArray, List.set_cons_zero, List.set_cons_succ]
      refine wpAnyL_at (i := 2) (v := (ptr gp op)) (some 25) rfl rfl (by kernel_rfl) (by kernel_rfl) (by kernel_rfl) (by kernel_rfl) (by decide) (fun _ _ _ h => h) (Or.inl ⟨by rfl, ?_⟩) s4 ?_
      · intro w hSw
        obtain ⟨q0, q1, q2, q3⟩ := hSw
        go_simp
      try simp only [Act.put, List.setIfInBounds_toArray, List.set_cons_zero, List.set_cons_succ]
      refine wpAnyL_at (i := 3) (v := (ptr gp op)) (some 26) rfl rfl (by kernel_rfl) (by kernel_rfl) (by kernel_rfl) (by kernel_rfl) (by decide) (fun _ _ _ h => h) (Or.inl ⟨by rfl, ?_⟩) s4 ?_
      · intro w hSw
        obtain ⟨q0, q1, q2, q3⟩ := hSw
        go_simp
      try simp only [Act.put, List.setIfInBounds_toArray, List.set_cons_zero, List.set_cons_succ]
      refine wpAnyL_at (i := 4) (v := (ptr gp (op + 8))) (some 27) rfl rfl (by kernel_rfl) (by kernel_rfl) (by kernel_rfl) (by kernel_rfl) (by decide) (fun _ _ _ h => h) (Or.inl ⟨by rfl, ?_⟩) s4 ?_
      · intro w hSw
        obtain ⟨q0, q1, q2, q3⟩ := hSw
        go_simp
      try simp only [Act.put, List.setIfInBounds_toArray, List.set_cons_zero, List.set_cons_succ]
      refine wpAnyL_at (i := 5) (v := (.slice (some ⟨pb, 0, none⟩) n pc)) (some 28) rfl rfl (by kernel_rfl) (by kernel_rfl) (by kernel_rfl) (by kernel_rfl) (by decide) (fun _ _ _ h => h) (Or.inl ⟨by rfl, ?_⟩) s4 ?_
      · intro w hSw
        obtain ⟨q0, q1, q2, q3⟩ := hSw
        go_simp
      try simp only [Act.put, List.setIfInBounds_toArray, List.set_cons_zero, List.set_cons_succ]
      refine wpAnyL_at (i := 6) (v := (.int .i64 (i : Int))) (some 29) rfl rfl (by kernel_rfl) (by kernel_rfl) (by kernel_rfl) (by kernel_rfl) (by decide) (fun _ _ _ h => h) (Or.inl ⟨by rfl, ?_⟩) s4 ?_
      · intro w hSw
        obtain ⟨q0, q1, q2, q3⟩ := hSw
        go_simp
      try simp only [Act.put, List.setIfInBounds_toArray, List.set_cons_zero, List.set_cons_succ]
      refine wpAnyL_at (i := 7) (v := (ptr pb (i * 9))) (some 30) rfl rfl (by kernel_rfl) (by kernel_rfl) (by kernel_rfl) (by kernel_rfl) (by decide) (fun _ _ _ h => h) (Or.inl ⟨by rfl, ?_⟩) s4 ?_
      · intro w hSw
        obtain ⟨q0, q1, q2, q3⟩ := hSw
        go_simp
      try simp only [Act.put, List.setIfInBounds_toArray, List.set_cons_zero, List.set_cons_succ]
      refine wpAnyL_at (i := 8) (v := (ptr W.heap.size 1)) (some 31) rfl rfl (by kernel_rfl) (by kernel_rfl) (by kernel_rfl) (by kernel_rfl) (by decide) (fun _ _ _ h => h) (Or.inl ⟨by rfl, ?_⟩) s4 ?_
      · intro w hSw
        obtain ⟨q0, q1, q2, q3⟩ := hSw
        go_simp
      try simp only [Act.put, List.setIfInBounds_toArray, List.set_cons_zero, List.set_cons_succ]
      refine wpAnyL_at (i := 9) (v := (ptr gt ot)) (some 32) rfl rfl (by kernel_rfl) (by kernel_rfl) (by kernel_rfl) (by kernel_rfl) (by decide) (fun _ _ _ h => h) (Or.inl ⟨by rfl, ?_⟩) s4 ?_
      · intro w hSw
        obtain ⟨q0, q1, q2, q3⟩ := hSw
        go_simp
      try simp only [Act.put, List.setIfInBounds_toArray, List.set_cons_zero, List.set_cons_succ]
      refine wpAnyL_at (i := 10) (v := (ptr gt ot)) (some 33) rfl rfl (by kernel_rfl) (by kernel_rfl) (by kernel_rfl) (by kernel_rfl) (by decide) (fun _ _ _ h => h) (Or.inl ⟨by rfl, ?_⟩) s4 ?_
      · intro w hSw
        obtain ⟨q0, q1, q2, q3⟩ := hSw
        go_simp
      try simp only [Act.put, List.setIfInBounds_toArray, List.set_cons_zero, List.set_cons_succ]
      refine wpAnyL_at (i := 11) (v := (ptr gt (ot + 8))) (some 34) rfl rfl (by kernel_rfl) (by kernel_rfl) (by kernel_rfl) (by kernel_rfl) (by decide) (fun _ _ _ h => h) (Or.inl ⟨by rfl, ?_⟩) s4 ?_
      · intro w hSw
        obtain ⟨q0, q1, q2, q3⟩ := hSw
        go_simp
      try simp only [Act.put, List.setIfInBounds_toArray, List.set_cons_zero, List.set_cons_succ]
      refine wpAnyL_at (i := 12) (v := (.slice (some ⟨tb, 0, none⟩) n tc)) (some 35) rfl rfl (by kernel_rfl) (by kernel_rfl) (by kernel_rfl) (by kernel_rfl) (by decide) (fun _ _ _ h => h) (Or.inl ⟨by rfl, ?_⟩) s4 ?_
      · intro w hSw
        obtain ⟨q0, q1, q2, q3⟩ := hSw
        go_simp
      try simp only [Act.put, List.setIfInBounds_toArray, List.set_cons_zero, List.set_cons_succ]
      refine wpAnyL_at (i := 13) (v := (.int .i64 (i : Int))) (some 36) rfl rfl (by kernel_rfl) (by kernel_rfl) (by kernel_rfl) (by kernel_rfl) (by decide) (fun _ _ _ h => h) (Or.inl ⟨by rfl, ?_⟩) s4 ?_
      · intro w hSw
        obtain ⟨q0, q1, q2, q3⟩ := hSw
        go_simp
      try simp only [Act.put, List.setIfInBounds_toArray, List.set_cons_zero, List.set_cons_succ]
      refine wpAnyL_at (i := 14) (v := (ptr tb (i * 9))) (some 37) rfl rfl (by kernel_rfl) (by kernel_rfl) (by kernel_rfl) (by kernel_rfl) (by decide) (fun _ _ _ h => h) (Or.inl ⟨by rfl, ?_⟩) s4 ?_
      · intro w hSw
        obtain ⟨q0, q1, q2, q3⟩ := hSw
        go_simp
      try simp only [Act.put, List.setIfInBounds_toArray, List.set_cons_zero, List.set_cons_succ]
      refine wpAnyL_at (i := 15) (v := (.agg #[ptr pb (i * 9), ptr tb (i * 9)])) (some 38) rfl rfl (by kernel_rfl) (by kernel_rfl) (by kernel_rfl) (by kernel_rfl) (by decide) (fun _ _ _ h => h) (Or.inl ⟨by rfl, ?_⟩) s4 ?_
      · intro w hSw
        obtain ⟨q0, q1, q2, q3⟩ := hSw
        go_simp
      try simp only [Act.put, List.setIfInBounds_toArray, List.set_cons_zero, List.set_cons_succ]
      refine wpAnyL_one (i := 16) (by kernel_rfl) rfl (fun K hK => ?_)
      go_simp
      have s5 : S4 W.heap.size gp op gt ot (some ⟨pb, 0, none⟩) n pc (some ⟨tb, 0, none⟩) tc (wr.alloc (.cells #[ptr pb (i * 9), ptr tb (i * 9)] 65)).drew := HS.out.gr ((Gr.alloc _ _ _).trans (Gr.drew _ _))
      have o5 : Hid ((wr.alloc (.cells #[ptr pb (i * 9), ptr tb (i * 9)] 65)).drew.ownsRow (W.heap.size + 1) 65 2 (.slice av j cv) j (prr pb tb n j)) := Lib.hid (ownsRow_gr HO.out ((Gr.alloc wr _ (fun _ => False)).trans (Gr.drew _ _)) (fun _ _ e => e))
      have b5 : Hid ((wr.alloc (.cells #[ptr pb (i * 9), ptr tb (i * 9)] 65)).drew.heap[wr.heap.size]? = some (.cells #[ptr pb (i * 9), ptr tb (i * 9)] 65 (0, 0))) := Lib.hid (heap_alloc_new wr _)
      have z5 : Hid (W.heap.size + 1 ≤ (wr.alloc (.cells #[ptr pb (i * 9), ptr tb (i * 9)] 65)).drew.heap.size) := Lib.hid (by have := HG.out.size; show _ ≤ (wr.alloc _).heap.size; rw [World.size_alloc]; omega)
      have g5 : Hid (Gr (fun _ => False) W (wr.alloc (.cells #[ptr pb (i * 9), ptr tb (i * 9)] 65)).drew) := Lib.hid ((HG.out.trans (Gr.alloc _ _ _)).trans (Gr.drew _ _))
      refine hK.out _ _ (fun _ => s5) ?_
      clear hK K
      try simp only [Act.put, List.setIfInBounds_toArray, List.set_cons_zero, List.set_cons_succ]
      refine wpAnyL_one (i := 17) (by kernel_rfl) rfl (fun K hK => ?_)
      refine step_two rfl (.tmp 23) (.tmp 39) rfl (W.heap.size + 1) j wr.heap.size (.slice av j cv) (prr pb tb n j) (ptr pb (i * 9)) (ptr tb (i * 9)) rfl rfl rfl rfl o5.out b5.out (by have := hj.out; omega) z5.out ?_
      intro v' w' hown' hgrow' hloc'
      obtain ⟨av', cv', rfl⟩ := ownsRow_sv hown'
      have hlt := fun k e => (ownsRow_lt o5.out k e).1
      have s6 : S4 W.heap.size gp op gt ot (some ⟨pb, 0, none⟩) n pc (some ⟨tb, 0, none⟩) tc w' := s5.gr (Gr.of_grown hgrow' (fun k e => by have := hlt k e; omega))
      have g6 : Hid (Gr (fun _ => False) W w') := Lib.hid (g5.out.trans' (Gr.of_grown (S := fun k => W.heap.size + 1 ≤ k) hgrow' (fun k e => hlt k e)) (fun k hk e => by omega))
      have o6 : Hid (w'.ownsRow (W.heap.size + 1) 65 2 (.slice av' (j + 1) cv') (j + 1) (prr pb tb n (j + 1))) := Lib.hid (by rw [prr, Hi.out]; exact hown')
      have S6 := Lib.hid s6
      refine hK.out _ _ (fun _ => s6) ?_
      clear hK K hown' hgrow' hloc' hlt s4 s5 s6 o5 b5 z5 g5 HO HS HG
      try simp only [Act.put, List.setIfInBounds_toArray, List.set_cons_zero, List.set_cons_succ]
      refine wpAnyL_one (i := 18) (by kernel_rfl) rfl (fun K hK => ?_)
      go_simp
      refine hK.out _ _ (fun h => absurd rfl h) ?_
      clear hK K
      try simp only [Act.put, List.setIfInBounds_toArray, List.set_cons_zero, List.set_cons_succ]
      refine wpAnyL_done (by kernel_rfl) ?_ _
      refine NoPanic.normal ?_
      go_wp2_with fail
      refine ⟨⟨j + 1, ?_, Lib.hid Hl.out, o6, S6, g6⟩, ?_⟩
      · have := Hi.out; have := Hl.out; congr 1; omega
      · simp [intOf]
    · have e : j = n := by have := hj.out; omega
      subst e
      have hiI : (j : Int) - 1 - (j : Int) = -1 := by omega
      rw [hiI]
      clear hl
      go_wp2_with fail
      go_ret
      exact ⟨_, rfl, ownsRow_mono HO.out (Nat.le_succ _), HG.out⟩
end Go.Proofs.Ytfamepdghememaa

