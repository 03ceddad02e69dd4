/-
  A call of the program as a script has it: do.
-/
import Derived.Test.YtjffhnpoipolfaaL
set_option linter.unusedVariables false
set_option linter.unusedSimpArgs false
namespace Go.Proofs.Ytjffhnpoipolfaa
open Go.RowKit Go.Maps Go.WideMaps
variable {S S' : Nat → Prop} {W W1 W' : World}

/-- A call as a value. -/
abbrev ov (k f t i a m : Int) (bv : Value) : Value := .agg #[.int .i64 k, .int .i64 f, .int .i64 t, .int .i64 i, .int .i64 a, .int .u32 m, bv]
theorem seven {W : World} {b : Nat} {v0 v1 v2 v3 v4 v5 v6 : Value} {t : TypeId} (h : W.heap[b]? = some (.cells #[v0, v1, v2, v3, v4, v5, v6] t (0, 0))) :
    W.cell? ⟨b, 0, none⟩ = some v0 ∧ W.cell? ⟨b, 1, none⟩ = some v1 ∧ W.cell? ⟨b, 2, none⟩ = some v2 ∧ W.cell? ⟨b, 3, none⟩ = some v3 ∧ W.cell? ⟨b, 4, none⟩ = some v4 ∧ W.cell? ⟨b, 5, none⟩ = some v5 ∧ W.cell? ⟨b, 6, none⟩ = some v6 := by
  simp [World.cell?, h]
section
variable {w : World} {ops : Array Oper} {o : Oper} {a : Act} {Q : Exit → Act → World → Prop} {K : Act → World → Prop} {E : Prop}
theorem step_ret2 {f t t' : Nat} (x y : Operand) (u u' : Value) {M : World → Int → Prop} (hgd : o.guard = none) (ho : o.op = .call { callee := .value (.func f), args := #[x, y], argTypes := #[t, t'] }) (hx : a.eval x = u) (hy : a.eval y = u') (eg : ∀ args w, (callFunc f args).run Try.prog w = .ok (.enter f args) w)
    (hc : Calls Try.prog f #[u, u'] w fun e w' => ∃ c, e = .returned (.int .i64 c) ∧ M w' c) (h : ∀ c w', M w' c → K (a.put o.dst (.int .i64 c)) w') :
    if Region.wanted o (yielded ops a.tmps) = true then Oper.wp Try.prog o a w K Q else E :=
  step_fn2 x y u u' hgd ho hx hy eg hc (fun e w' hm => by obtain ⟨c, rfl, hm⟩ := hm; exact h c w' hm)
theorem step_ret4 {f t0 t1 t2 t3 : Nat} (x0 x1 x2 x3 : Operand) (u0 u1 u2 u3 : Value) {M : World → Int → Prop} (hgd : o.guard = none) (ho : o.op = .call { callee := .value (.func f), args := #[x0, x1, x2, x3], argTypes := #[t0, t1, t2, t3] }) (h0 : a.eval x0 = u0) (h1 : a.eval x1 = u1) (h2 : a.eval x2 = u2) (h3 : a.eval x3 = u3) (eg : ∀ args w, (callFunc f args).run Try.prog w = .ok (.enter f args) w)
    (hc : Calls Try.prog f #[u0, u1, u2, u3] w fun e w' => ∃ c, e = .returned (.int .i64 c) ∧ M w' c) (h : ∀ c w', M w' c → K (a.put o.dst (.int .i64 c)) w') :
    if Region.wanted o (yielded ops a.tmps) = true then Oper.wp Try.prog o a w K Q else E := by
  have hw : Region.wanted o (yielded ops a.tmps) = true := by simp [Region.wanted, hgd]
  rw [if_pos hw]
  unfold Oper.wp execOp
  have hf : a.eval (.func f) = .func (.func f) #[] #[] := rfl
  simp only [ho, resolve, invoke, Deferred.ofValue, Sem.run_bind, Sem.run_pure, Result.andThen_ok, List.map_toArray, List.map_cons, List.map_nil, h0, h1, h2, h3, hf, Array.append_empty, eg]
  refine (show Calls Try.prog f #[u0, u1, u2, u3] w _ from hc.mono (fun e w' hm => by obtain ⟨c, rfl, hm⟩ := hm; exact h c w' hm))
end
/-- The three blocks of do: the call, the answer, none. -/
structure B3 (W0 W : World) (k f t i a m : Int) (bv : Value) : Prop where
  o : W.heap[W0.heap.size]? = some (.cells #[.int .i64 k, .int .i64 f, .int .i64 t, .int .i64 i, .int .i64 a, .int .u32 m, bv] 36 (0, 0))
  r : W.heap[W0.heap.size + 1]? = some (.cells #[.int .i64 0, .int .i64 0, .int .u64 0, nl, .bool false] 39 (0, 0))
  n : W.heap[W0.heap.size + 1 + 1]? = some (.cells #[.int .i64 0, .int .i64 0, .int .u64 0, nl, .bool false] 39 (0, 0))
abbrev W3 (W : World) (k f t i a m : Int) (bv : Value) : World := ((W.alloc (.cells #[.int .i64 k, .int .i64 f, .int .i64 t, .int .i64 i, .int .i64 a, .int .u32 m, bv] 36)).alloc (.cells #[.int .i64 0, .int .i64 0, .int .u64 0, nl, .bool false] 39)).alloc (.cells #[.int .i64 0, .int .i64 0, .int .u64 0, nl, .bool false] 39)
theorem b3_new (W : World) (k f t i a m : Int) (bv : Value) : B3 W (W3 W k f t i a m bv) k f t i a m bv ∧ G0 W (W3 W k f t i a m bv) ∧ (W3 W k f t i a m bv).heap.size = W.heap.size + 3 := by
  refine ⟨⟨?_, ?_, ?_⟩, (Gr.alloc W _ _).trans ((Gr.alloc _ _ _).trans (Gr.alloc _ _ _)), by simp [W3]⟩
  · rw [W3, heap_alloc_old _ _ (by simp; omega), heap_alloc_old _ _ (by simp), heap_alloc_new]
  · rw [W3, heap_alloc_old _ _ (by simp)]; have := heap_alloc_new (W.alloc (.cells #[.int .i64 k, .int .i64 f, .int .i64 t, .int .i64 i, .int .i64 a, .int .u32 m, bv] 36)) (.cells #[.int .i64 0, .int .i64 0, .int .u64 0, nl, .bool false] 39); rw [size_alloc] at this; exact this
  · rw [W3]; have := heap_alloc_new ((W.alloc (.cells #[.int .i64 k, .int .i64 f, .int .i64 t, .int .i64 i, .int .i64 a, .int .u32 m, bv] 36)).alloc (.cells #[.int .i64 0, .int .i64 0, .int .u64 0, nl, .bool false] 39)) (.cells #[.int .i64 0, .int .i64 0, .int .u64 0, nl, .bool false] 39); rw [size_alloc, size_alloc] at this; exact this
theorem B3.kept {W0 : World} {k f t i a m : Int} {bv : Value} (h : B3 W0 W k f t i a m bv) (hk : ∀ j, W0.heap.size ≤ j → j < W0.heap.size + 3 → W'.heap[j]? = W.heap[j]?) : B3 W0 W' k f t i a m bv :=
  ⟨(hk _ (Nat.le_refl _) (by omega)).trans h.o, (hk _ (by omega) (by omega)).trans h.r, (hk _ (by omega) (by omega)).trans h.n⟩
/-- What a callee of do leaves alone. -/
def Lets (W0 W : World) (M : World → World → Int → Prop) : Prop := ∀ W1 w c, G0 W0 W1 → W1.heap.size = W0.heap.size + 3 → M W1 w c → W1.heap.size ≤ w.heap.size ∧ ∀ j, W0.heap.size ≤ j → j < W0.heap.size + 3 → w.heap[j]? = W1.heap[j]?
/-- Behind do. -/
def Did (W : World) (M : World → World → Int → Prop) (e : Ending) (w' : World) : Prop :=
  ∃ c W1 w1, e = .returned (.tuple #[zdv, .bool false, .int .i64 c]) ∧ G0 W W1 ∧ W1.heap.size = W.heap.size + 3 ∧ M W1 w1 c ∧ Gr (fun j => W.heap.size ≤ j ∧ j < W.heap.size + 3) w1 w'
set_option maxRecDepth 20000 in
set_option maxHeartbeats 1600000 in
theorem do_1 (W : World) (pv : Value) (f t i a m : Int) (bv : Value) (M : World → World → Int → Prop) (hpv : ∃ q, pv = .pointer q) (hM : Lets W W M)
    (hc : ∀ W1, G0 W W1 → W1.heap.size = W.heap.size + 3 → Calls Try.prog 23 #[pv, .int .i64 i] W1 fun e w' => ∃ c, e = .returned (.int .i64 c) ∧ M W1 w' c) :
    Calls Try.prog 12 #[pv, ov 1 f t i a m bv] W (Did W M) := by
  obtain ⟨q, rfl⟩ := hpv
  obtain ⟨hb, hg, hsz⟩ := b3_new W 1 f t i a m bv
  have gd := hg.trans (Gr.drew _ _)
  have eg : ∀ args w, (callFunc 23 args).run Try.prog w = .ok (.enter 23 args) w := enters_of Try.func23 (by kernel_rfl) rfl
  have Hc := Lib.hid (hc _ gd hsz)
  have Hg := Lib.hid gd
  have HM := Lib.hid hM
  have Hsz := Lib.hid hsz
  have Hb : Hid (B3 W (W3 W 1 f t i a m bv).drew 1 f t i a m bv) := Lib.hid ⟨hb.o, hb.r, hb.n⟩
  clear hc hg hM hsz gd hb
  go_enter Try.func12, Try.ntmps12
  go_wp2_with fail
  go_region_law (first
    | (refine step_ret2 _ _ (Value.pointer q) (.int .i64 i) rfl rfl rfl rfl eg Hc.out ?_; intro c w1 hm1; obtain ⟨hs1, hk1⟩ := HM.out _ _ _ Hg.out Hsz.out hm1; have hB1 := Hb.out.kept hk1; obtain ⟨p0, p1, p2, p3, p4, p5, p6⟩ := seven hB1.o; obtain ⟨q0, q1, q2, q3, q4, q5, q6, q7, q8, q9⟩ := five hB1.r; obtain ⟨n0, n1, n2, n3, n4, n5, n6, n7, n8, n9⟩ := five hB1.n; have Hm1 := Lib.hid hm1; clear hm1 hk1 hs1))
  all_goals
    go_wp2
    refine bodyPost_ret (v := .tuple #[zdv, .bool false, .int .i64 c]) (by simp [results, Try.results12, go_sem, q0, q1, q2, q3, q4]) rfl ?_
    exact ⟨c, _, w1, rfl, Hg.out, Hsz.out, Hm1.out, (Gr.refl _ _).cell5 _ _ _ _ _ _ (.inl ⟨by omega, by omega⟩)⟩
set_option maxRecDepth 20000 in
set_option maxHeartbeats 1600000 in
theorem do_2 (W : World) (pv : Value) (f t i a m : Int) (bv : Value) (M : World → World → Int → Prop) (hpv : ∃ q, pv = .pointer q) (hM : Lets W W M)
    (hc : ∀ W1, G0 W W1 → W1.heap.size = W.heap.size + 3 → Calls Try.prog 25 #[pv, .int .i64 i] W1 fun e w' => ∃ c, e = .returned (.int .i64 c) ∧ M W1 w' c) :
    Calls Try.prog 12 #[pv, ov 2 f t i a m bv] W (Did W M) := by
  obtain ⟨q, rfl⟩ := hpv
  obtain ⟨hb, hg, hsz⟩ := b3_new W 2 f t i a m bv
  have gd := hg.trans (Gr.drew _ _)
  have eg : ∀ args w, (callFunc 25 args).run Try.prog w = .ok (.enter 25 args) w := enters_of Try.func25 (by kernel_rfl) rfl
  have Hc := Lib.hid (hc _ gd hsz)
  have Hg := Lib.hid gd
  have HM := Lib.hid hM
  have Hsz := Lib.hid hsz
  have Hb : Hid (B3 W (W3 W 2 f t i a m bv).drew 2 f t i a m bv) := Lib.hid ⟨hb.o, hb.r, hb.n⟩
  clear hc hg hM hsz gd hb
  go_enter Try.func12, Try.ntmps12
  go_wp2_with fail
  go_region_law (first
    | (refine step_ret2 _ _ (Value.pointer q) (.int .i64 i) rfl rfl rfl rfl eg Hc.out ?_; intro c w1 hm1; obtain ⟨hs1, hk1⟩ := HM.out _ _ _ Hg.out Hsz.out hm1; have hB1 := Hb.out.kept hk1; obtain ⟨p0, p1, p2, p3, p4, p5, p6⟩ := seven hB1.o; obtain ⟨q0, q1, q2, q3, q4, q5, q6, q7, q8, q9⟩ := five hB1.r; obtain ⟨n0, n1, n2, n3, n4, n5, n6, n7, n8, n9⟩ := five hB1.n; have Hm1 := Lib.hid hm1; clear hm1 hk1 hs1))
  all_goals
    go_wp2
    refine bodyPost_ret (v := .tuple #[zdv, .bool false, .int .i64 c]) (by simp [results, Try.results12, go_sem, q0, q1, q2, q3, q4]) rfl ?_
    exact ⟨c, _, w1, rfl, Hg.out, Hsz.out, Hm1.out, (Gr.refl _ _).cell5 _ _ _ _ _ _ (.inl ⟨by omega, by omega⟩)⟩
set_option maxRecDepth 20000 in
set_option maxHeartbeats 1600000 in
theorem do_3 (W : World) (pv : Value) (f t i a m : Int) (bv : Value) (M : World → World → Int → Prop) (hpv : ∃ q, pv = .pointer q) (hM : Lets W W M)
    (hc : ∀ W1, G0 W W1 → W1.heap.size = W.heap.size + 3 → Calls Try.prog 22 #[pv, .int .i64 i] W1 fun e w' => ∃ c, e = .returned (.int .i64 c) ∧ M W1 w' c) :
    Calls Try.prog 12 #[pv, ov 3 f t i a m bv] W (Did W M) := by
  obtain ⟨q, rfl⟩ := hpv
  obtain ⟨hb, hg, hsz⟩ := b3_new W 3 f t i a m bv
  have gd := hg.trans (Gr.drew _ _)
  have eg : ∀ args w, (callFunc 22 args).run Try.prog w = .ok (.enter 22 args) w := enters_of Try.func22 (by kernel_rfl) rfl
  have Hc := Lib.hid (hc _ gd hsz)
  have Hg := Lib.hid gd
  have HM := Lib.hid hM
  have Hsz := Lib.hid hsz
  have Hb : Hid (B3 W (W3 W 3 f t i a m bv).drew 3 f t i a m bv) := Lib.hid ⟨hb.o, hb.r, hb.n⟩
  clear hc hg hM hsz gd hb
  go_enter Try.func12, Try.ntmps12
  go_wp2_with fail
  go_region_law (first
    | (refine step_ret2 _ _ (Value.pointer q) (.int .i64 i) rfl rfl rfl rfl eg Hc.out ?_; intro c w1 hm1; obtain ⟨hs1, hk1⟩ := HM.out _ _ _ Hg.out Hsz.out hm1; have hB1 := Hb.out.kept hk1; obtain ⟨p0, p1, p2, p3, p4, p5, p6⟩ := seven hB1.o; obtain ⟨q0, q1, q2, q3, q4, q5, q6, q7, q8, q9⟩ := five hB1.r; obtain ⟨n0, n1, n2, n3, n4, n5, n6, n7, n8, n9⟩ := five hB1.n; have Hm1 := Lib.hid hm1; clear hm1 hk1 hs1))
  all_goals
    go_wp2
    refine bodyPost_ret (v := .tuple #[zdv, .bool false, .int .i64 c]) (by simp [results, Try.results12, go_sem, q0, q1, q2, q3, q4]) rfl ?_
    exact ⟨c, _, w1, rfl, Hg.out, Hsz.out, Hm1.out, (Gr.refl _ _).cell5 _ _ _ _ _ _ (.inl ⟨by omega, by omega⟩)⟩
set_option maxRecDepth 20000 in
set_option maxHeartbeats 1600000 in
theorem do_4 (W : World) (pv : Value) (f t i a m : Int) (bv : Value) (M : World → World → Int → Prop) (hpv : ∃ q, pv = .pointer q) (hM : Lets W W M)
    (hc : ∀ W1, G0 W W1 → W1.heap.size = W.heap.size + 3 → Calls Try.prog 26 #[pv, .int .i64 i, .int .i64 a, .int .u32 m] W1 fun e w' => ∃ c, e = .returned (.int .i64 c) ∧ M W1 w' c) :
    Calls Try.prog 12 #[pv, ov 4 f t i a m bv] W (Did W M) := by
  obtain ⟨q, rfl⟩ := hpv
  obtain ⟨hb, hg, hsz⟩ := b3_new W 4 f t i a m bv
  have gd := hg.trans (Gr.drew _ _)
  have eg : ∀ args w, (callFunc 26 args).run Try.prog w = .ok (.enter 26 args) w := enters_of Try.func26 (by kernel_rfl) rfl
  have Hc := Lib.hid (hc _ gd hsz)
  have Hg := Lib.hid gd
  have HM := Lib.hid hM
  have Hsz := Lib.hid hsz
  have Hb : Hid (B3 W (W3 W 4 f t i a m bv).drew 4 f t i a m bv) := Lib.hid ⟨hb.o, hb.r, hb.n⟩
  clear hc hg hM hsz gd hb
  go_enter Try.func12, Try.ntmps12
  go_wp2_with fail
  go_region_law (first
    | (refine step_ret4 _ _ _ _ (Value.pointer q) (.int .i64 i) (.int .i64 a) (.int .u32 m) rfl rfl rfl rfl rfl rfl eg Hc.out ?_; intro c w1 hm1; obtain ⟨hs1, hk1⟩ := HM.out _ _ _ Hg.out Hsz.out hm1; have hB1 := Hb.out.kept hk1; obtain ⟨p0, p1, p2, p3, p4, p5, p6⟩ := seven hB1.o; obtain ⟨q0, q1, q2, q3, q4, q5, q6, q7, q8, q9⟩ := five hB1.r; obtain ⟨n0, n1, n2, n3, n4, n5, n6, n7, n8, n9⟩ := five hB1.n; have Hm1 := Lib.hid hm1; clear hm1 hk1 hs1))
  all_goals
    go_wp2
    refine bodyPost_ret (v := .tuple #[zdv, .bool false, .int .i64 c]) (by simp [results, Try.results12, go_sem, q0, q1, q2, q3, q4]) rfl ?_
    exact ⟨c, _, w1, rfl, Hg.out, Hsz.out, Hm1.out, (Gr.refl _ _).cell5 _ _ _ _ _ _ (.inl ⟨by omega, by omega⟩)⟩
set_option maxRecDepth 20000 in
set_option maxHeartbeats 1600000 in
theorem do_6 (W : World) (pv : Value) (k : Int) (h0 : (k == 0) = false) (h1 : (k == 1) = false) (h2 : (k == 2) = false) (h3 : (k == 3) = false) (h4 : (k == 4) = false) (h5 : (k == 5) = false) (f t i a m : Int) (bv : Value) (M : World → World → Int → Prop) (hpv : ∃ q, pv = .pointer q) (hM : Lets W W M)
    (hc : ∀ W1, G0 W W1 → W1.heap.size = W.heap.size + 3 → Calls Try.prog 27 #[pv, .int .i64 f] W1 fun e w' => ∃ c, e = .returned (.int .i64 c) ∧ M W1 w' c) :
    Calls Try.prog 12 #[pv, ov k f t i a m bv] W (Did W M) := by
  obtain ⟨q, rfl⟩ := hpv
  obtain ⟨hb, hg, hsz⟩ := b3_new W k f t i a m bv
  have gd := hg.trans (Gr.drew _ _)
  have eg : ∀ args w, (callFunc 27 args).run Try.prog w = .ok (.enter 27 args) w := enters_of Try.func27 (by kernel_rfl) rfl
  have Hc := Lib.hid (hc _ gd hsz)
  have Hg := Lib.hid gd
  have HM := Lib.hid hM
  have Hsz := Lib.hid hsz
  have Hb : Hid (B3 W (W3 W k f t i a m bv).drew k f t i a m bv) := Lib.hid ⟨hb.o, hb.r, hb.n⟩
  clear hc hg hM hsz gd hb
  go_enter Try.func12, Try.ntmps12
  go_wp2_with fail
  go_region_law (first
    | (refine step_ret2 _ _ (Value.pointer q) (.int .i64 f) rfl rfl rfl rfl eg Hc.out ?_; intro c w1 hm1; obtain ⟨hs1, hk1⟩ := HM.out _ _ _ Hg.out Hsz.out hm1; have hB1 := Hb.out.kept hk1; obtain ⟨p0, p1, p2, p3, p4, p5, p6⟩ := seven hB1.o; obtain ⟨q0, q1, q2, q3, q4, q5, q6, q7, q8, q9⟩ := five hB1.r; obtain ⟨n0, n1, n2, n3, n4, n5, n6, n7, n8, n9⟩ := five hB1.n; have Hm1 := Lib.hid hm1; clear hm1 hk1 hs1))
  all_goals
    go_wp2
    refine bodyPost_ret (v := .tuple #[zdv, .bool false, .int .i64 c]) (by simp [results, Try.results12, go_sem, q0, q1, q2, q3, q4]) rfl ?_
    exact ⟨c, _, w1, rfl, Hg.out, Hsz.out, Hm1.out, (Gr.refl _ _).cell5 _ _ _ _ _ _ (.inl ⟨by omega, by omega⟩)⟩
end Go.Proofs.Ytjffhnpoipolfaa
