/-
  The heap of what is left, with at most one number in it.
-/
import Derived.Test.YtgdadjmeeblfoaaDoorCE
import Derived.Deep.RegionHeld3
set_option linter.unusedVariables false
set_option linter.unusedSimpArgs false
namespace Go.Proofs.YtgdadjmeeblfoaaDoor
open Go.RowKit Go.Maps
section
variable {P : Program} {ops : Array Oper} {Q : Exit → Act → World → Prop} {md : Region.Mode} {T : World → Prop} {L : Nat}
/-- Whatever order comes; T holds behind each operation but number L. -/
def wpAnyL (P : Program) (md : Region.Mode) (ops : Array Oper) (Q : Exit → Act → World → Prop) (T : World → Prop) (L : Nat) : Nat → Array Bool → Act → World → Prop
  | 0, listed, a, w => Region.ready md ops listed = [] ∧ Q .normal a w
  | f + 1, listed, a, w => (Region.ready md ops listed = [] → Q .normal a w) ∧ ∀ i ∈ Region.ready md ops listed, wpOp P ops Q i (fun a' w' => (i ≠ L → T w') ∧ wpAnyL P md ops Q T L f (listed.setIfInBounds i true) a' w') a w
theorem wpAny_of_L : ∀ (f : Nat) (listed : Array Bool) (a : Act) (w : World), wpAnyL P md ops Q T L f listed a w → wpAny P md ops Q f listed a w
  | 0, _, _, _, h => h
  | f + 1, _, _, _, h => ⟨h.1, fun i hi => wpOp_mono (fun a' w' h' => wpAny_of_L f _ a' w' h'.2) (h.2 i hi)⟩
/-- Does number L wait for number i? -/
def waitsFor (md : Region.Mode) (ops : Array Oper) (L i : Nat) : Bool := ((ops[L]?).map (·.after.any fun e => Region.binds md e && e.on == i)).getD false
theorem waits_ready {i : Nat} (hL : waitsFor md ops L i = true) {listed : Array Bool} (h : L ∈ Region.ready md ops listed) : listed.getD i false = true := by
  obtain ⟨_, o, ho, hall⟩ := mem_ready.1 h
  unfold waitsFor at hL
  rw [ho] at hL
  simp only [Option.map_some, Option.getD_some, Array.any_eq_true, Bool.and_eq_true, beq_iff_eq] at hL
  obtain ⟨x, hx, hb, he⟩ := hL
  rw [← he]
  exact hall _ (Array.getElem_mem hx) hb
theorem wpAnyL_take' {i : Nat} {oi : Oper} {v : Value} (hi : ops[i]? = some oi) (hsel : ∀ (j : Nat) (o : Oper) cs b, ops[j]? = some o → o.op ≠ .select cs b)
    (hQ : ∀ c a w, Q (.panic c) (a.put oi.dst v) w → Q (.panic c) a w) (hL : waitsFor md ops L i = true) (hiL : i ≠ L) :
    ∀ (f : Nat) (listed : Array Bool) (a : Act) (w : World),
      (∀ j oj, ops[j]? = some oj → j ≠ i → listed.getD j true = false → (∀ e ∈ oj.after, Region.binds md e = true → e.on ≠ i) → oi.apart ops oj = true) →
      i ∈ Region.ready md ops listed → YieldsIf P ops T oi v a → T w →
      wpAnyL P md ops Q T L f (listed.setIfInBounds i true) (a.put oi.dst v) w → wpAnyL P md ops Q T L (f + 1) listed a w := by
  intro f
  induction f with
  | zero =>
    intro listed a w _ hr hy hT H
    refine ⟨fun h => (by rw [h] at hr; cases hr), fun j hj => ?_⟩
    by_cases hji : j = i
    · subst hji; exact hy.wpOp hi hT ⟨fun _ => hT, H⟩
    · have := ready_mono hj hji
      rw [H.1] at this
      cases this
  | succ f ih =>
    intro listed a w hfree hr hy hT H
    refine ⟨fun h => (by rw [h] at hr; cases hr), fun j hj => ?_⟩
    by_cases hji : j = i
    · subst hji; exact hy.wpOp hi hT ⟨fun _ => hT, H⟩
    · have hun := (mem_ready.1 hr).1
      have hno : ∀ {b : Bool}, listed.getD i b = true → b = false → False := fun h hb => by
        subst hb
        rcases Nat.lt_or_ge i listed.size with h' | h'
        · simp [h'] at h hun; rw [hun] at h; cases h
        · simp [Array.getElem?_eq_none h'] at h
      have hjL : j ≠ L := fun e => hno (waits_ready hL (e ▸ hj)) rfl
      obtain ⟨hjun, oj, hoj, hall⟩ := mem_ready.1 hj
      have hnot : ∀ e ∈ oj.after, Region.binds md e = true → e.on ≠ i := fun e he hb heq => hno (heq ▸ hall e he hb) rfl
      have h2 := wpOp_putIf hoj (hfree j oj hoj hji hjun hnot) (fun cs b => hsel i oi cs b hi) (fun cs b => hsel j oj cs b hoj) hQ hy (H.2 j (ready_mono hj hji))
      refine wpOp_mono (fun a' w' h3 => ⟨h3.2.1, ih (listed.setIfInBounds j true) a' w' (fun k ok hk hki hun' hno' => hfree k ok hk hki ?_ hno') (ready_mono hr (Ne.symm hji)) h3.1 (h3.2.1 hjL) ?_⟩) h2
      · by_cases hjk : j = k
        · subst hjk; exact hjun
        · rw [getD_set_ne true hjk] at hun'; exact hun'
      · rw [Array.setIfInBounds_comm _ _ hji]
        exact h3.2.2
theorem wpAnyL_take {i : Nat} {oi : Oper} {v : Value} {f : Nat} {listed : Array Bool} {a : Act} {w : World} (hi : ops[i]? = some oi) (hs : Region.noSelect ops = true) (hf : Region.free md ops listed i = true) (hr : (Region.ready md ops listed).contains i = true) (hL : waitsFor md ops L i = true) (hiL : i ≠ L)
    (hQ : ∀ c a w, Q (.panic c) (a.put oi.dst v) w → Q (.panic c) a w) (hy : YieldsIf P ops T oi v a) (hT : T w) (h : wpAnyL P md ops Q T L f (listed.setIfInBounds i true) (a.put oi.dst v) w) : wpAnyL P md ops Q T L (f + 1) listed a w :=
  wpAnyL_take' hi (Region.noSelect_spec hs) hQ hL hiL f listed a w (Region.free_spec hi hf) (by simpa using hr) hy hT h
theorem wpAnyL_at {i : Nat} {oi : Oper} {v : Value} (d : Option Tmp) {f : Nat} {listed : Array Bool} {a : Act} {w : World} (hi : ops[i]? = some oi) (hd : oi.dst = d) (hs : Region.noSelect ops = true) (hf : Region.free md ops listed i = true) (hr : (Region.ready md ops listed).contains i = true) (hL : waitsFor md ops L i = true) (hiL : i ≠ L)
    (hQ : ∀ c a w, Q (.panic c) (a.put d v) w → Q (.panic c) a w) (hy : YieldsIf P ops T oi v a) (hT : T w) (h : wpAnyL P md ops Q T L f (listed.setIfInBounds i true) (a.put d v) w) : wpAnyL P md ops Q T L (f + 1) listed a w := by
  subst hd; exact wpAnyL_take hi hs hf hr hL hiL hQ hy hT h
theorem wpAnyL_one {i : Nat} {o : Oper} {f : Nat} {listed : Array Bool} {a : Act} {w : World} (hr : Region.ready md ops listed = [i]) (ho : ops[i]? = some o)
    (h : ∀ K' : Act → World → Prop, Shut (∀ a w, (i ≠ L → T w) → wpAnyL P md ops Q T L f (listed.setIfInBounds i true) a w → K' a w) → if Region.wanted o (yielded ops a.tmps) = true then Oper.wp P o a w K' Q else K' (a.put o.dst undef) w) : wpAnyL P md ops Q T L (f + 1) listed a w := by
  refine ⟨fun h0 => (by rw [hr] at h0; cases h0), fun j hj => ?_⟩
  rw [hr, List.mem_singleton] at hj
  subst hj
  exact wpOp_step ho (fun K' hK => h K' (fun a w h1 h2 => hK a w ⟨h1, h2⟩))
theorem wpAnyL_done {listed : Array Bool} {a : Act} {w : World} (hr : Region.ready md ops listed = []) (h : Q .normal a w) : ∀ f, wpAnyL P md ops Q T L f listed a w
  | 0 => ⟨hr, h⟩
  | _ + 1 => ⟨fun _ => h, by rw [hr]; simp⟩
theorem wp_region_L {id : Nat} {a : Act} {w : World} (hm : P.follows .mixedOrders = true) (h : wpAnyL P .any ops (NoPanic Q) T L ops.size (Array.replicate ops.size false) a w.drew) : (Code.region id ops true).wp P Q a w :=
  wp_region_noPanic (wp_region_any hm (wpAny_of_L _ _ _ _ h))
end
section
variable {P : Program} {ops : Array Oper} {Q : Exit → Act → World → Prop} {md : Region.Mode} {T : World → Prop} {L : Nat}
theorem wpAnyN_take' {i : Nat} {oi : Oper} {v : Value} (hi : ops[i]? = some oi) (hsel : ∀ (j : Nat) (o : Oper) cs b, ops[j]? = some o → o.op ≠ .select cs b)
    (hQ : ∀ c a w, Q (.panic c) (a.put oi.dst v) w → Q (.panic c) a w) (hL : ops.size ≤ L) :
    ∀ (f : Nat) (listed : Array Bool) (a : Act) (w : World),
      (∀ j oj, ops[j]? = some oj → j ≠ i → listed.getD j true = false → (∀ e ∈ oj.after, Region.binds md e = true → e.on ≠ i) → oi.apart ops oj = true) →
      i ∈ Region.ready md ops listed → YieldsIf P ops T oi v a → T w →
      wpAnyL P md ops Q T L f (listed.setIfInBounds i true) (a.put oi.dst v) w → wpAnyL P md ops Q T L (f + 1) listed a w := by
  intro f
  induction f with
  | zero =>
    intro listed a w _ hr hy hT H
    refine ⟨fun h => (by rw [h] at hr; cases hr), fun j hj => ?_⟩
    by_cases hji : j = i
    · subst hji; exact hy.wpOp hi hT ⟨fun _ => hT, H⟩
    · have := ready_mono hj hji
      rw [H.1] at this
      cases this
  | succ f ih =>
    intro listed a w hfree hr hy hT H
    refine ⟨fun h => (by rw [h] at hr; cases hr), fun j hj => ?_⟩
    by_cases hji : j = i
    · subst hji; exact hy.wpOp hi hT ⟨fun _ => hT, H⟩
    · have hun := (mem_ready.1 hr).1
      have hno : ∀ {b : Bool}, listed.getD i b = true → b = false → False := fun h hb => by
        subst hb
        rcases Nat.lt_or_ge i listed.size with h' | h'
        · simp [h'] at h hun; rw [hun] at h; cases h
        · simp [Array.getElem?_eq_none h'] at h
      obtain ⟨hjun, oj, hoj, hall⟩ := mem_ready.1 hj
      have hjL : j ≠ L := fun e => by
        have := (Array.getElem?_eq_some_iff.1 hoj).1
        omega
      have hnot : ∀ e ∈ oj.after, Region.binds md e = true → e.on ≠ i := fun e he hb heq => hno (heq ▸ hall e he hb) rfl
      have h2 := wpOp_putIf hoj (hfree j oj hoj hji hjun hnot) (fun cs b => hsel i oi cs b hi) (fun cs b => hsel j oj cs b hoj) hQ hy (H.2 j (ready_mono hj hji))
      refine wpOp_mono (fun a' w' h3 => ⟨h3.2.1, ih (listed.setIfInBounds j true) a' w' (fun k ok hk hki hun' hno' => hfree k ok hk hki ?_ hno') (ready_mono hr (Ne.symm hji)) h3.1 (h3.2.1 hjL) ?_⟩) h2
      · by_cases hjk : j = k
        · subst hjk; exact hjun
        · rw [getD_set_ne true hjk] at hun'; exact hun'
      · rw [Array.setIfInBounds_comm _ _ hji]
        exact h3.2.2
theorem wpAnyN_at {i : Nat} {oi : Oper} {v : Value} (d : Option Tmp) {f : Nat} {listed : Array Bool} {a : Act} {w : World} (hi : ops[i]? = some oi) (hd : oi.dst = d) (hs : Region.noSelect ops = true) (hf : Region.free md ops listed i = true) (hr : (Region.ready md ops listed).contains i = true) (hL : Nat.ble ops.size L = true)
    (hQ : ∀ c a w, Q (.panic c) (a.put d v) w → Q (.panic c) a w) (hy : YieldsIf P ops T oi v a) (hT : T w) (h : wpAnyL P md ops Q T L f (listed.setIfInBounds i true) (a.put d v) w) : wpAnyL P md ops Q T L (f + 1) listed a w := by
  subst hd
  exact wpAnyN_take' hi (Region.noSelect_spec hs) hQ (Nat.le_of_ble_eq_true hL) f listed a w (Region.free_spec hi hf) (by simpa using hr) hy hT h
end
variable {W W' : World}
theorem ownsRow_gr {S : Nat → Prop} {W W' : World} {base : Nat} {e : TypeId} {size : Nat} {sv : Value} {n : Nat} {xs : List Value} (h : W.ownsRow base e size sv n xs) (g : Gr S W W') (hs : ∀ k, base ≤ k → ¬ S k) : W'.ownsRow base e size sv n xs := by
  refine ⟨h.1, ?_⟩
  rcases h.2 with h0 | ⟨g', cap, cur, rfl, hg, h2, h3⟩
  · exact .inl h0
  · exact .inr ⟨g', cap, cur, rfl, hg, (g.block g' (Array.getElem?_eq_some_iff.1 h2).1 (hs g' hg)).trans h2, h3⟩
theorem ownsRow_sv {W : World} {base : Nat} {e : TypeId} {size : Nat} {sv : Value} {n : Nat} {xs : List Value} (h : W.ownsRow base e size sv n xs) : ∃ a cap, sv = .slice a n cap := by
  rcases h.2 with ⟨rfl, rfl⟩ | ⟨g, cap, cur, rfl, hg, h2, h3⟩ <;> exact ⟨_, _, rfl⟩
theorem info_parts3 {P : Program} {e : TypeId} {z : Value} {s b : Nat} (h : (P.info? e).map (fun i => (i.zero, i.size, i.bytes)) = some (some z, s, b)) : ∃ i, P.info? e = some i ∧ i.zero = some z ∧ i.size = s ∧ i.bytes = b := by
  obtain ⟨i, hi, he⟩ := Option.map_eq_some_iff.1 h
  simp only [Prod.mk.injEq] at he
  exact ⟨i, hi, he.1, he.2.1, he.2.2⟩
theorem info3 : (Tryd.prog.info? 3).map (fun i => (i.zero, i.size, i.bytes)) = some (some (.int .i64 0), 1, 8) := by kernel_rfl
/-- What is left to go through: no number, or one. -/
abbrev Lf1 (base : Nat) (W : World) (v : Value) (l : List Int) : Prop := W.ownsRow base 3 1 v l.length (l.map (Value.int .i64)) ∧ base ≤ W.heap.size
theorem lf_run (w : World) (ty : TypeId) (base : Nat) (v : Value) (b : Nat) (x : Int) (hv : Lf1 base w v []) (hs : w.cell? ⟨b, 0, none⟩ = some (.int .i64 x)) :
    ∃ v' w', (Builtin.append_ #[54, 54] ty #[v, .slice (some ⟨b, 0, none⟩) 1 1]).run Tryd.prog w = .ok v' w' ∧ Lf1 base w' v' [x] ∧ Gr (fun k => v.ownBlock = some k) w w' := by
  obtain ⟨i0, hi, hz0, hz1, hz2⟩ := info_parts3 info3
  obtain ⟨v', w', hr, hown, hgrow, _, hloc⟩ := run_append_own_at (P := Tryd.prog) w base 54 ty 3 i0 (.int .i64 0) 1 8 Tryd.underlying54 hi hz0 hz1 hz2 rfl (by decide) v 0 [] hv.1 ⟨b, 0, none⟩ 1 1 [.int .i64 x] rfl
    (fun j u hj => by
      cases j with
      | zero => simp at hj; subst hj; exact hs
      | succ j => simp at hj) (fun u hu => by simp at hu; subst hu; rfl) (by unfold maxLen; omega) (by omega) hv.2
  have g : Gr (fun k => v.ownBlock = some k) w w' := Gr.of_grown hgrow (fun k e => e)
  exact ⟨v', w', hr, ⟨hown, Nat.le_trans hv.2 g.size⟩, g⟩
section
variable {w : World} {ops : Array Oper} {o : Oper} {a : Act} {Q : Exit → Act → World → Prop} {K : Act → World → Prop} {E : Prop}
theorem step_lf (hgd : o.guard = none) (x y : Operand)
    (ho : o.op = .call { callee := .builtin .append, args := #[x, y], argTypes := #[54, 54] }) (base : Nat) (v : Value) (b : Nat) (s : Int) (hx : a.eval x = v) (hy : a.eval y = .slice (some ⟨b, 0, none⟩) 1 1)
    (hv : Lf1 base w v []) (hs : w.cell? ⟨b, 0, none⟩ = some (.int .i64 s))
    (h : ∀ v' w', Lf1 base w' v' [s] → Gr (fun k => v.ownBlock = some k) w w' → K (a.put o.dst v') w') :
    if Region.wanted o (yielded ops a.tmps) = true then Oper.wp Tryd.prog o a w K Q else E := by
  have hw : Region.wanted o (yielded ops a.tmps) = true := by simp [Region.wanted, hgd]
  rw [if_pos hw]
  obtain ⟨v', w', hr, h1, h2⟩ := lf_run w o.type base v b s hv hs
  unfold Oper.wp execOp
  simp only [ho, resolve, invoke, builtin, Sem.run_bind, Sem.run_pure, Result.andThen_ok, List.map_toArray, List.map_cons, List.map_nil, hx, hy, hr]
  exact h v' w' h1 h2
end
/-- A walk in its block. -/
abbrev wkC (ib hb n : Nat) (lv : Value) : Array Value := #[.slice (some ⟨ib, 0, none⟩) n n, .slice (some ⟨hb, 0, none⟩) n n, lv]
def WkAt (W : World) (wb ib hb n : Nat) (lv : Value) : Prop := W.heap[wb]? = some (.cells (wkC ib hb n lv) 56 (0, 0))
theorem WkAt.facts {wb ib hb n : Nat} {lv : Value} (h : WkAt W wb ib hb n lv) : (W.cell? ⟨wb, 0, none⟩ = some (.slice (some ⟨ib, 0, none⟩) n n) ∧ W.cell? ⟨wb, 1, none⟩ = some (.slice (some ⟨hb, 0, none⟩) n n) ∧ W.cell? ⟨wb, 2, none⟩ = some lv) ∧ W.frozen? ⟨wb, 2, none⟩ = false ∧ wb < W.heap.size := by
  refine ⟨?_, ?_, (Array.getElem?_eq_some_iff.1 h).1⟩
  · simp [World.cell?, show W.heap[wb]? = _ from h]
  · simp [World.frozen?, show W.heap[wb]? = _ from h]
theorem WkAt.gr {wb ib hb n : Nat} {lv : Value} {S : Nat → Prop} (h : WkAt W wb ib hb n lv) (g : Gr S W W') (hs : ¬ S wb) : WkAt W' wb ib hb n lv := g.keep h hs
theorem WkAt.set {wb ib hb n : Nat} {lv : Value} (h : WkAt W wb ib hb n lv) (lv' : Value) : WkAt (W.setCell ⟨wb, 2, none⟩ lv') wb ib hb n lv' := by
  unfold WkAt World.setCell at *
  simp [Array.getElem?_modify, h]
theorem one_cell {w : World} {b : Nat} {x : Value} {t : TypeId} (h : w.heap[b]? = some (.cells #[x] t (0, 0))) : w.cell? ⟨b, 0, none⟩ = some x ∧ w.frozen? ⟨b, 0, none⟩ = false ∧ b < w.heap.size := by
  refine ⟨by simp [World.cell?, h], by simp [World.frozen?, h], (Array.getElem?_eq_some_iff.1 h).1⟩
abbrev SP (wb : Nat) (lv : Value) (w : World) : Prop := w.cell? ⟨wb, 2, none⟩ = some lv
abbrev xi (x : Int) : Value := .iface 3 (.int .i64 x)
theorem ta3 (x : Int) (w : World) : (Instr.typeAssert (xi x) 20 3 false).run Tryd.prog w = .ok (.int .i64 x) w := by kernel_rfl
set_option maxRecDepth 100000 in
set_option maxHeartbeats 1600000 in
theorem push_c (W : World) (wb ib hb n base : Nat) (lv : Value) (x : Int) (hW : WkAt W wb ib hb n lv) (hL : Lf1 base W lv []) (hb1 : wb < base) :
    Calls Tryd.prog 116 #[ptx wb 2, xi x] W fun e w' => e = .returned (.tuple #[]) ∧ ∃ lv', WkAt w' wb ib hb n lv' ∧ Lf1 base w' lv' [x] ∧ Gr (fun k => k = wb ∨ lv.ownBlock = some k) W w' := by
  obtain ⟨⟨c0, c1, c2⟩, fz, hlt⟩ := hW.facts
  have TS : SP wb lv W.drew := c2
  have hta := ta3 x
  have hltd : wb < W.drew.heap.size := hlt
  obtain ⟨la, lc, rfl⟩ := ownsRow_sv hL.1
  replace hL := Lib.hid hL
  replace hW := Lib.hid hW
  clear c0 c1 c2
  go_enter Tryd.func116, Tryd.ntmps116
  go_wp2_with fail
  refine wp_region_L (L := 9) (T := SP wb (.slice la 0 lc)) (by kernel_rfl) ?_
  refine wpAnyL_at (i := 0) (v := ptx wb 2) (some 4) rfl rfl (by kernel_rfl) (by kernel_rfl) (by kernel_rfl) (by kernel_rfl) (by decide) (fun _ _ _ h => h) (Or.inl ⟨by rfl, ?_⟩) TS ?_
  · intro w hSw
    go_simp
    try (intro h; exfalso; omega)
  try simp only [Act.put, List.setIfInBounds_toArray, List.set_cons_zero, List.set_cons_succ]
  refine wpAnyL_at (i := 1) (v := ptx wb 2) (some 5) rfl rfl (by kernel_rfl) (by kernel_rfl) (by kernel_rfl) (by kernel_rfl) (by decide) (fun _ _ _ h => h) (Or.inl ⟨by rfl, ?_⟩) TS ?_
  · intro w hSw
    go_simp
    try (intro h; exfalso; omega)
  try simp only [Act.put, List.setIfInBounds_toArray, List.set_cons_zero, List.set_cons_succ]
  refine wpAnyL_at (i := 2) (v := ptx wb 2) (some 6) rfl rfl (by kernel_rfl) (by kernel_rfl) (by kernel_rfl) (by kernel_rfl) (by decide) (fun _ _ _ h => h) (Or.inl ⟨by rfl, ?_⟩) TS ?_
  · intro w hSw
    go_simp
    try (intro h; exfalso; omega)
  try simp only [Act.put, List.setIfInBounds_toArray, List.set_cons_zero, List.set_cons_succ]
  refine wpAnyL_at (i := 3) (v := .slice la 0 lc) (some 7) rfl rfl (by kernel_rfl) (by kernel_rfl) (by kernel_rfl) (by kernel_rfl) (by decide) (fun _ _ _ h => h) (Or.inl ⟨by rfl, ?_⟩) TS ?_
  · intro w hSw
    go_simp
    try (intro h; exfalso; omega)
  try simp only [Act.put, List.setIfInBounds_toArray, List.set_cons_zero, List.set_cons_succ]
  refine wpAnyL_at (i := 4) (v := xi x) (some 8) rfl rfl (by kernel_rfl) (by kernel_rfl) (by kernel_rfl) (by kernel_rfl) (by decide) (fun _ _ _ h => h) (Or.inl ⟨by rfl, ?_⟩) TS ?_
  · intro w hSw
    go_simp
    try (intro h; exfalso; omega)
  try simp only [Act.put, List.setIfInBounds_toArray, List.set_cons_zero, List.set_cons_succ]
  refine wpAnyL_at (i := 5) (v := .int .i64 x) (some 9) rfl rfl (by kernel_rfl) (by kernel_rfl) (by kernel_rfl) (by kernel_rfl) (by decide) (fun _ _ _ h => h) (Or.inl ⟨by rfl, ?_⟩) TS ?_
  · intro w hSw
    go_simp
    try (intro h; exfalso; omega)
  try simp only [Act.put, List.setIfInBounds_toArray, List.set_cons_zero, List.set_cons_succ]
  refine wpAnyL_one (i := 6) (by kernel_rfl) rfl (fun K hK => ?_)
  go_simp
  have gA := Gr.alloc W.drew (.cells #[.int .i64 x] 3) (fun _ => False)
  have g1 : Gr (fun _ => False) W (W.drew.alloc (.cells #[.int .i64 x] 3)) := (Gr.drew _ _).trans gA
  have z3 := (one_cell (heap_alloc_new W.drew (.cells #[.int .i64 x] 3))).1
  have TS : SP wb (.slice la 0 lc) (W.drew.alloc (.cells #[.int .i64 x] 3)) := cell_gr TS gA (fun e => e)
  have hL1 : Lf1 base (W.drew.alloc (.cells #[.int .i64 x] 3)) (.slice la 0 lc) [] := ⟨ownsRow_gr hL.out.1 g1 (fun _ _ e => e), Nat.le_trans hL.out.2 g1.size⟩
  refine hK.out _ _ (fun _ => TS) ?_
  clear hK K
  try simp only [Act.put, List.setIfInBounds_toArray, List.set_cons_zero, List.set_cons_succ]
  refine wpAnyL_one (i := 7) (by kernel_rfl) rfl (fun K hK => ?_)
  refine step_lf rfl _ _ rfl base (.slice la 0 lc) W.drew.heap.size x rfl rfl hL1 z3 ?_
  intro v5 w5 hN5 g5
  have G5 : Gr (fun k => (Value.slice la 0 lc).ownBlock = some k) W w5 := (g1.mono (fun _ _ e => e.elim)).trans g5
  have hW5 : WkAt w5 wb ib hb n (.slice la 0 lc) := hW.out.gr G5 (fun e => by have := (ownsRow_lt hL.out.1 wb e).1; omega)
  have TS : SP wb (.slice la 0 lc) w5 := hW5.facts.1.2.2
  obtain ⟨a5, c5, rfl⟩ := ownsRow_sv hN5.1
  have fz5 := hW5.facts.2.1
  have hl5 := hW5.facts.2.2
  refine hK.out _ _ (fun _ => TS) ?_
  clear hK K
  try simp only [Act.put, List.setIfInBounds_toArray, List.set_cons_zero, List.set_cons_succ]
  refine wpAnyL_at (i := 8) (v := ptx wb 2) (some 12) rfl rfl (by kernel_rfl) (by kernel_rfl) (by kernel_rfl) (by kernel_rfl) (by decide) (fun _ _ _ h => h) (Or.inl ⟨by rfl, ?_⟩) TS ?_
  · intro w hSw
    go_simp
    try (intro h; exfalso; omega)
  try simp only [Act.put, List.setIfInBounds_toArray, List.set_cons_zero, List.set_cons_succ]
  refine wpAnyL_one (i := 9) (by kernel_rfl) rfl (fun K hK => ?_)
  go_simp
  refine hK.out _ _ (fun h => absurd rfl h) ?_
  clear hK K
  try simp only [Act.put, List.setIfInBounds_toArray, List.set_cons_zero, List.set_cons_succ]
  refine wpAnyL_done (by kernel_rfl) ?_ _
  refine NoPanic.normal ?_
  have gN : Gr (fun k => k = wb) w5 (w5.setCell ⟨wb, 2, none⟩ (.slice a5 1 c5)) := Gr.set _ _ _ rfl
  go_wp2_with fail
  refine bodyPost_end (v := .tuple #[]) (by simp [results, Tryd.results116, go_sem]) rfl ⟨rfl, _, hW5.set _, ⟨ownsRow_gr hN5.1 gN (fun k hk e => by omega), Nat.le_trans hN5.2 gN.size⟩, (G5.mono (fun _ _ e => .inr e)).trans (gN.mono (fun _ _ e => .inl e))⟩
abbrev hv (wb : Nat) : Value := .iface 64 (ptx wb 2)
theorem ld54 (wb o : Nat) (w : World) (v : Value) (h : w.cell? ⟨wb, o, none⟩ = some v) (hv : ∃ a n c, v = .slice a n c) : (loadVar 54 ⟨wb, o, none⟩).run Tryd.prog w = .ok v w := by
  obtain ⟨a, n, c, rfl⟩ := hv
  have hl := World.block_lt_of_cell? _ _ h
  simp [go_sem, h, hl]
theorem info64 {nm : String} {f : FuncId} (hk : (Tryd.prog.info? 64).map (fun i => (i.methods.find? (fun m => m.name == nm)).map (fun m => (m.func, m.path.toList))) = some (some (some (f, false), [])))
   (wb : Nat) (w : World) (v : Value) (h : w.cell? ⟨wb, 2, none⟩ = some v) (hv : ∃ a n c, v = .slice a n c) : (method 245 64 (.pointer (some ⟨wb, 2, none⟩)) nm).run Tryd.prog w = .ok (f, v) w := by
  obtain ⟨i, hi, he⟩ := Option.map_eq_some_iff.1 hk
  obtain ⟨m, hm, he2⟩ := Option.map_eq_some_iff.1 he
  simp only [Prod.mk.injEq] at he2
  obtain ⟨h1, h2⟩ := he2
  have h3 : m.path = #[] := by simpa using h2
  have hti : (typeInfo 64).run Tryd.prog w = .ok i w := by unfold typeInfo; simp [go_sem, hi]
  have hld := ld54 wb 2 w v h hv
  have hchk : ∀ s1 s2 : ByteArray, (Builtin.ssaWrapNilChk_ #[64] 64 #[.pointer (some ⟨wb, 2, none⟩), .string s1, .string s2]).run Tryd.prog w = .ok (.pointer (some ⟨wb, 2, none⟩)) w := fun _ _ => rfl
  unfold method
  simp [hti, hm, h1, h3, follow, receiverAt, run_underlying Tryd.underlying64, Place.get, hchk, strVal, asAddr, hld]
theorem mLen (wb : Nat) (w : World) (v : Value) (h : w.cell? ⟨wb, 2, none⟩ = some v) (hv : ∃ a n c, v = .slice a n c) : (method 245 64 (.pointer (some ⟨wb, 2, none⟩)) "Len").run Tryd.prog w = .ok (17, v) w := info64 (by kernel_rfl) wb w v h hv
theorem mSwap (wb : Nat) (w : World) (v : Value) (h : w.cell? ⟨wb, 2, none⟩ = some v) (hv : ∃ a n c, v = .slice a n c) : (method 245 64 (.pointer (some ⟨wb, 2, none⟩)) "Swap").run Tryd.prog w = .ok (114, v) w := info64 (by kernel_rfl) wb w v h hv
theorem len_c (W : World) (a : Option Addr) (n c : Nat) : Calls Tryd.prog 17 #[.slice a n c] W fun e w' => e = .returned (.int .i64 (n : Int)) ∧ w' = W := by
  go_enter Tryd.func17, Tryd.ntmps17
  go_wp2_with fail
  go_ret
  exact ⟨rfl, rfl⟩
set_option maxRecDepth 100000 in
set_option maxHeartbeats 1600000 in
theorem up_c (W : World) (h : Value) : Calls Tryd.prog 31 #[h, .int .i64 0] W fun e w' => e = .returned (.tuple #[]) ∧ w' = W := by
  go_enter Tryd.func31, Tryd.ntmps31
  go_wp2_with fail
  go_loopw [1] (fun u wr => u = .int .i64 0 ∧ wr = W) (fun u _ => 0)
  case atStart => exact ⟨rfl, rfl⟩
  case round =>
    obtain ⟨rfl, rfl⟩ := hrel
    go_wp2_with fail
    refine bodyPost_end (v := .tuple #[]) (by simp [results, Tryd.results31, go_sem]) rfl ⟨rfl, rfl⟩
set_option maxRecDepth 100000 in
set_option maxHeartbeats 1600000 in
theorem down_c (W : World) (h : Value) : Calls Tryd.prog 24 #[h, .int .i64 0, .int .i64 0] W fun e w' => e = .returned (.bool false) ∧ w' = W := by
  go_enter Tryd.func24, Tryd.ntmps24
  go_wp2_with fail
  go_loopw [7] (fun u wr => u = .int .i64 0 ∧ wr = W) (fun u _ => 0)
  case atStart => exact ⟨rfl, rfl⟩
  case round =>
    obtain ⟨rfl, rfl⟩ := hrel
    go_wp2_with fail
    go_ret
    exact ⟨rfl, rfl⟩
set_option maxRecDepth 100000 in
set_option maxHeartbeats 1600000 in
theorem hpush_c (W : World) (wb ib hb n base : Nat) (lv : Value) (x : Int) (hW : WkAt W wb ib hb n lv) (hL : Lf1 base W lv []) (hb1 : wb < base) :
    Calls Tryd.prog 23 #[hv wb, xi x] W fun e w' => e = .returned (.tuple #[]) ∧ ∃ lv', WkAt w' wb ib hb n lv' ∧ Lf1 base w' lv' [x] ∧ Gr (fun k => k = wb ∨ lv.ownBlock = some k) W w' := by
  have h1 := Lib.hid (push_c W wb ib hb n base lv x hW hL hb1)
  have h2 := Lib.hid (fun w a c => len_c w a 1 c)
  have h3 := Lib.hid (fun w => up_c w (hv wb))
  clear hW hL
  go_enter Tryd.func23, Tryd.ntmps23
  go_wp2_with fail
  refine h1.out.mono ?_
  rintro e w1 ⟨rfl, lv', hW1, hL1, g1⟩
  obtain ⟨la, lc, rfl⟩ := ownsRow_sv hL1.1
  obtain ⟨⟨c0, c1, c2⟩, fz, hlt⟩ := hW1.facts
  replace hW1 := Lib.hid hW1
  replace hL1 := Lib.hid hL1
  have c2' : w1.cell? ⟨wb, 2, none⟩ = some (.slice la 1 lc) := c2
  have hm1 := mLen wb w1 _ c2' ⟨_, _, _, rfl⟩
  clear c2
  go_wp2_with fail
  refine (h2.out _ la lc).mono ?_
  rintro e w2 ⟨rfl, rfl⟩
  go_wp2_with fail
  refine (h3.out _).mono ?_
  rintro e w3 ⟨rfl, rfl⟩
  go_wp2_with fail
  refine bodyPost_end (v := .tuple #[]) (by simp [results, Tryd.results23, go_sem]) rfl ⟨rfl, _, hW1.out, hL1.out, g1⟩
theorem setCell_id {w : World} {g o : Nat} {c : Array Value} {e : TypeId} {f : Nat × Nat} {v : Value} (h : w.heap[g]? = some (.cells c e f)) (hv : c[o]? = some v) : w.setCell ⟨g, o, none⟩ v = w := by
  have hc : c.setIfInBounds o v = c := by
    apply Array.ext_getElem?
    intro i
    rw [Array.getElem?_setIfInBounds]
    split
    · rename_i h1
      subst h1
      split
      · exact hv.symm
      · rename_i h2
        rw [Array.getElem?_eq_none (by omega)]
    · rfl
  have hh : (w.setCell ⟨g, o, none⟩ v).heap = w.heap := by
    apply Array.ext_getElem?
    intro i
    unfold World.setCell
    rw [Array.getElem?_modify]
    split
    · rename_i h1
      have h1 : g = i := h1
      subst h1
      rw [h]
      simp [hc]
    · rfl
  have e1 : w.setCell ⟨g, o, none⟩ v = { w with heap := (w.setCell ⟨g, o, none⟩ v).heap } := rfl
  rw [e1, hh]
/-- One number, in its cell. -/
theorem lf_cell {base : Nat} {v : Value} {x : Int} (h : Lf1 base W v [x]) : ∃ lb c cur, v = .slice (some ⟨lb, 0, none⟩) 1 c ∧ base ≤ lb ∧ W.heap[lb]? = some (.cells cur 3 (0, 0)) ∧ cur[0]? = some (.int .i64 x) ∧ Lf1 base W (.slice (some ⟨lb, 0, none⟩) 0 c) [] := by
  rcases h.1.2 with ⟨_, h0⟩ | ⟨g, cap, cur, rfl, hg, h2, h3, h4, h5, h6⟩
  · simp at h0
  · refine ⟨g, cap, cur, rfl, hg, h2, ?_, ⟨by simp, .inr ⟨g, cap, cur, rfl, hg, h2, Nat.zero_le _, h4, h5, by simp⟩⟩, h.2⟩
    have := congrArg (·[0]?) h6
    simpa [List.getElem?_take] using this
set_option maxRecDepth 100000 in
set_option maxHeartbeats 1600000 in
theorem swap_c (W : World) (lb c : Nat) (cur : Array Value) (x : Int) (h : W.heap[lb]? = some (.cells cur 3 (0, 0))) (hx : cur[0]? = some (.int .i64 x)) : Calls Tryd.prog 114 #[.slice (some ⟨lb, 0, none⟩) 1 c, .int .i64 0, .int .i64 0] W fun e w' => e = .returned (.tuple #[]) ∧ Gr (fun _ => False) W w' := by
  have hl : lb < W.heap.size := (Array.getElem?_eq_some_iff.1 h).1
  have c0 : W.cell? ⟨lb, 0, none⟩ = some (.int .i64 x) := by simp [World.cell?, h, hx]
  have fz : W.frozen? ⟨lb, 0, none⟩ = false := by simp [World.frozen?, h]
  have hid : (W.drew.setCell ⟨lb, 0, none⟩ (.int .i64 x)) = W.drew := setCell_id h hx
  go_enter Tryd.func114, Tryd.ntmps114
  go_wp2_with fail
  go_region
  all_goals
    go_wp2_with fail
    refine bodyPost_end (v := .tuple #[]) (by simp [results, Tryd.results114, go_sem]) rfl ⟨rfl, ?_⟩
    first | exact Gr.drew _ _ | (rw [hid, hid]; exact Gr.drew _ _) | (simp only [hid]; exact Gr.drew _ _)
set_option maxRecDepth 100000 in
set_option maxHeartbeats 1600000 in
theorem pop_c (W : World) (wb ib hb n base : Nat) (lv : Value) (x : Int) (hW : WkAt W wb ib hb n lv) (hL : Lf1 base W lv [x]) (hb1 : wb < base) :
    Calls Tryd.prog 115 #[ptx wb 2] W fun e w' => e = .returned (xi x) ∧ ∃ lv', WkAt w' wb ib hb n lv' ∧ Lf1 base w' lv' [] ∧ Gr (fun k => k = wb) W w' := by
  obtain ⟨⟨c0, c1, c2⟩, fz, hlt⟩ := hW.facts
  obtain ⟨lb, c, cur, rfl, hlb, h2, hx, hL0⟩ := lf_cell hL
  have hl : lb < W.heap.size := (Array.getElem?_eq_some_iff.1 h2).1
  have d0 : W.cell? ⟨lb, 0, none⟩ = some (.int .i64 x) := by simp [World.cell?, h2, hx]
  have gN : Gr (fun k => k = wb) W (W.setCell ⟨wb, 2, none⟩ (.slice (some ⟨lb, 0, none⟩) 0 c)) := Gr.set _ _ _ rfl
  have hW' := Lib.hid (hW.set (.slice (some ⟨lb, 0, none⟩) 0 c))
  have hL' : Hid (Lf1 base (W.setCell ⟨wb, 2, none⟩ (.slice (some ⟨lb, 0, none⟩) 0 c)) (.slice (some ⟨lb, 0, none⟩) 0 c) []) := ⟨ownsRow_gr hL0.1 gN (fun k hk e => by omega), Nat.le_trans hL0.2 gN.size⟩
  clear hL hL0 hW c0 c1
  go_enter Tryd.func115, Tryd.ntmps115
  go_wp2_with fail
  go_ret
  exact ⟨rfl, _, hW'.out, hL'.out, gN⟩
set_option maxRecDepth 100000 in
set_option maxHeartbeats 1600000 in
theorem hpop_c (W : World) (wb ib hb n base : Nat) (lv : Value) (x : Int) (hW : WkAt W wb ib hb n lv) (hL : Lf1 base W lv [x]) (hb1 : wb < base) :
    Calls Tryd.prog 18 #[hv wb] W fun e w' => e = .returned (xi x) ∧ ∃ lv', WkAt w' wb ib hb n lv' ∧ Lf1 base w' lv' [] ∧ Gr (fun k => k = wb) W w' := by
  obtain ⟨⟨c0, c1, c2⟩, fz, hlt⟩ := hW.facts
  have hpo := Lib.hid (fun w (gw : Gr (fun _ => False) W w) => pop_c w wb ib hb n base lv x (hW.gr gw (fun e => e)) ⟨ownsRow_gr hL.1 gw (fun _ _ e => e), Nat.le_trans hL.2 gw.size⟩ hb1)
  obtain ⟨lb, c, cur, rfl, hlb, h2, hx, hL0⟩ := lf_cell hL
  have hsw := Lib.hid (fun w (gw : Gr (fun _ => False) W w) => swap_c w lb c cur x (gw.keep h2 (fun e => e)) hx)
  have hle := Lib.hid (fun w => len_c w (some ⟨lb, 0, none⟩) 1 c)
  have hdo := Lib.hid (fun w => down_c w (hv wb))
  have hm1 := mLen wb W _ c2 ⟨_, _, _, rfl⟩
  have hm2 := mSwap wb W _ c2 ⟨_, _, _, rfl⟩
  clear hL hL0 hW c0 c1 h2
  go_enter Tryd.func18, Tryd.ntmps18
  go_wp2_with fail
  refine (hle.out _).mono ?_
  rintro e w1 ⟨rfl, rfl⟩
  go_wp2_with fail
  refine (hsw.out _ (Gr.refl _ _)).mono ?_
  rintro e w2 ⟨rfl, g2⟩
  go_wp2_with fail
  refine (hdo.out _).mono ?_
  rintro e w3 ⟨rfl, rfl⟩
  go_wp2_with fail
  refine (hpo.out _ g2).mono ?_
  rintro e w4 ⟨rfl, lv', hW4, hL4, g4⟩
  replace hW4 := Lib.hid hW4
  replace hL4 := Lib.hid hL4
  go_wp2_with fail
  go_ret
  exact ⟨rfl, _, hW4.out, hL4.out, (g2.mono (fun _ _ e => e.elim)).trans g4⟩
end Go.Proofs.YtgdadjmeeblfoaaDoor
