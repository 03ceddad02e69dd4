/-
  Ints as terms; an int more in the queue.
-/
import Derived.Test.YticgnaikbmnagaaZC
set_option linter.unusedVariables false
set_option linter.unusedSimpArgs false
namespace Go.Proofs.Yticgnaikbmnagaa
open Go.RowKit Go.Maps
attribute [local go_sem] Oper.semAt_some
variable {S S' : Nat → Prop} {W W1 W' : World}
theorem number_c (z : Int) (W : World) : Calls Try.prog 7 #[.int .i64 z] W fun e w' => e = .returned (iv z none 0 none 0) ∧ Gr (fun _ => False) W w' := by
  go_enter Try.func7, Try.ntmps7
  go_wp2
  exact bodyPost_ret (v := iv z none 0 none 0) (by simp [results, Try.results7, go_sem]) rfl ⟨rfl, Gr.alloc _ _ _⟩
section
variable {P : Program} {ops : Array Oper} {Q : Exit → Act → World → Prop} {md : Region.Mode} {T : World → Prop} {L : Nat}
theorem wpAnyN_take' {i : Nat} {oi : Oper} {v : Value} (hi : ops[i]? = some oi) (hsel : ∀ (j : Nat) (o : Oper) cs b, ops[j]? = some o → o.op ≠ .select cs b)
    (hQ : ∀ c a w, Q (.panic c) (a.put oi.dst v) w → Q (.panic c) a w) (hL : ops[L]? = none) :
    ∀ (f : Nat) (listed : Array Bool) (a : Act) (w : World),
      (∀ j oj, ops[j]? = some oj → j ≠ i → listed.getD j true = false → (∀ e ∈ oj.after, Region.binds md e = true → e.on ≠ i) → oi.apart ops oj = true) →
      i ∈ Region.ready md ops listed → YieldsIf P ops T oi v a → T w →
      wpAnyL P md ops Q T L f (listed.setIfInBounds i true) (a.put oi.dst v) w → wpAnyL P md ops Q T L (f + 1) listed a w := by
  intro f
  induction f with
  | zero =>
    intro listed a w _ hr hy hT H
    refine ⟨fun h => (by rw [h] at hr; cases hr), fun j hj => ?_⟩
    by_cases hji : j = i
    · subst hji; exact hy.wpOp hi hT ⟨fun _ => hT, H⟩
    · have := ready_mono hj hji
      rw [H.1] at this
      cases this
  | succ f ih =>
    intro listed a w hfree hr hy hT H
    refine ⟨fun h => (by rw [h] at hr; cases hr), fun j hj => ?_⟩
    by_cases hji : j = i
    · subst hji; exact hy.wpOp hi hT ⟨fun _ => hT, H⟩
    · have hun := (mem_ready.1 hr).1
      have hno : ∀ {b : Bool}, listed.getD i b = true → b = false → False := fun h hb => by
        subst hb
        rcases Nat.lt_or_ge i listed.size with h' | h'
        · simp [h'] at h hun; rw [hun] at h; cases h
        · simp [Array.getElem?_eq_none h'] at h
      obtain ⟨hjun, oj, hoj, hall⟩ := mem_ready.1 hj
      have hjL : j ≠ L := fun e => by rw [e, hL] at hoj; cases hoj
      have hnot : ∀ e ∈ oj.after, Region.binds md e = true → e.on ≠ i := fun e he hb heq => hno (heq ▸ hall e he hb) rfl
      have h2 := wpOp_putIf hoj (hfree j oj hoj hji hjun hnot) (fun cs b => hsel i oi cs b hi) (fun cs b => hsel j oj cs b hoj) hQ hy (H.2 j (ready_mono hj hji))
      refine wpOp_mono (fun a' w' h3 => ⟨h3.2.1, ih (listed.setIfInBounds j true) a' w' (fun k ok hk hki hun' hno' => hfree k ok hk hki ?_ hno') (ready_mono hr (Ne.symm hji)) h3.1 (h3.2.1 hjL) ?_⟩) h2
      · by_cases hjk : j = k
        · subst hjk; exact hjun
        · rw [getD_set_ne true hjk] at hun'; exact hun'
      · rw [Array.setIfInBounds_comm _ _ hji]
        exact h3.2.2
theorem wpAnyN_take {i : Nat} {oi : Oper} {v : Value} {f : Nat} {listed : Array Bool} {a : Act} {w : World} (hi : ops[i]? = some oi) (hs : Region.noSelect ops = true) (hf : Region.free md ops listed i = true) (hr : (Region.ready md ops listed).contains i = true) (hL : ops[L]? = none)
    (hQ : ∀ c a w, Q (.panic c) (a.put oi.dst v) w → Q (.panic c) a w) (hy : YieldsIf P ops T oi v a) (hT : T w) (h : wpAnyL P md ops Q T L f (listed.setIfInBounds i true) (a.put oi.dst v) w) : wpAnyL P md ops Q T L (f + 1) listed a w :=
  wpAnyN_take' hi (Region.noSelect_spec hs) hQ hL f listed a w (Region.free_spec hi hf) (by simpa using hr) hy hT h
theorem wpAnyN_at {i : Nat} {oi : Oper} {v : Value} (d : Option Tmp) {f : Nat} {listed : Array Bool} {a : Act} {w : World} (hi : ops[i]? = some oi) (hd : oi.dst = d) (hs : Region.noSelect ops = true) (hf : Region.free md ops listed i = true) (hr : (Region.ready md ops listed).contains i = true) (hL : ops[L]? = none)
    (hQ : ∀ c a w, Q (.panic c) (a.put d v) w → Q (.panic c) a w) (hy : YieldsIf P ops T oi v a) (hT : T w) (h : wpAnyL P md ops Q T L f (listed.setIfInBounds i true) (a.put d v) w) : wpAnyL P md ops Q T L (f + 1) listed a w := by
  subst hd; exact wpAnyN_take hi hs hf hr hL hQ hy hT h
end
theorem wpAnyL_two {P : Program} {ops : Array Oper} {Q : Exit → Act → World → Prop} {md : Region.Mode} {T : World → Prop} {L i j : Nat} {o o' : Oper} {f : Nat} {listed : Array Bool} {a : Act} {w : World} (hr : Region.ready md ops listed = [i, j]) (ho : ops[i]? = some o) (ho' : ops[j]? = some o')
    (h : ∀ K' : Act → World → Prop, Shut (∀ a w, (i ≠ L → T w) → wpAnyL P md ops Q T L f (listed.setIfInBounds i true) a w → K' a w) → if Region.wanted o (yielded ops a.tmps) = true then Oper.wp P o a w K' Q else K' (a.put o.dst undef) w)
    (h' : ∀ K' : Act → World → Prop, Shut (∀ a w, (j ≠ L → T w) → wpAnyL P md ops Q T L f (listed.setIfInBounds j true) a w → K' a w) → if Region.wanted o' (yielded ops a.tmps) = true then Oper.wp P o' a w K' Q else K' (a.put o'.dst undef) w) : wpAnyL P md ops Q T L (f + 1) listed a w := by
  refine ⟨fun h0 => (by rw [hr] at h0; cases h0), fun k hk => ?_⟩
  rw [hr] at hk
  rcases List.mem_cons.1 hk with rfl | hk
  · exact wpOp_step ho (fun K' hK => h K' (fun a w h1 h2 => hK a w ⟨h1, h2⟩))
  · rw [List.mem_singleton] at hk
    subst hk
    exact wpOp_step ho' (fun K' hK => h' K' (fun a w h1 h2 => hK a w ⟨h1, h2⟩))
section
variable {w : World} {ops : Array Oper} {rest : List Oper} {o : Oper} {a : Act} {Q : Exit → Act → World → Prop} {K : Act → World → Prop} {E : Prop}
theorem step_term (hgd : o.guard = none) (x y : Operand)
    (ho : o.op = .call { callee := .builtin .append, args := #[x, y], argTypes := #[33, 33] }) (base p g : Nat) (v : Value) (xs : List Value) (hx : a.eval x = v) (hy : a.eval y = .slice (some ⟨g, 0, none⟩) 1 1)
    (hv : w.ownsRow base 35 9 v p xs) (oz : Obj) (hs : w.heap[g]? = some oz) (hoz : oz = .cells #[.int .i64 0, .int .i64 0, .complex .f64 0 0, .string e0, .int .i64 0, .int .u32 0, .int .u64 0, nl, nl] 35 (0, 0)) (hlen : p ≤ 1000) (hbase : base ≤ w.heap.size)
    (h : ∀ v' w', w'.ownsRow base 35 9 v' (p + 1) (xs ++ cellsOf zt) → w.grownBy w' v.ownBlock → (v'.ownBlock = v.ownBlock ∨ v'.ownBlock = some w.heap.size) → K (a.put o.dst v') w') :
    if Region.wanted o (yielded ops a.tmps) = true then Oper.wp Try.prog o a w K Q else E := by
  have hw : Region.wanted o (yielded ops a.tmps) = true := by simp [Region.wanted, hgd]
  subst hoz
  rw [if_pos hw]
  obtain ⟨i0, hi, hz0, hz1, hz2⟩ := info_parts info31
  obtain ⟨v', w', hr, hown, hgrow, _, hloc⟩ := run_append_own_at (P := Try.prog) w base 33 o.type 35 i0 (lf 0 0 0 0 e0 0 0 0) 9 120 Try.underlying33 hi hz0 hz1 hz2 rfl (by decide) v p xs hv ⟨g, 0, none⟩ 1 1 (cellsOf zt) rfl
    (fun j u hu => by
      rw [Addr.add_lit, Nat.zero_add]
      simp only [World.cell?, hs]
      simpa [cellsOf] using hu) (fun u hu => by simp [cellsOf] at hu; rcases hu with rfl | rfl | rfl | rfl | rfl | rfl | rfl | rfl | rfl <;> rfl) (by unfold maxLen; omega) (by omega) hbase
  unfold Oper.wp execOp
  simp only [ho, resolve, invoke, builtin, Sem.run_bind, Sem.run_pure, Result.andThen_ok, List.map_toArray, List.map_cons, List.map_nil, hx, hy, hr]
  exact h v' w' hown hgrow hloc
end
abbrev r9 (W : World) (g j : Nat) (z : Int) (a1 : Option Addr) (c1 : Nat) (a2 : Option Addr) (c2 : Nat) : World := (((((((((W.setCell ⟨g, j, none⟩ (.int .i64 1)).setCell ⟨g, j + 1, none⟩ (.int .i64 z)).setCell ⟨g, j + 2, none⟩ (.complex .f64 0 0)).setCell ⟨g, j + 3, none⟩ (.string e0)).setCell ⟨g, j + 4, none⟩ (.int .i64 0)).setCell ⟨g, j + 5, none⟩ (.int .u32 0)).setCell ⟨g, j + 6, none⟩ (.int .u64 0)).setCell ⟨g, j + 7, none⟩ (.slice a1 0 c1)).setCell ⟨g, j + 8, none⟩ (.slice a2 0 c2))
theorem r9_row {g n c : Nat} {xs : List Value} (h : W.ownsRow 0 35 9 (.slice (some ⟨g, 0, none⟩) (n + 1) c) (n + 1) (xs ++ cellsOf zt)) (hx : xs.length = n * 9) (z : Int) (a1 : Option Addr) (c1 : Nat) (a2 : Option Addr) (c2 : Nat) :
    (r9 W g (n * 9) z a1 c1 a2 c2).ownsRow 0 35 9 (.slice (some ⟨g, 0, none⟩) (n + 1) c) (n + 1) (xs ++ cellsOf (iv z a1 c1 a2 c2)) ∧ Gr (fun i => i = g) W (r9 W g (n * 9) z a1 c1 a2 c2) := by
  have := row9 (P := xs) (Q := []) h (n * 9) hx 1 z 0 0 e0 0 0 0 (.slice a1 0 c1) (.slice a2 0 c2)
  rw [List.append_nil] at this
  exact this
theorem put_fin {b n p g c : Nat} {l : List Int} {vs : List Value} {v0 : Value} (h1 : W.heap[b]? = some (.cells #[v0, .int .i64 (p : Int)] 49 (0, 0))) (h2 : W.ownsRow 0 35 9 (.slice (some ⟨g, 0, none⟩) (n + 1) c) (n + 1) (vs.flatMap cellsOf ++ cellsOf zt)) (h3 : Ivs l vs) (hn : l.length = n) (hp : p ≤ n) (z : Int) (a1 : Option Addr) (c1 : Nat) (a2 : Option Addr) (c2 : Nat) :
    (Mb ((r9 W g (n * 9) z a1 c1 a2 c2).setCell ⟨b, 0, none⟩ (.slice (some ⟨g, 0, none⟩) (n + 1) c)) b (l ++ [z]) p ∧ Gr (fun i => i = b ∨ i = g) W ((r9 W g (n * 9) z a1 c1 a2 c2).setCell ⟨b, 0, none⟩ (.slice (some ⟨g, 0, none⟩) (n + 1) c)) ∧ ((r9 W g (n * 9) z a1 c1 a2 c2).setCell ⟨b, 0, none⟩ (.slice (some ⟨g, 0, none⟩) (n + 1) c)).heap[b]? = some (.cells #[.slice (some ⟨g, 0, none⟩) (n + 1) c, .int .i64 (p : Int)] 49 (0, 0))) ∧
    (Mb (r9 (W.setCell ⟨b, 0, none⟩ (.slice (some ⟨g, 0, none⟩) (n + 1) c)) g (n * 9) z a1 c1 a2 c2) b (l ++ [z]) p ∧ Gr (fun i => i = b ∨ i = g) W (r9 (W.setCell ⟨b, 0, none⟩ (.slice (some ⟨g, 0, none⟩) (n + 1) c)) g (n * 9) z a1 c1 a2 c2) ∧ (r9 (W.setCell ⟨b, 0, none⟩ (.slice (some ⟨g, 0, none⟩) (n + 1) c)) g (n * 9) z a1 c1 a2 c2).heap[b]? = some (.cells #[.slice (some ⟨g, 0, none⟩) (n + 1) c, .int .i64 (p : Int)] 49 (0, 0))) := by
  have hbg : b ≠ g := by
    rintro rfl
    rcases h2.2 with ⟨e, _⟩ | ⟨g', cap, cur, e, _, k, _⟩
    · cases e
    · cases e; rw [h1] at k; cases k
  have hx : (vs.flatMap cellsOf).length = n * 9 := by rw [h3.flen, hn]
  have hl : (l ++ [z]).length = n + 1 := by simp [hn]
  have hv : Ivs (l ++ [z]) (vs ++ [iv z a1 c1 a2 c2]) := h3.append (Ivs.one _ _ _ _ _)
  have he : (vs ++ [iv z a1 c1 a2 c2]).flatMap cellsOf = vs.flatMap cellsOf ++ cellsOf (iv z a1 c1 a2 c2) := by simp
  refine ⟨?_, ?_⟩
  · obtain ⟨k1, k2⟩ := r9_row h2 hx z a1 c1 a2 c2
    have k3 := k2.keep h1 (fun e => hbg e)
    have g3 : Gr (fun i => i = b) (r9 W g (n * 9) z a1 c1 a2 c2) ((r9 W g (n * 9) z a1 c1 a2 c2).setCell ⟨b, 0, none⟩ (.slice (some ⟨g, 0, none⟩) (n + 1) c)) := Gr.set _ _ _ rfl
    refine ⟨⟨⟨_, _, set_first k3 _, ?_, hv⟩, by rw [hl]; omega⟩, (k2.mono (fun _ _ e => .inr e)).trans (g3.mono (fun _ _ e => .inl e)), set_first k3 _⟩
    rw [hl, he]
    exact ownsRow_of_block k1 (fun k _ e => g3.block k (ownsRow_lt k1 k e).2 (fun e' => by simp [Value.ownBlock] at e; omega))
  · have g3 : Gr (fun i => i = b) W (W.setCell ⟨b, 0, none⟩ (.slice (some ⟨g, 0, none⟩) (n + 1) c)) := Gr.set _ _ _ rfl
    have h2' := ownsRow_of_block (W' := W.setCell ⟨b, 0, none⟩ (.slice (some ⟨g, 0, none⟩) (n + 1) c)) h2 (fun k _ e => g3.block k (ownsRow_lt h2 k e).2 (fun e' => by simp [Value.ownBlock] at e; omega))
    obtain ⟨k1, k2⟩ := r9_row h2' hx z a1 c1 a2 c2
    refine ⟨⟨⟨_, _, k2.keep (set_first h1 _) (fun e => hbg e), ?_, hv⟩, by rw [hl]; omega⟩, (g3.mono (fun _ _ e => .inl e)).trans (k2.mono (fun _ _ e => .inr e)), k2.keep (set_first h1 _) (fun e => hbg e)⟩
    rw [hl, he]
    exact k1
end Go.Proofs.Yticgnaikbmnagaa
