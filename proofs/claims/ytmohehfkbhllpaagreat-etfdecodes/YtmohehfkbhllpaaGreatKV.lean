/-
  Carried over from another seat of ours (KV).
-/
import Derived.Test.YtmohehfkbhllpaaGreatKS
import Derived.Deep.RegionLaw
set_option linter.unusedVariables false
set_option linter.unusedSimpArgs false
namespace Go.Proofs.YtmohehfkbhllpaaGreat
open Go.RowKit Go.Maps
variable {S S' Z F F0 : Nat → Prop} {W W0 W1 W' : World}
theorem info73 : (Tryz.prog.info? 78).map (fun i => (i.zero, i.size, i.bytes)) = some (some (.agg #[.int .i64 0, .int .i64 0, .complex .f64 0 0, .string e0, .int .i64 0, .int .u32 0, .int .u64 0, nl, nl, .int .i64 0]), 10, 128) := by kernel_rfl
section
variable {w : World} {ops : Array Oper} {rest : List Oper} {o : Oper} {a : Act} {Q : Exit → Act → World → Prop} {K : Act → World → Prop} {E : Prop}
theorem step_n (hgd : o.guard = none) (x y : Operand)
    (ho : o.op = .call { callee := .builtin .append, args := #[x, y], argTypes := #[67, 67] }) (base p g : Nat) (v : Value) (xs : List Value) (k : Int) (wn : Nat) (hx : a.eval x = v) (hy : a.eval y = .slice (some ⟨g, 0, none⟩) 1 1)
    (hv : w.ownsRow base 78 10 v p xs) (hs : w.heap[g]? = some (.cells #[.int .i64 k, .int .i64 0, .complex .f64 0 0, .string e0, .int .i64 0, .int .u32 0, .int .u64 0, nl, nl, .int .i64 (wn : Int)] 78 (0, 0))) (hlen : p ≤ 256) (hbase : base ≤ w.heap.size)
    (h : ∀ v' w', w'.ownsRow base 78 10 v' (p + 1) (xs ++ nestC k nl wn) → Loc v w v' w' → K (a.put o.dst v') w') :
    if Region.wanted o (yielded ops a.tmps) = true then Oper.wp Tryz.prog o a w K Q else E := by
  have hw : Region.wanted o (yielded ops a.tmps) = true := by simp [Region.wanted, hgd]
  rw [if_pos hw]
  obtain ⟨i0, hi, hz0, hz1, hz2⟩ := info_parts info73
  obtain ⟨v', w', hr, hown, hgrow, _, hloc⟩ := run_append_own_at (P := Tryz.prog) w base 67 o.type 78 i0 (.agg #[.int .i64 0, .int .i64 0, .complex .f64 0 0, .string e0, .int .i64 0, .int .u32 0, .int .u64 0, nl, nl, .int .i64 0]) 10 128 Tryz.underlying67 hi hz0 hz1 hz2 rfl (by decide) v p xs hv ⟨g, 0, none⟩ 1 1 (nestC k nl wn) rfl
    (fun j u hu => by
      rw [Addr.add_lit, Nat.zero_add]
      simp only [World.cell?, hs]
      simpa using hu) (fun u hu => by simp [nestC] at hu; rcases hu with rfl | rfl | rfl | rfl | rfl | rfl | rfl | rfl | rfl <;> rfl) (by unfold maxLen; omega) (by omega) hbase
  unfold Oper.wp execOp
  simp only [ho, resolve, invoke, builtin, Sem.run_bind, Sem.run_pure, Result.andThen_ok, List.map_toArray, List.map_cons, List.map_nil, hx, hy, hr]
  exact h v' w' hown ⟨Gr.of_grown hgrow (fun k e => e), hloc.imp id (fun h k e => by rw [h] at e; cases e; exact Nat.le_refl _)⟩
/-- A callee, as one step of a region that draws. -/
theorem step_fn {f t : Nat} (x : Operand) (u : Value) {M : Ending → World → Prop} (hgd : o.guard = none) (ho : o.op = .call { callee := .value (.func f), args := #[x], argTypes := #[t] }) (hx : a.eval x = u) (eg : ∀ args w, (callFunc f args).run Tryz.prog w = .ok (.enter f args) w)
    (hc : Calls Tryz.prog f #[u] w M) (h : ∀ e w', M e w' → match e with | .returned v => K (a.put o.dst v) w' | .panicked ch => Q (.panic ch) a w' | .outgrown => LetsOut Q) :
    if Region.wanted o (yielded ops a.tmps) = true then Oper.wp Tryz.prog o a w K Q else E := by
  have hw : Region.wanted o (yielded ops a.tmps) = true := by simp [Region.wanted, hgd]
  rw [if_pos hw]
  unfold Oper.wp execOp
  have hf : a.eval (.func f) = .func (.func f) #[] #[] := rfl
  simp only [ho, resolve, invoke, Deferred.ofValue, Sem.run_bind, Sem.run_pure, Result.andThen_ok, List.map_toArray, List.map_cons, List.map_nil, hx, hf, Array.append_empty, eg]
  refine (show Calls Tryz.prog f #[u] w _ from hc.mono (fun e w' hm => by cases e <;> exact h _ w' hm))
theorem step_ret {f t : Nat} (x : Operand) (u v : Value) {R : World → Prop} (hgd : o.guard = none) (ho : o.op = .call { callee := .value (.func f), args := #[x], argTypes := #[t] }) (hx : a.eval x = u) (eg : ∀ args w, (callFunc f args).run Tryz.prog w = .ok (.enter f args) w)
    (hc : Calls Tryz.prog f #[u] w fun e w' => e = .returned v ∧ R w') (h : ∀ w', R w' → K (a.put o.dst v) w') :
    if Region.wanted o (yielded ops a.tmps) = true then Oper.wp Tryz.prog o a w K Q else E :=
  step_fn x u hgd ho hx eg hc (fun e w' hm => by obtain ⟨rfl, hr⟩ := hm; exact h w' hr)
theorem step_thr {f t : Nat} (x : Operand) (u v : Value) {c : Int} {R : World → Prop} (hgd : o.guard = none) (ho : o.op = .call { callee := .value (.func f), args := #[x], argTypes := #[t] }) (hx : a.eval x = u) (eg : ∀ args w, (callFunc f args).run Tryz.prog w = .ok (.enter f args) w)
    (hc : Calls Tryz.prog f #[u] w fun e w' => e = thr c ∧ R w') (hq : ∀ w', R w' → Q (.panic [{ v := .iface 32 (.int .i64 c), recovered := false }]) a w') (_ : Hid False → K (a.put o.dst v) w) :
    if Region.wanted o (yielded ops a.tmps) = true then Oper.wp Tryz.prog o a w K Q else E :=
  step_fn x u hgd ho hx eg hc (fun e w' hm => by obtain ⟨rfl, hr⟩ := hm; exact hq w' hr)
end
/-- Under what cannot be. -/
theorem step_no {w : World} {ops : Array Oper} {o : Oper} {a : Act} {Q : Exit → Act → World → Prop} {K : Act → World → Prop} {E : Prop} (v : Value) (hf : Hid False) (_ : K (a.put o.dst v) w) : if Region.wanted o (yielded ops a.tmps) = true then Oper.wp Tryz.prog o a w K Q else E := hf.out.elim
/-- At a panic Q, whatever the frame that defers nothing; nothing else. -/
def panF (Q : Exit → Act → World → Prop) : Exit → Act → World → Prop
  | .panic ch, a, w => a.defers = [] ∧ ∀ a', a'.defers = [] → Q (.panic ch) a' w
  | _, _, _ => False
theorem thenP_le {K : Act → World → Prop} {Q : Exit → Act → World → Prop} : ∀ e a w, Exit.then K (panF Q) e a w → Exit.then K Q e a w
  | .normal, _, _, h => h
  | .panic _, a, _, h => h.2 a h.1
  | .ret, _, _, h => h.elim
  | .exit _, _, _, h => h.elim
  | .goto _, _, _, h => h.elim
  | .outgrown, _, _, h => h.elim
theorem jc_push {b tb R X n q u : Nat} {k : Int} {m : List Int} {l : List ByteArray} {ov v' : Value} {ns : List Ne} {B : Nat → Prop} {a a' : Act} {w wA w' : World} {vals : List Value} (h : Jc Z F0 W0 b tb R X F n m l ov ns B a w) (hN : Nst (W0.heap.size + 2) w ns vals B) (hq : ns.length = q) (hns : q < 24)
    (hov : ∀ i, ov.ownBlock = some i → W0.heap.size + 2 ≤ i) (gA : Gr (fun _ => False) w wA) (hl : Loc ov wA v' w') (hrow : w'.ownsRow (W0.heap.size + 2) 78 10 v' (q + 1) (vals ++ nestC k nl u)) (hf : Fr b R X v' a') : Jc Z F0 W0 b tb R X F n m l v' (⟨k, u, []⟩ :: ns) B a' w' := by
  have g : Gr (fun i => ov.ownBlock = some i) w w' := (gA.mono (fun _ _ e => e.elim)).trans hl.gr
  have h1 := h.hX
  have h2 := h.hR
  have h3 := h.b0
  have ho := h.op
  have hX : ¬ ov.ownBlock = some X := fun e => by have := hov _ e; omega
  have hR : ¬ ov.ownBlock = some R := fun e => by have := hov _ e; omega
  have hb : ¬ ov.ownBlock = some b := fun e => by have := hov _ e; omega
  have hsz := gA.size
  refine ⟨hf, ⟨ho.rt.gr g hb (fun i hi e => by have := hov _ e; have := h.z0 i hi; omega) (fun i hi e => (ho.own i e).2 hi), ⟨vals ++ nestC k nl u, (hN.gr g (fun i hi e => (ho.own i e).1 hi)).push k u, by rw [List.length_cons, hq]; exact hrow⟩, fun i hi => ?_, fun i hi => ⟨(ho.bF i hi).1, (ho.bF i hi).2.1, Nat.lt_of_lt_of_le (ho.bF i hi).2.2 g.size⟩, ho.bb, ho.zb, fun i hi => Nat.lt_of_lt_of_le (ho.fl i hi) g.size⟩, h.rb.gr g hR, h.fx, h.f0, h.gr.trans' g (fun i hi e => by have := hov _ e; omega), h.hR, h.hX, by rw [List.length_cons, hq]; omega, h.n4, h.b0, h.z0, ?_⟩
  · rcases hl.at_ with e | hn
    · rw [e] at hi; exact ho.own i hi
    · have := hn i hi
      exact ⟨fun e => by have := (ho.bF i e).2.2; omega, fun e => by have := ho.fl i e; omega⟩
  · obtain ⟨_, _, _, _, _, _, _, _, _, _, hx⟩ := h.xb
    exact ⟨_, _, _, _, _, _, _, _, _, _, hx.gr g hX⟩
set_option maxRecDepth 20000 in
set_option maxHeartbeats 1600000 in
theorem begin_nest6 (Y : Code) (hY : Lab 0 (.seq .skip Y)) (Q : Exit → Act → World → Prop) (b tb R X n : Nat) (m : List Int) (l : List ByteArray) (ov : Value) (ns : List Ne) (B : Nat → Prop)
    (h1 : ∀ (u : Nat) m', nmb 10 0 0 m = .ok (u, m') → ¬ 256 < u → ∀ a w ov' B', Jc Z F0 W0 b tb R X F (n + 1) m' l ov' (⟨6, u, []⟩ :: ns) B' a w → Q (.goto 3) a w)
    (hpan : ∀ c, (nmb 10 0 0 m = .error c ∨ ∃ (u : Nat) (m' : List Int), nmb 10 0 0 m = .ok (u, m') ∧ 256 < u ∧ c = 73) → ∀ a w, a.defers = [] → Gr (fun k => k = b ∨ F0 k) W0 w → Q (.panic [{ v := .iface 32 (.int .i64 c), recovered := false }]) a w)
    (a : Act) (w : World) (hJ : Jc Z F0 W0 b tb R X F n (6 :: m) l ov ns B a w) (hn24 : ns.length < 24) (hn : n < 4096) : Y.wp Tryz.prog Q a w := by
  unfold Lab at hY
  simp only [Tryz.f13, scopeOf, findLabel, Option.getD] at hY
  cases hY
  obtain ⟨vals, -, hrow⟩ := hJ.op.nst
  obtain ⟨x, rfl⟩ := hJ.fr.lit
  obtain ⟨q, hq⟩ : ∃ q, ns.length = q := ⟨_, rfl⟩
  rw [hq] at hrow hn24
  have hsv : ∃ a c, ov = .slice a q c := ownsRow_sv hrow
  obtain ⟨oa, oc, rfl⟩ := hsv
  have hqI : (q : Int) < 24 := by omega
  have hb := Lib.hid (begin_ok w b n tb (6 :: m) ((q : Int) + 1) (by omega) hJ.op.rt.re hn)
  have HJ := Lib.hid hJ
  have hpan := Lib.hid hpan
  have h1 := Lib.hid h1
  have Hn := Lib.hid hn
  have hq2 := Lib.hid hq
  have hq24 := Lib.hid hn24
  clear hJ hrow hq hn hn24
  go_wp2_with fail
  refine hb.out.mono ?_
  rintro e w1 ⟨rfl, hs⟩
  have J1 := Lib.hid (HJ.out.sr hs (by have := Hn.out; omega) HJ.out.fr)
  clear hs
  have ho := Lib.hid (one_ok w1 b (n + 1) tb 6 m J1.out.op.rt.re)
  go_wp2_with fail
  refine ho.out.mono ?_
  rintro e w2 ⟨rfl, hs⟩
  have J2 := J1.out.sr hs (by have := Hn.out; omega) HJ.out.fr
  clear hs
  obtain ⟨tk, tn, tx, ty, ts, ta, tc, td, tbv, tlv, hx⟩ := J2.xb
  have hxf := hx.facts
  have z0 := hx.froz 0 (by decide)
  have z1 := hx.froz 1 (by decide)
  have z2 := hx.froz 2 (by decide)
  have z3 := hx.froz 3 (by decide)
  have z4 := hx.froz 4 (by decide)
  have z5 := hx.froz 5 (by decide)
  have z6 := hx.froz 6 (by decide)
  have z7 := hx.froz 7 (by decide)
  have z8 := hx.froz 8 (by decide)
  obtain ⟨s9, g9⟩ := hx.set9 6 0 0 0 e0 0 0 0 nl nl
  have J3 := Lib.hid (J2.tx g9 ⟨_, _, _, _, _, _, _, _, _, _, s9⟩ HJ.out.fr)
  have S9 := Lib.hid s9

  clear s9 g9 hx J2
  have hXb := J3.out.nX.1
  obtain ⟨vals, hN, hrow⟩ := J3.out.op.nst
  rw [hq2.out] at hrow
  have hov := (fun i hi => (ownsRow_lt hrow i hi).1 : ∀ i, (Value.slice oa q oc).ownBlock = some i → W0.heap.size + 2 ≤ i)
  have eg : ∀ args w, (callFunc 29 args).run Tryz.prog w = .ok (.enter 29 args) w := enters_of Tryz.func29 (by kernel_rfl) rfl
  go_wp2_with fail
  generalize hWc : World.setCell (World.setCell (World.setCell (World.setCell (World.setCell (World.setCell (World.setCell (World.setCell (World.setCell w2 _ _) _ _) _ _) _ _) _ _) _ _) _ _) _ _) _ _ = Wc at J3 S9 hN hrow ⊢
  clear hWc
  have hel := Lib.hid (fun w (g : Gr (fun _ => False) Wc w) => elements_c w b (n + 1) tb m (J3.out.op.rt.re.g0 g))
  have hgr := Lib.hid (fun w' (g : Gr (fun k => k = b) Wc w') => J3.out.gr.trans (g.mono (fun _ _ e => .inl e) : Gr (fun k => k = b ∨ F0 k) Wc w'))
  have HN := Lib.hid hN
  have Hrow := Lib.hid hrow
  have Hov := Lib.hid hov
  have hfc := S9.out.facts
  clear hN hrow hov
  cases hr : nmb 10 0 0 m with
  | error c =>
    rw [hr] at hel
    have Hr := Lib.hid hr
    clear hr
    refine wp_mono (Q := Exit.then _ (panF _)) ?_ thenP_le
    go_region_law (first
      | (refine step_thr _ (pt b) (.int .i64 0) rfl rfl rfl eg (hel.out _ (Gr.drew Wc _)) (fun w' hg => ⟨rfl, fun a' ha => hpan.out c (.inl Hr.out) a' _ ha (hgr.out _ ((Gr.drew Wc _).trans hg))⟩) (fun hf => ?_))
      | (refine step_no (.int .i64 0) hf ?_)
      | fail)
    all_goals exact hf.out.elim
  | ok um =>
    obtain ⟨u, m'⟩ := um
    rw [hr] at hel
    have Hr := Lib.hid hr
    clear hr
    by_cases hu : 256 < u
    · simp only [EndK, if_pos hu] at hel
      have Hu := Lib.hid hu
      clear hu
      refine wp_mono (Q := Exit.then _ (panF _)) ?_ thenP_le
      go_region_law (first
        | (refine step_thr _ (pt b) (.int .i64 0) rfl rfl rfl eg (hel.out _ (Gr.drew Wc _)) (fun w' hg => ⟨rfl, fun a' ha => hpan.out 73 (.inr ⟨u, m', Hr.out, Hu.out, rfl⟩) a' _ ha (hgr.out _ ((Gr.drew Wc _).trans hg))⟩) (fun hf => ?_))
        | (refine step_no (.int .i64 0) hf ?_)
        | fail)
      all_goals exact hf.out.elim
    · simp only [EndK, if_neg hu] at hel
      have Hu := Lib.hid hu
      clear hu
      refine wp_mono (Q := Exit.then _ (fun _ _ _ => False)) ?_ thenF_le
      go_region_law (first
        | (refine step_ret _ (pt b) (.int .i64 (u : Int)) rfl rfl rfl eg (hel.out _ (Gr.drew Wc _)) ?_; intro w3 hs; have hf3 := (S9.out.gr ((Gr.drew Wc (fun k => k = b)).trans hs.2) hXb).facts; have G3 := Lib.hid ((Gr.drew Wc (fun k => k = b)).trans hs.2); have Hs := Lib.hid hs; clear hs; have row3 := Lib.hid (ownsRow_gr Hrow.out G3.out (fun i hi e => by have := J3.out.b0; omega)); have sz3 : W0.heap.size + 2 ≤ w3.heap.size + 1 := (by have := G3.out.size; have := (J3.out.fresh (Nat.le_refl _)).1; omega))
        | (refine step_n rfl _ _ rfl (W0.heap.size + 2) q w3.heap.size (.slice oa q oc) vals 6 u rfl rfl (ownsRow_gr row3.out (Gr.alloc w3 _ (fun _ => False)) (fun _ _ e => e)) (heap_alloc_new w3 _) (by omega) (by simpa using sz3) ?_; intro v4 w4 o4 l4; have O4 := Lib.hid o4; have L4 := Lib.hid l4; clear o4 l4)
        | fail)
      all_goals
        go_wp2_with fail
        refine wp_goto ?_
        have J4 := J3.out.sr ⟨Hs.out.1, G3.out⟩ (by have := Hn.out; omega) HJ.out.fr
        exact h1.out u m' Hr.out Hu.out _ _ _ _ (jc_push J4 (HN.out.gr G3.out (fun i hi e => by have := (J3.out.op.bF i hi).2.1; have := J3.out.b0; omega)) hq2.out hq24.out Hov.out (Gr.alloc w3 _ _) L4.out O4.out ⟨rfl, rfl, rfl, rfl, rfl, rfl⟩)
set_option maxRecDepth 20000 in
set_option maxHeartbeats 1600000 in
theorem begin_nest7 (Y : Code) (hY : Lab 0 (.seq .skip Y)) (Q : Exit → Act → World → Prop) (b tb R X n : Nat) (m : List Int) (l : List ByteArray) (ov : Value) (ns : List Ne) (B : Nat → Prop)
    (h1 : ∀ (u : Nat) m', nmb 10 0 0 m = .ok (u, m') → ¬ 256 < u → ∀ a w ov' B', Jc Z F0 W0 b tb R X F (n + 1) m' l ov' (⟨7, u, []⟩ :: ns) B' a w → Q (.goto 3) a w)
    (hpan : ∀ c, (nmb 10 0 0 m = .error c ∨ ∃ (u : Nat) (m' : List Int), nmb 10 0 0 m = .ok (u, m') ∧ 256 < u ∧ c = 73) → ∀ a w, a.defers = [] → Gr (fun k => k = b ∨ F0 k) W0 w → Q (.panic [{ v := .iface 32 (.int .i64 c), recovered := false }]) a w)
    (a : Act) (w : World) (hJ : Jc Z F0 W0 b tb R X F n (7 :: m) l ov ns B a w) (hn24 : ns.length < 24) (hn : n < 4096) : Y.wp Tryz.prog Q a w := by
  unfold Lab at hY
  simp only [Tryz.f13, scopeOf, findLabel, Option.getD] at hY
  cases hY
  obtain ⟨vals, -, hrow⟩ := hJ.op.nst
  obtain ⟨x, rfl⟩ := hJ.fr.lit
  obtain ⟨q, hq⟩ : ∃ q, ns.length = q := ⟨_, rfl⟩
  rw [hq] at hrow hn24
  have hsv : ∃ a c, ov = .slice a q c := ownsRow_sv hrow
  obtain ⟨oa, oc, rfl⟩ := hsv
  have hqI : (q : Int) < 24 := by omega
  have hb := Lib.hid (begin_ok w b n tb (7 :: m) ((q : Int) + 1) (by omega) hJ.op.rt.re hn)
  have HJ := Lib.hid hJ
  have hpan := Lib.hid hpan
  have h1 := Lib.hid h1
  have Hn := Lib.hid hn
  have hq2 := Lib.hid hq
  have hq24 := Lib.hid hn24
  clear hJ hrow hq hn hn24
  go_wp2_with fail
  refine hb.out.mono ?_
  rintro e w1 ⟨rfl, hs⟩
  have J1 := Lib.hid (HJ.out.sr hs (by have := Hn.out; omega) HJ.out.fr)
  clear hs
  have ho := Lib.hid (one_ok w1 b (n + 1) tb 7 m J1.out.op.rt.re)
  go_wp2_with fail
  refine ho.out.mono ?_
  rintro e w2 ⟨rfl, hs⟩
  have J2 := J1.out.sr hs (by have := Hn.out; omega) HJ.out.fr
  clear hs
  obtain ⟨tk, tn, tx, ty, ts, ta, tc, td, tbv, tlv, hx⟩ := J2.xb
  have hxf := hx.facts
  have z0 := hx.froz 0 (by decide)
  have z1 := hx.froz 1 (by decide)
  have z2 := hx.froz 2 (by decide)
  have z3 := hx.froz 3 (by decide)
  have z4 := hx.froz 4 (by decide)
  have z5 := hx.froz 5 (by decide)
  have z6 := hx.froz 6 (by decide)
  have z7 := hx.froz 7 (by decide)
  have z8 := hx.froz 8 (by decide)
  obtain ⟨s9, g9⟩ := hx.set9 7 0 0 0 e0 0 0 0 nl nl
  have J3 := Lib.hid (J2.tx g9 ⟨_, _, _, _, _, _, _, _, _, _, s9⟩ HJ.out.fr)
  have S9 := Lib.hid s9

  clear s9 g9 hx J2
  have hXb := J3.out.nX.1
  obtain ⟨vals, hN, hrow⟩ := J3.out.op.nst
  rw [hq2.out] at hrow
  have hov := (fun i hi => (ownsRow_lt hrow i hi).1 : ∀ i, (Value.slice oa q oc).ownBlock = some i → W0.heap.size + 2 ≤ i)
  have eg : ∀ args w, (callFunc 29 args).run Tryz.prog w = .ok (.enter 29 args) w := enters_of Tryz.func29 (by kernel_rfl) rfl
  go_wp2_with fail
  generalize hWc : World.setCell (World.setCell (World.setCell (World.setCell (World.setCell (World.setCell (World.setCell (World.setCell (World.setCell w2 _ _) _ _) _ _) _ _) _ _) _ _) _ _) _ _) _ _ = Wc at J3 S9 hN hrow ⊢
  clear hWc
  have hel := Lib.hid (fun w (g : Gr (fun _ => False) Wc w) => elements_c w b (n + 1) tb m (J3.out.op.rt.re.g0 g))
  have hgr := Lib.hid (fun w' (g : Gr (fun k => k = b) Wc w') => J3.out.gr.trans (g.mono (fun _ _ e => .inl e) : Gr (fun k => k = b ∨ F0 k) Wc w'))
  have HN := Lib.hid hN
  have Hrow := Lib.hid hrow
  have Hov := Lib.hid hov
  have hfc := S9.out.facts
  clear hN hrow hov
  cases hr : nmb 10 0 0 m with
  | error c =>
    rw [hr] at hel
    have Hr := Lib.hid hr
    clear hr
    refine wp_mono (Q := Exit.then _ (panF _)) ?_ thenP_le
    go_region_law (first
      | (refine step_thr _ (pt b) (.int .i64 0) rfl rfl rfl eg (hel.out _ (Gr.drew Wc _)) (fun w' hg => ⟨rfl, fun a' ha => hpan.out c (.inl Hr.out) a' _ ha (hgr.out _ ((Gr.drew Wc _).trans hg))⟩) (fun hf => ?_))
      | (refine step_no (.int .i64 0) hf ?_)
      | fail)
    all_goals exact hf.out.elim
  | ok um =>
    obtain ⟨u, m'⟩ := um
    rw [hr] at hel
    have Hr := Lib.hid hr
    clear hr
    by_cases hu : 256 < u
    · simp only [EndK, if_pos hu] at hel
      have Hu := Lib.hid hu
      clear hu
      refine wp_mono (Q := Exit.then _ (panF _)) ?_ thenP_le
      go_region_law (first
        | (refine step_thr _ (pt b) (.int .i64 0) rfl rfl rfl eg (hel.out _ (Gr.drew Wc _)) (fun w' hg => ⟨rfl, fun a' ha => hpan.out 73 (.inr ⟨u, m', Hr.out, Hu.out, rfl⟩) a' _ ha (hgr.out _ ((Gr.drew Wc _).trans hg))⟩) (fun hf => ?_))
        | (refine step_no (.int .i64 0) hf ?_)
        | fail)
      all_goals exact hf.out.elim
    · simp only [EndK, if_neg hu] at hel
      have Hu := Lib.hid hu
      clear hu
      refine wp_mono (Q := Exit.then _ (fun _ _ _ => False)) ?_ thenF_le
      go_region_law (first
        | (refine step_ret _ (pt b) (.int .i64 (u : Int)) rfl rfl rfl eg (hel.out _ (Gr.drew Wc _)) ?_; intro w3 hs; have hf3 := (S9.out.gr ((Gr.drew Wc (fun k => k = b)).trans hs.2) hXb).facts; have G3 := Lib.hid ((Gr.drew Wc (fun k => k = b)).trans hs.2); have Hs := Lib.hid hs; clear hs; have row3 := Lib.hid (ownsRow_gr Hrow.out G3.out (fun i hi e => by have := J3.out.b0; omega)); have sz3 : W0.heap.size + 2 ≤ w3.heap.size + 1 := (by have := G3.out.size; have := (J3.out.fresh (Nat.le_refl _)).1; omega))
        | (refine step_n rfl _ _ rfl (W0.heap.size + 2) q w3.heap.size (.slice oa q oc) vals 7 u rfl rfl (ownsRow_gr row3.out (Gr.alloc w3 _ (fun _ => False)) (fun _ _ e => e)) (heap_alloc_new w3 _) (by omega) (by simpa using sz3) ?_; intro v4 w4 o4 l4; have O4 := Lib.hid o4; have L4 := Lib.hid l4; clear o4 l4)
        | fail)
      all_goals
        go_wp2_with fail
        refine wp_goto ?_
        have J4 := J3.out.sr ⟨Hs.out.1, G3.out⟩ (by have := Hn.out; omega) HJ.out.fr
        exact h1.out u m' Hr.out Hu.out _ _ _ _ (jc_push J4 (HN.out.gr G3.out (fun i hi e => by have := (J3.out.op.bF i hi).2.1; have := J3.out.b0; omega)) hq2.out hq24.out Hov.out (Gr.alloc w3 _ _) L4.out O4.out ⟨rfl, rfl, rfl, rfl, rfl, rfl⟩)
end Go.Proofs.YtmohehfkbhllpaaGreat

