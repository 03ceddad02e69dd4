/-
  Near of 3 and 2, of which 2 alone is known; the chapter's examples.
-/
import Derived.Test.YtedmfnleckelaaaD
set_option linter.unusedSimpArgs false
set_option linter.unusedVariables false
namespace Go.Proofs.Ytedmfnleckelaaa
open Go.Shelf Go.RowKit Go.Lib Go.Sort Go.Maps
variable {S S' : Nat → Prop} {W W1 W' : World}
theorem run_copy_wide (w : World) (dT sT ty elem : TypeId) (sz g o dLen dCap : Nat) (a : Addr) (sLen sCap : Nat) (cur : Array Value) (t : TypeId) (cs : List Value)
    (hu : Try.prog.underlying dT = some (.slice elem)) (hs : (Try.prog.info? elem).map (·.size) = some sz)
    (hg : w.heap[g]? = some (.cells cur t (0, 0))) (hn : cs.length = Nat.min sLen dLen * sz)
    (hsrc : ∀ j v, cs[j]? = some v → w.cell? (a.add j) = some v) (hfit : o + cs.length ≤ cur.size) (h1 : ∀ v ∈ cs, v.oneCell' = true) :
    (Builtin.copy_ #[dT, sT] ty #[.slice (some ⟨g, o, none⟩) dLen dCap, .slice (some a) sLen sCap]).run Try.prog w =
      .ok (goInt (Nat.min sLen dLen)) (w.setRow g (cur.toList.take o ++ cs ++ cur.toList.drop (o + cs.length)).toArray) := by
  have hl := run_loadCells_list (P := Try.prog) w a cs hsrc
  have hst := run_storeCells_at Try.prog g o t cs 0 cur w hg (by simpa using hfit) h1
  cases hq : Try.prog.info? elem with
  | none => simp [hq] at hs
  | some i =>
    have hi : i.size = sz := by simpa [hq] using hs
    simp [Builtin.copy_, run_underlying hu, Builtin.lenOf, Builtin.firstCells, sizeOf, typeInfo, hq, hi, ← hn, hl, hst]
theorem Gr.setRow (W : World) (g : Nat) (c : Array Value) (h : S g) : Gr S W (W.setRow g c) :=
  ⟨rfl, rfl, rfl, by simp [World.setRow], fun k _ hn => by
    have : k ≠ g := fun e => hn (e ▸ h)
    simp only [World.setRow, Array.getElem?_modify]; simp [Ne.symm this]⟩
theorem wpList_copy (w : World) {ops : Array Oper} {rest : List Oper} {o : Oper} {a : Act} {Q : Exit → Act → World → Prop} (hgd : o.guard = none) (x y : Operand) (dT sT : TypeId)
    (ho : o.op = .call { callee := .builtin .copy, args := #[x, y], argTypes := #[dT, sT] }) (v1 v2 : Value) (hx : a.eval x = v1) (hy : a.eval y = v2) (v : Value) (w' : World)
    (hr : (Builtin.copy_ #[dT, sT] o.type #[v1, v2]).run Try.prog w = .ok v w') (h : wpList Try.prog ops Q rest (a.put o.dst v) w') :
    wpList Try.prog ops Q (o :: rest) a w := by
  refine wpList_plain hgd fun K hK => ?_
  unfold Oper.wp execOp
  simp only [ho, resolve, invoke, builtin, Sem.run_bind, Sem.run_pure, Result.andThen_ok, List.map_toArray, List.map_cons, List.map_nil, hx, hy, hr]
  exact hK _ _ h

theorem size3 : (Try.prog.info? 3).map (·.size) = some 1 := by kernel_rfl
theorem perm_of {l : List Bool} {d : Array Bool} (h : PermIn 0 l.toArray.size l.toArray d) : d.toList.Perm l := by
  obtain ⟨h1, _, h3⟩ := h
  have e1 : d.extract 0 l.toArray.size = d := by rw [← h1]; exact Array.extract_size
  rw [e1, Array.extract_size] at h3
  simpa using h3
theorem two_sorted (d : Array Bool) (hp : PermIn 0 2 #[true, false] d) (hs : SortedIn (ltOf cf) 0 2 d) : d = #[false, true] := by
  have p : d.toList.Perm [true, false] := perm_of (l := [true, false]) hp
  have hl := p.length_eq
  obtain ⟨l⟩ := d
  match l, hl with
  | [a, b], _ =>
    have h1 := hs 0 1 (Nat.le_refl _) (by omega) (by omega)
    have h2 := p.count_eq true
    have h3 := p.count_eq false
    cases a <;> cases b
    · simp at h2
    · rfl
    · revert h1; decide
    · simp at h3
theorem mk2 (W : World) : (Instr.makeSlice 34 (.int .i64 2) (.int .i64 2)).run Try.prog W = .ok (.slice (some ⟨W.heap.size, 0, none⟩) 2 2) (W.alloc (.cells #[.int .i64 0, .int .i64 0] 3)) := by kernel_rfl
set_option maxRecDepth 20000 in
set_option maxHeartbeats 1000000 in
theorem near_c (W : World) (p mb n : Nat) (R : Int → Option Value) (h : Ch W p mb 4586656397421424955 4588821589549968463 n R) (h2 : R 2 = some (.complex .f64 4613937818241073152 4616189618054758400)) (h3 : R 3 = none) (gl : Nat) (hl : W.heap[gl]? = some (.cells #[.int .i64 3, .int .i64 2] 3 (0, 0))) :
    Calls Try.prog 9 #[pt p, .slice (some ⟨gl, 0, none⟩) 2 2] W fun e w' => ∃ g, e = .returned (.slice (some ⟨g, 0, none⟩) 2 2) ∧ w'.cell? ⟨g, 0, none⟩ = some (.int .i64 2) ∧ G0 W w' := by
  have eg : ∀ args w, (callFunc 13 args).run Try.prog w = .ok (.enter 13 args) w := enters_of Try.func13 (by kernel_rfl) rfl
  obtain ⟨w2, hw2⟩ : ∃ w2, (W.alloc (.cells #[pt p] 25)).alloc (.cells #[.int .i64 0, .int .i64 0] 3) = w2 := ⟨_, rfl⟩
  have g1 : G0 W w2 := hw2 ▸ (Gr.alloc W _ _).trans (Gr.alloc _ _ _)
  have hB2 : w2.heap[W.heap.size]? = some (.cells #[pt p] 25) := by
    rw [← hw2, heap_alloc_old _ _ (by simp)]; exact heap_alloc_new _ _
  have hg2 : w2.heap[W.heap.size + 1]? = some (.cells #[.int .i64 0, .int .i64 0] 3 (0, 0)) := by
    rw [← hw2]; have := heap_alloc_new (W.alloc (.cells #[pt p] 25)) (.cells #[.int .i64 0, .int .i64 0] 3); simpa using this
  have hl2 : w2.heap[gl]? = some (.cells #[.int .i64 3, .int .i64 2] 3 (0, 0)) := (g1.block gl (lt_of_blk hl) id).trans hl
  have hcp := run_copy_wide w2 34 34 3 3 1 (W.heap.size + 1) 0 2 2 ⟨gl, 0, none⟩ 2 2 #[.int .i64 0, .int .i64 0] 3 [.int .i64 3, .int .i64 2] Try.underlying34 size3 hg2 rfl
    (by intro j v hj
        match j, hj with
        | 0, hj => simp at hj; subst hj; simp [World.cell?, Addr.add, hl2]
        | 1, hj => simp at hj; subst hj; simp [World.cell?, Addr.add, hl2])
    (by simp) (by intro v hv; simp at hv; rcases hv with rfl | rfl <;> rfl)
  obtain ⟨w3, hw3⟩ : ∃ w3, w2.setRow (W.heap.size + 1) #[.int .i64 3, .int .i64 2] = w3 := ⟨_, rfl⟩
  have hcp' : (Builtin.copy_ #[34, 34] 3 #[.slice (some ⟨W.heap.size + 1, 0, none⟩) 2 2, .slice (some ⟨gl, 0, none⟩) 2 2]).run Try.prog w2 = .ok (.int .i64 2) w3 := by rw [← hw3]; exact hcp
  clear hcp
  have g3 : Gr (fun k => k = W.heap.size + 1) w2 w3 := hw3 ▸ Gr.setRow _ _ _ rfl
  have hB3 : w3.heap[W.heap.size]? = some (.cells #[pt p] 25) := (g3.block _ (lt_of_blk hB2) (by omega)).trans hB2
  have hg3 : w3.heap[W.heap.size + 1]? = some (.cells #[.int .i64 3, .int .i64 2] 3 (0, 0)) := by
    rw [← hw3]; simp [World.setRow, Array.getElem?_modify, hg2]
  have hp := h.lt
  have hm := h.map.lt
  have c3 : Ch w3 p mb 4586656397421424955 4588821589549968463 n R := (h.g0 g1).gr g3 (by omega) (by omega)
  have hH : Holds enc w3 (W.heap.size + 1) 0 #[true, false] := by
    intro j hj
    have hj' : j < 2 := hj
    obtain rfl | rfl : j = 0 ∨ j = 1 := by omega
    · exact ⟨by simp [World.cell?, hg3]; rfl, by simp [World.frozen?, hg3]⟩
    · exact ⟨by simp [World.cell?, hg3]; rfl, by simp [World.frozen?, hg3]⟩
  have hS := Any.slices_SortFunc Try.sortL enc (fun _ => rfl) cf swo_cf 13 #[pt W.heap.size] (W.heap.size + 1) 0 2 #[true, false] w3 eg
    (lays w3 W.heap.size p mb n (W.heap.size + 1) R c3 h2 h3 hB3 (by omega) (by omega) (by omega)) hH (lt_of_blk hg3) (by decide)
  change Calls Try.prog 12 #[.slice (some ⟨W.heap.size + 1, 0, none⟩) 2 2, .func (.func 13) #[] #[pt W.heap.size]] w3 _ at hS
  have hmk := mk2
  have hlt3 := lt_of_blk hg3
  have hH' := Lib.hid hH
  clear hH hB2 hB3 hg2 hl2 hl hg3
  go_enter Try.func9, Try.ntmps9
  go_wp2_with fail
  refine hS.mono ?_
  rintro e w' ⟨rfl, d', m, os, hp', hs', rfl⟩
  have ed := two_sorted d' hp' hs'
  subst ed
  go_wp2_with fail
  go_ret
  have sw' : SW enc w3 (W.heap.size + 1) 0 #[false, true] (sortWorld enc w3 (W.heap.size + 1) 0 m #[false, true] os) := ⟨m, os, rfl⟩
  have rw' : Row1 enc w3 (W.heap.size + 1) 0 #[true, false] := ⟨fun _ => rfl, hH'.out, hlt3⟩
  exact ⟨_, rfl, sw'.c1 rw' rfl 0 (by decide), (g1.new g3 (fun i e => .inr (by omega))).new (gr_sorted w3 (W.heap.size + 1) m #[false, true] os) (fun i e => .inr (by omega))⟩
/-- The chapter's examples come out. -/
def AliveOk : Prop := ∀ W : World, Calls Try.prog 4 #[] W fun e w' => e = .returned (.bool true) ∧ G0 W w'
theorem pl0 : Pl 0 := ⟨by decide, by decide⟩
theorem pl3 : Pl 4613937818241073152 := ⟨by decide, by decide⟩
theorem pl4 : Pl 4616189618054758400 := ⟨by decide, by decide⟩
theorem plx : Pl 4586656397421424955 := ⟨by decide, by decide⟩
theorem ply : Pl 4588821589549968463 := ⟨by decide, by decide⟩
theorem mv1 (w : World) : Calls Try.prog 11 #[.complex .f64 0 0, .complex .f64 4613937818241073152 4616189618054758400, .int .i64 5] w fun e w' => e = .returned (.complex .f64 0 0) ∧ G0 w w' :=
  moved_go 0 0 4613937818241073152 4616189618054758400 13837309855095848960 13839561654909534208 4621256167635550208 4625196817309499392 4627730092099895296
    4617315517961601024 4627730092099895296 0 4632233691727265792 4632374429215621120 0 0 9223372036854775808 9223372036854775808 0 0 5
    (by decide +kernel) (by decide +kernel) (by decide +kernel) (by decide +kernel) (by decide +kernel) (by decide +kernel) (by decide +kernel) (by decide +kernel) (by decide +kernel) (by decide +kernel) (by decide +kernel) (by decide +kernel) (by decide +kernel) (by decide +kernel) (by decide +kernel) (by decide +kernel) (by decide +kernel) pl0 pl0 w
theorem mv2 (w : World) : Calls Try.prog 11 #[.complex .f64 0 0, .complex .f64 4613937818241073152 4616189618054758400, .int .i64 0] w fun e w' => e = .returned (.complex .f64 4586656397421424955 4588821589549968463) ∧ G0 w w' :=
  moved_go 0 0 4613937818241073152 4616189618054758400 13837309855095848960 13839561654909534208 4621256167635550208 4625196817309499392 4627730092099895296
    0 0 13851102128954671104 4627730092099895296 4628011567076605952 13830208024914226255 13803186427150003279 4586656397421424955 4588821589549968463 4586656397421424955 4588821589549968463 0
    (by decide +kernel) (by decide +kernel) (by decide +kernel) (by decide +kernel) (by decide +kernel) (by decide +kernel) (by decide +kernel) (by decide +kernel) (by decide +kernel) (by decide +kernel) (by decide +kernel) (by decide +kernel) (by decide +kernel) (by decide +kernel) (by decide +kernel) (by decide +kernel) (by decide +kernel) plx ply w
@[go_sem] theorem ox0 : FloatKind.f64.format.order 4586656397421424955 0 = some .gt := by decide
@[go_sem] theorem oy0 : FloatKind.f64.format.order 4588821589549968463 0 = some .gt := by decide
@[go_sem] theorem o33 : FloatKind.f64.format.order 4613937818241073152 4613937818241073152 = some .eq := by decide
@[go_sem] theorem o44 : FloatKind.f64.format.order 4616189618054758400 4616189618054758400 = some .eq := by decide
set_option maxRecDepth 20000 in
set_option maxHeartbeats 1000000 in
theorem alive_ok : AliveOk := by
  intro W
  have k1 := mv1
  have k2 := mv2
  go_enter Try.func4, Try.ntmps4
  go_wp2_with fail
  refine (new_c 0 0 pl0 pl0 _).mono ?_
  rintro e w1 ⟨p, mb, rfl, c1, g1, hp, hm⟩
  go_wp2_with fail
  refine (hear_c w1 p mb 0 0 0 _ c1 (by omega) 2 5 _ _ 0 0 (by omega) (by omega) pl3 pl4 (by omega) (by omega) mv1).mono ?_
  rintro e w2 ⟨rfl, c2, g2⟩
  go_wp2_with fail
  refine (own_c w2 p mb 0 0 _ _ c2).mono ?_
  rintro e w2' ⟨rfl, rfl⟩
  go_wp2_with fail
  refine (hear_c w2 p mb 0 0 _ _ c2 (by omega) 2 0 _ _ _ _ (by omega) (by omega) pl3 pl4 (by omega) (by omega) mv2).mono ?_
  rintro e w3 ⟨rfl, c3, g3⟩
  have hR2 : ins (ins (fun _ => none) 2 (.complex .f64 4613937818241073152 4616189618054758400)) 2 (.complex .f64 4613937818241073152 4616189618054758400) 2 = some (.complex .f64 4613937818241073152 4616189618054758400) := ins_same _ _ _
  have hR3 : ins (ins (fun _ => none) 2 (.complex .f64 4613937818241073152 4616189618054758400)) 2 (.complex .f64 4613937818241073152 4616189618054758400) 3 = none := by simp [ins]
  go_wp2_with fail
  refine (of_c w3 p mb _ _ _ _ c3 2 _ _ (by decide) hR2).mono ?_
  rintro e w3' ⟨rfl, rfl⟩
  go_wp2_with fail
  have gl := Gr.alloc w3 (.cells #[.int .i64 3, .int .i64 2] 3) (fun _ => False)
  refine (near_c _ p mb _ _ (c3.g0 gl) hR2 hR3 w3.heap.size (heap_alloc_new _ _)).mono ?_
  rintro e w4 ⟨g, rfl, hc, g4⟩
  have c4 := (c3.g0 gl).g0 g4
  go_wp2_with fail
  refine (own_c w4 p mb _ _ _ _ c4).mono ?_
  rintro e w4' ⟨rfl, rfl⟩
  go_wp2_with fail
  refine (own_c w4 p mb _ _ _ _ c4).mono ?_
  rintro e w4' ⟨rfl, rfl⟩
  go_wp2_with fail
  go_ret
  refine ⟨by simp, ?_⟩
  have q : Gr (fun k => k = p ∨ k = mb) w1 w4 := g2.trans (g3.trans ((gl.of0).trans g4.of0))
  exact g1.new q (fun i e => .inr (by omega))
end Go.Proofs.Ytedmfnleckelaaa
